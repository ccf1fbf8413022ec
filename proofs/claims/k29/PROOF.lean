import PyProof.Rows.All
import Wide.All
import OpenK.AllK
import Wide.FinOn
import HandS.ForMost
import HandS.WideBits
import HandS.Gcd
import HandS.IsInst
import HandS.Style
import HandS.SetFor
import HandS.EndBits
import HandS.Codes
import HandS.ForExc
import HandS.Small
import HandS.Exc
import HandS.ExcOwn
import HandS.TryOnly
import HandS.WordsExc
import HandS.ExcInit
import HandS.ExcField
import Flt.RightSqrt
import HandS.GenYield
import HandS.OwnEq
import HandS.TupAny
import PyProof.Draws
import KE.DataMinMax
import HandS.Zip
import KE.GoesZip
import HandS.TupMul
import HandS.Strs
import HandS.Conv
import HandS.DictComp
import HandS.WordsDict
import HandS.Dict
import PySem.Challenge.RW_rootstalls_k29_uneven_rings_judged
set_option Elab.async false
set_option linter.all false
set_option maxRecDepth 100000
set_option maxHeartbeats 4000000
namespace My
/-! ### fractions in lowest terms are the rationals -/
theorem rat_of {n : Int} {d : Nat} {r : Rat} (hd : d ≠ 0) (hc : n.natAbs.Coprime d) (h : Rat.divInt n (d : Int) = r) : r.num = n ∧ r.den = d := by
  subst h
  rw [← Rat.mk_eq_divInt (nz := hd) (c := hc)]
  exact ⟨rfl, rfl⟩
theorem rat_cross {n d : Int} {r : Rat} (hd : d ≠ 0) : Rat.divInt n d = r ↔ n * r.den = r.num * d := by
  have h := Rat.num_divInt_den r
  have hz : (r.den : Int) ≠ 0 := by
    have := r.den_pos
    omega
  constructor
  · intro e
    rw [← h] at e
    exact (Rat.divInt_eq_divInt_iff hd hz).mp e
  · intro e
    rw [← h]
    exact (Rat.divInt_eq_divInt_iff hd hz).mpr e
theorem den_pos (r : Rat) : (0 : Int) < r.den := by
  have := r.den_pos
  omega
theorem gcd_den (r : Rat) : Nat.gcd r.num.natAbs r.den = 1 := r.reduced
/-- the sum -/
theorem add_form (r s : Rat) (g ad bd : Nat) (top : Int) (g1 : Nat) (hg : g = r.den.gcd s.den) (had : ad = r.den / g) (hbd : bd = s.den / g) (ht : top = r.num * bd + s.num * ad) (h1 : g1 = top.natAbs.gcd g) :
    (r + s).num = top / g1 ∧ (r + s).den = ad * (s.den / g1) := by
  have hd := r.den_pos
  have hs := s.den_pos
  have gpos : 0 < g := hg ▸ Nat.gcd_pos_of_pos_left _ hd
  have ae : ad * g = r.den := had ▸ Nat.div_mul_cancel (hg ▸ Nat.gcd_dvd_left ..)
  have be : bd * g = s.den := hbd ▸ Nat.div_mul_cancel (hg ▸ Nat.gcd_dvd_right ..)
  have adpos : 0 < ad := by
    rcases Nat.eq_zero_or_pos ad with e | e
    · rw [e] at ae
      omega
    · exact e
  have aux : top.natAbs.gcd g = top.natAbs.gcd (ad * s.den) := by
    rw [ht]
    exact Rat.add.aux r s hg had hbd
  have g1pos : 0 < g1 := h1 ▸ Nat.gcd_pos_of_pos_right _ gpos
  have d1 : g1 ∣ top.natAbs := h1 ▸ Nat.gcd_dvd_left ..
  have d2 : g1 ∣ g := h1 ▸ Nat.gcd_dvd_right ..
  have d3 : g1 ∣ s.den := Nat.dvd_trans d2 ⟨bd, by rw [← be, Nat.mul_comm]⟩
  have e1 : ad * (s.den / g1) = ad * s.den / g1 := (Nat.mul_div_assoc ad d3).symm
  have d4 : g1 ∣ ad * s.den := Nat.dvd_trans d3 (Nat.dvd_mul_left ..)
  rw [e1]
  have tz : (g1 : Int) ∣ top := Int.ofNat_dvd_left.mpr d1
  have tm : top / g1 * g1 = top := Int.ediv_mul_cancel tz
  have dm : ad * s.den / g1 * g1 = ad * s.den := Nat.div_mul_cancel d4
  have nz : ad * s.den / g1 ≠ 0 := by
    intro e
    rw [e] at dm
    have : 0 < ad * s.den := Nat.mul_pos adpos hs
    omega
  refine rat_of nz ?_ ?_
  · have na : (top / (g1 : Int)).natAbs = top.natAbs / g1 := by
      rw [Int.natAbs_ediv_of_dvd tz, Int.natAbs_natCast]
    rw [na, h1, aux]
    exact Nat.coprime_div_gcd_div_gcd (Nat.gcd_pos_of_pos_right _ (Nat.mul_pos adpos hs))
  · have z1 : (g1 : Int) ≠ 0 := by omega
    have z2 : (g : Int) ≠ 0 := by omega
    rw [← Rat.divInt_mul_right z1, tm, ← Int.natCast_mul, dm, ← Rat.divInt_mul_right z2]
    have er := Rat.num_divInt_den r
    have es := Rat.num_divInt_den s
    have rz : (r.den : Int) ≠ 0 := by omega
    have sz : (s.den : Int) ≠ 0 := by omega
    have key := Rat.divInt_add_divInt r.num s.num rz sz
    rw [er, es] at key
    rw [key]
    have k1 : top * g = r.num * s.den + s.num * r.den := by
      rw [ht, ← be, ← ae, Int.natCast_mul, Int.natCast_mul, Int.add_mul, Int.mul_assoc, Int.mul_assoc]
    have k2 : ((ad * s.den : Nat) : Int) * (g : Int) = r.den * s.den := by
      rw [← ae, Int.natCast_mul, Int.natCast_mul, Int.mul_assoc, Int.mul_comm (s.den : Int), ← Int.mul_assoc]
    rw [k1, k2]
/-- the product -/
theorem mul_form (r s : Rat) (g1 g2 : Nat) (h1 : g1 = r.num.natAbs.gcd s.den) (h2 : g2 = s.num.natAbs.gcd r.den) :
    (r * s).num = r.num / g1 * (s.num / g2) ∧ (r * s).den = r.den / g2 * (s.den / g1) := by
  subst h1 h2
  have e : r * s = Rat.mul r s := rfl
  rw [e]
  unfold Rat.mul
  refine ⟨?_, ?_⟩
  · show r.num.divExact _ _ * s.num.divExact _ _ = _
    rw [Int.divExact_eq_tdiv, Int.divExact_eq_tdiv, Int.tdiv_eq_ediv_of_dvd, Int.tdiv_eq_ediv_of_dvd]
    · exact Int.ofNat_dvd_left.mpr (Nat.gcd_dvd_left ..)
    · exact Int.ofNat_dvd_left.mpr (Nat.gcd_dvd_left ..)
  · show r.den.divExact _ _ * s.den.divExact _ _ = _
    rw [Nat.divExact_eq_div, Nat.divExact_eq_div]
/-- lowest terms of any pair -/
theorem low_form (n d : Int) (hd : d ≠ 0) : (Rat.divInt n d).num = (if d < 0 then n / (-(n.natAbs.gcd d.natAbs : Nat) : Int) else n / (n.natAbs.gcd d.natAbs : Nat)) ∧
    ((Rat.divInt n d).den : Int) = (if d < 0 then d / (-(n.natAbs.gcd d.natAbs : Nat) : Int) else d / (n.natAbs.gcd d.natAbs : Nat)) := by
  have pos : ∀ (n d : Int), 0 < d → (Rat.divInt n d).num = n / (n.natAbs.gcd d.natAbs : Nat) ∧ ((Rat.divInt n d).den : Int) = d / (n.natAbs.gcd d.natAbs : Nat) := by
    intro n d h
    have gp : 0 < n.natAbs.gcd d.natAbs := Nat.gcd_pos_of_pos_right _ (by omega)
    have z1 : ((n.natAbs.gcd d.natAbs : Nat) : Int) ≠ 0 := by omega
    have dn : ((n.natAbs.gcd d.natAbs : Nat) : Int) ∣ n := Int.ofNat_dvd_left.mpr (Nat.gcd_dvd_left ..)
    have dd : ((n.natAbs.gcd d.natAbs : Nat) : Int) ∣ d := Int.ofNat_dvd_left.mpr (Nat.gcd_dvd_right ..)
    have e : d / ((n.natAbs.gcd d.natAbs : Nat) : Int) = ((d.natAbs / n.natAbs.gcd d.natAbs : Nat) : Int) := by
      rw [Int.natCast_ediv]
      congr 1
      omega
    have dpos : d.natAbs / n.natAbs.gcd d.natAbs ≠ 0 := Nat.ne_of_gt (Nat.div_pos (Nat.le_of_dvd (by omega) (Nat.gcd_dvd_right ..)) gp)
    have key := rat_of (n := n / ((n.natAbs.gcd d.natAbs : Nat) : Int)) (d := d.natAbs / n.natAbs.gcd d.natAbs) (r := Rat.divInt n d) dpos
      (by
        rw [Int.natAbs_ediv_of_dvd dn, Int.natAbs_natCast]
        exact Nat.coprime_div_gcd_div_gcd gp)
      (by rw [← e, ← Rat.divInt_mul_right z1, Int.ediv_mul_cancel dn, Int.ediv_mul_cancel dd])
    exact ⟨key.1, by rw [key.2, e]⟩
  rcases Int.lt_or_gt_of_ne hd with h | h
  · rw [if_pos h, if_pos h, ← Rat.neg_divInt_neg]
    have k := pos (-n) (-d) (by omega)
    rw [Int.natAbs_neg, Int.natAbs_neg] at k
    rw [k.1, k.2]
    have dn : ((n.natAbs.gcd d.natAbs : Nat) : Int) ∣ n := Int.ofNat_dvd_left.mpr (Nat.gcd_dvd_left ..)
    have dd : ((n.natAbs.gcd d.natAbs : Nat) : Int) ∣ d := Int.ofNat_dvd_left.mpr (Nat.gcd_dvd_right ..)
    rw [Int.neg_ediv_of_dvd dn, Int.neg_ediv_of_dvd dd, Int.ediv_neg, Int.ediv_neg]
    exact ⟨rfl, rfl⟩
  · have k := pos n d h
    rw [if_neg (by omega), if_neg (by omega)]
    exact k
theorem low_self (r : Rat) : Rat.divInt r.num r.den = r := Rat.num_divInt_den r
/-! ### sizes -/
def Bd (k : Nat) (r : Rat) : Prop := r.num.natAbs < 2 ^ k ∧ r.den < 2 ^ k
theorem Bd.mono {k l : Nat} {r : Rat} (h : Bd k r) (hl : k ≤ l) : Bd l r := ⟨Nat.lt_of_lt_of_le h.1 (Nat.pow_le_pow_right (by decide) hl), Nat.lt_of_lt_of_le h.2 (Nat.pow_le_pow_right (by decide) hl)⟩
theorem nat_mul_lt {a b k l : Nat} (ha : a < 2 ^ k) (hb : b < 2 ^ l) : a * b < 2 ^ (k + l) := by
  rw [Nat.pow_add]
  exact Nat.mul_lt_mul'' ha hb
theorem Bd.divInt {k : Nat} {n d : Int} (hd : d ≠ 0) (h1 : n.natAbs < 2 ^ k) (h2 : d.natAbs < 2 ^ k) : Bd k (Rat.divInt n d) := by
  obtain ⟨a, b⟩ := low_form n d hd
  have dn : ((n.natAbs.gcd d.natAbs : Nat) : Int) ∣ n := Int.ofNat_dvd_left.mpr (Nat.gcd_dvd_left ..)
  have dd : ((n.natAbs.gcd d.natAbs : Nat) : Int) ∣ d := Int.ofNat_dvd_left.mpr (Nat.gcd_dvd_right ..)
  have dp := (Rat.divInt n d).den_pos
  refine ⟨Nat.lt_of_le_of_lt ?_ h1, Nat.lt_of_le_of_lt ?_ h2⟩
  · rw [a]
    split
    · rw [Int.ediv_neg, Int.natAbs_neg, Int.natAbs_ediv_of_dvd dn]
      exact Nat.div_le_self _ _
    · rw [Int.natAbs_ediv_of_dvd dn]
      exact Nat.div_le_self _ _
  · have e : (Rat.divInt n d).den = ((Rat.divInt n d).den : Int).natAbs := (Int.natAbs_natCast _).symm
    rw [e, b]
    split
    · rw [Int.ediv_neg, Int.natAbs_neg, Int.natAbs_ediv_of_dvd dd]
      exact Nat.div_le_self _ _
    · rw [Int.natAbs_ediv_of_dvd dd]
      exact Nat.div_le_self _ _
theorem Bd.add {k l : Nat} {r s : Rat} (hr : Bd k r) (hs : Bd l s) : Bd (k + l + 1) (r + s) := by
  have rz : (r.den : Int) ≠ 0 := Int.ne_of_gt (den_pos r)
  have sz : (s.den : Int) ≠ 0 := Int.ne_of_gt (den_pos s)
  have key := Rat.divInt_add_divInt r.num s.num rz sz
  rw [low_self, low_self] at key
  rw [key]
  have a := nat_mul_lt hr.1 hs.2
  have b := nat_mul_lt hs.1 hr.2
  have c := nat_mul_lt hr.2 hs.2
  rw [Nat.add_comm l k] at b
  refine Bd.divInt (Int.mul_ne_zero rz sz) ?_ ?_
  · have h1 : (r.num * (s.den : Int) + s.num * (r.den : Int)).natAbs ≤ (r.num * (s.den : Int)).natAbs + (s.num * (r.den : Int)).natAbs := Int.natAbs_add_le _ _
    rw [Int.natAbs_mul, Int.natAbs_mul, Int.natAbs_natCast, Int.natAbs_natCast] at h1
    rw [Nat.pow_succ]
    omega
  · rw [Int.natAbs_mul, Int.natAbs_natCast, Int.natAbs_natCast, Nat.pow_succ]
    omega
theorem Bd.mul {k l : Nat} {r s : Rat} (hr : Bd k r) (hs : Bd l s) : Bd (k + l) (r * s) := by
  have rz : (r.den : Int) ≠ 0 := Int.ne_of_gt (den_pos r)
  have sz : (s.den : Int) ≠ 0 := Int.ne_of_gt (den_pos s)
  have key := Rat.divInt_mul_divInt r.num s.num (d₁ := r.den) (d₂ := s.den)
  rw [low_self, low_self] at key
  rw [key]
  refine Bd.divInt (Int.mul_ne_zero rz sz) ?_ ?_
  · rw [Int.natAbs_mul]
    exact nat_mul_lt hr.1 hs.1
  · rw [Int.natAbs_mul, Int.natAbs_natCast, Int.natAbs_natCast]
    exact nat_mul_lt hr.2 hs.2
theorem Bd.neg {k : Nat} {r : Rat} (hr : Bd k r) : Bd k (-r) := by
  refine ⟨?_, ?_⟩
  · rw [Rat.neg_num, Int.natAbs_neg]
    exact hr.1
  · rw [Rat.neg_den]
    exact hr.2
theorem Bd.sub {k l : Nat} {r s : Rat} (hr : Bd k r) (hs : Bd l s) : Bd (k + l + 1) (r - s) := by
  rw [Rat.sub_eq_add_neg]
  exact hr.add hs.neg
theorem inv_num {s : Rat} (h : s ≠ 0) : (if s.num < 0 then -(s.den : Int) else s.den) = (s⁻¹).num ∧ (if s.num < 0 then -s.num else s.num) = (s⁻¹).den := by
  have hn : s.num ≠ 0 := fun e => h (Rat.num_eq_zero.mp e)
  rw [Rat.num_inv, Rat.den_inv, if_neg hn]
  split
  · rename_i g
    rw [Int.sign_eq_neg_one_of_neg g]
    omega
  · rename_i g
    rw [Int.sign_eq_one_of_pos (by omega)]
    omega
theorem Bd.inv {k : Nat} {s : Rat} (h : s ≠ 0) (hs : Bd k s) : Bd k s⁻¹ := by
  obtain ⟨a, b⟩ := inv_num h
  have dp := den_pos s
  refine ⟨?_, ?_⟩
  · rw [← a]
    have := hs.2
    split <;> omega
  · have := hs.1
    have e : (s⁻¹).den = ((s⁻¹).den : Int).natAbs := (Int.natAbs_natCast _).symm
    rw [e, ← b]
    split <;> omega
theorem Bd.div {k l : Nat} {r s : Rat} (h : s ≠ 0) (hr : Bd k r) (hs : Bd l s) : Bd (k + l) (r / s) := by
  rw [Rat.div_def]
  exact hr.mul (hs.inv h)
end My
namespace My
open PySem PySem.Spec PyProof.Rows L2
theorem and_sw {A B : Prop} (b : B) (a : A) : A ∧ B := ⟨a, b⟩
theorem if_dec {p : Prop} [Decidable p] {A B : Prop} (h1 : p → A) (h2 : ¬ p → B) : if decide p = true then A else B := by
  by_cases h : p
  · rw [if_pos (decide_eq_true h)]
    exact h1 h
  · rw [if_neg (fun q => h (of_decide_eq_true q))]
    exact h2 h
theorem if_ndec {p : Prop} [Decidable p] {A B : Prop} (h1 : ¬ p → A) (h2 : p → B) : if (!decide p) = true then A else B := by
  by_cases h : p
  · rw [decide_eq_true h]
    exact iteF (h2 h)
  · rw [decide_eq_false h]
    exact iteT (h1 h)
/-- // by a divisor that is not 0, below 2 ^ 9000 -/
def CDivX (_ j : Int) : Prop := j ≠ 0 ∧ j.natAbs.log2 < 9000
section
variable {X : Cx}
theorem op_fdivX : OpR X (binaryOp .FloorDiv) (rI CDivX fun i j => .int (i.fdiv j)) := opI fun _ _ _ _ _ _ _ hc q => floordiv_int hc.1 q (.inl (PyProof.noPylong_of_log2 hc.2))
end
theorem cdivx {i j : Int} {b : Nat} (h : j ≠ 0) (hb : j.natAbs < 2 ^ b) (h9 : b ≤ 9000) : CDivX i j := by
  refine ⟨h, ?_⟩
  by_cases h0 : b = 0
  · subst h0
    omega
  · exact Nat.lt_of_lt_of_le (PySem.Flt.log2_lt_of (by omega) hb) h9
/-! ### heaps: all that was there, but what stands at D, stands -/
def Fw (D : Addr) (H H' : Hp) : Prop := ∀ b o, b ≠ D → H b = some o → H' b = some o
theorem Fw.refl (D : Addr) (H : Hp) : Fw D H H := fun _ _ _ h => h
theorem Fw.trans {D : Addr} {H H1 H2 : Hp} (a : Fw D H H1) (b : Fw D H1 H2) : Fw D H H2 := fun c o n h => b c o n (a c o n h)
theorem Same.fw {D : Addr} {H H' : Hp} (s : Same H H') : Fw D H H' := fun b o _ h => s b o h
theorem same_upd {H : Hp} {p : Addr} {o : HO} (h : H p = none) : Same H (upd H p o) := fun b x e => by
  rw [upd_ne (ne_of_none e h)]
  exact e
theorem fw_upd {D : Addr} {H : Hp} {o : HO} : Fw D H (upd H D o) := fun b x n e => by
  rw [upd_ne n]
  exact e
/-! ### the deck -/
def Deck (M : Nat) (D C : Addr) (H : Hp) (c : Nat) : Prop := ∃ (cells : List Int) (pl rest cnt : Int), C ≠ D ∧ H D = some (.lst [.ref C, .int pl, .int rest, .int cnt]) ∧ H C = some (.lst (cells.map V.int)) ∧
  cells.length ≤ 63 ∧ (∀ z ∈ cells, z.natAbs < 2 ^ M) ∧ (0 ≤ rest ∧ rest.natAbs < 2 ^ M) ∧ 0 ≤ cnt ∧ cnt ≤ c
theorem Deck.same {M : Nat} {D C : Addr} {H H' : Hp} {c : Nat} (d : Deck M D C H c) (s : Same H H') : Deck M D C H' c := by
  obtain ⟨cells, pl, rest, cnt, h0, h1, h2, h3⟩ := d
  exact ⟨cells, pl, rest, cnt, h0, s _ _ h1, s _ _ h2, h3⟩
theorem Deck.mono {M : Nat} {D C : Addr} {H : Hp} {c c' : Nat} (d : Deck M D C H c) (h : c ≤ c') : Deck M D C H c' := by
  obtain ⟨cells, pl, rest, cnt, h0, h1, h2, h3, h4, h5, h6, h7⟩ := d
  exact ⟨cells, pl, rest, cnt, h0, h1, h2, h3, h4, h5, h6, by omega⟩
theorem Deck.ne {M : Nat} {D C p : Addr} {H : Hp} {c : Nat} (d : Deck M D C H c) (h : H p = none) : p ≠ D := by
  obtain ⟨cells, pl, rest, cnt, h0, h1, h2⟩ := d
  exact (ne_of_none h1 h).symm
theorem Deck.neC {M : Nat} {D C p : Addr} {H : Hp} {c : Nat} (d : Deck M D C H c) (h : H p = none) : p ≠ C := by
  obtain ⟨cells, pl, rest, cnt, h0, h1, h2, _⟩ := d
  exact (ne_of_none h2 h).symm
theorem Deck.put {M : Nat} {D C p : Addr} {H : Hp} {c : Nat} {o : HO} (d : Deck M D C H c) (n1 : p ≠ D) (n2 : p ≠ C) : Deck M D C (upd H p o) c := by
  obtain ⟨cells, pl, rest, cnt, h0, h1, h2, h3⟩ := d
  exact ⟨cells, pl, rest, cnt, h0, (upd_ne (Ne.symm n1)).trans h1, (upd_ne (Ne.symm n2)).trans h2, h3⟩
theorem pow_le {a b : Nat} (h : a ≤ b) : (2 : Nat) ^ a ≤ 2 ^ b := Nat.pow_le_pow_right (by decide) h
theorem div_small {i j : Int} {M : Nat} (h0 : 0 ≤ i) (h : i.natAbs < 2 ^ M) (hj : 0 < j) : 0 ≤ i.fdiv j ∧ (i.fdiv j).natAbs < 2 ^ M := by
  rw [Int.fdiv_eq_ediv_of_nonneg i (by omega)]
  have a := Int.ediv_nonneg h0 (Int.le_of_lt hj)
  have b : i / j ≤ i := Int.ediv_le_self j h0
  exact ⟨a, by omega⟩
end My
namespace My
open PySem PySem.Spec PyProof.Rows L2
theorem at_ints {cells : List Int} {i : Int} (h0 : 0 ≤ i) (h1 : i < ((cells.map V.int).length : Nat)) : ∃ z, z ∈ cells ∧ atI (cells.map V.int) i = some (.int z) := by
  obtain ⟨j, rfl⟩ := Int.eq_ofNat_of_zero_le h0
  rw [List.length_map] at h1
  have hj : j < cells.length := by omega
  refine ⟨cells[j], List.getElem_mem hj, atI_nat ?_⟩
  rw [List.getElem?_map, List.getElem?_eq_getElem hj]
  rfl
theorem bits_lt {z : Int} {M : Nat} (h : Builtin.Int.intBits z ≤ M) : z.natAbs < 2 ^ M := by
  unfold Builtin.Int.intBits at h
  split at h
  · rename_i e
    have e' : z = 0 := by simpa using e
    subst e'
    exact Nat.two_pow_pos M
  · have := Nat.lt_log2_self (n := z.natAbs)
    exact Nat.lt_of_lt_of_le this (pow_le h)
theorem pw_big {z cnt : Int} {c M : Nat} (hz : z.natAbs < 2 ^ M) (hM : 64 ≤ M) (h0 : 0 ≤ cnt) (h1 : cnt ≤ c) (hc : c ≤ 2 ^ 40) : (z + 7919 * (cnt + 1) + 1).natAbs < 2 ^ (M + 1) := by
  have e : (2 : Nat) ^ 64 ≤ 2 ^ M := pow_le hM
  rw [Nat.pow_succ]
  generalize (2 : Nat) ^ M = p at *
  omega
theorem fdiv_dvd {a b : Int} (h : b ∣ a) : a.fdiv b = a / b := by
  obtain ⟨c, rfl⟩ := h
  by_cases hb : b = 0
  · subst hb
    rw [Int.zero_mul]
    simp
  · rw [Int.mul_fdiv_cancel_left _ hb, Int.mul_ediv_cancel_left _ hb]
theorem mod_rng (x : Int) {m : Int} (h : 0 < m) : 0 ≤ x % m ∧ x % m < m := ⟨Int.emod_nonneg _ (by omega), Int.emod_lt_of_pos _ h⟩
end My
namespace My
open PySem PySem.Spec PyProof.Rows L2
theorem cpow_of {i j : Int} (h : 0 ≤ j ∧ j ≤ 1000000 ∧ i.natAbs < 2 ^ 64) : CPow i j := h
theorem ten18 : (0 : Int) ≤ 10 ^ (18 : Int).toNat := by decide
theorem cmul_small {i j : Int} (h : i.natAbs < 2 ^ 64) (h2 : j.natAbs < 2 ^ 64) : CMulX i j := mulx_ok h h2 (by decide)
theorem cmul_big {i j : Int} {M : Nat} (h : i.natAbs < 2 ^ M) (h2 : j.natAbs < 2 ^ 64) (hM : M ≤ 100000000) : CMulX i j := mulx_ok h h2 (by omega)
theorem pick_mul2 (x : Int) {m k : Int} (h0 : 0 < m) (hm : m.natAbs < 2 ^ 32) (hk : k.natAbs < 2 ^ 32) {d : Int} (hd : 0 < d) : CMulX (x % m) ((x % m).fdiv d + k) := by
  obtain ⟨a, b⟩ := mod_rng x h0
  rw [Int.fdiv_eq_ediv_of_nonneg _ (by omega)]
  have c := Int.ediv_nonneg a (Int.le_of_lt hd)
  have e : (x % m) / d ≤ x % m := Int.ediv_le_self d a
  exact cmul_small (by omega) (by omega)
end My
namespace My
open PySem PySem.Spec PyProof.Rows L2
variable {K : PySem.W.Frag}
/-! ### isinstance -/
section
variable {K : PySem.W.Frag} {H : Hp} {Q : VK}
theorem isi_int_int {i : Int} (q : Q (.bl true) H) : rIsi K [.int i, .ty "int"] H Q := ⟨_, _, _, _, _, rfl, .ty _, .base (.int _), kit_ty (by decide +kernel), q⟩
theorem isi_int_bool {i : Int} (q : Q (.bl false) H) : rIsi K [.int i, .ty "bool"] H Q := ⟨_, _, _, _, _, rfl, .ty _, .base (.int _), kit_ty (by decide +kernel), q⟩
theorem isi_bl_bool {b : Bool} (q : Q (.bl true) H) : rIsi K [.bl b, .ty "bool"] H Q := ⟨_, _, _, _, _, rfl, .ty _, .base (.bl _), kit_ty (by decide +kernel), q⟩
theorem isi_tup_tup {p : Addr} {xs : List V} (h : H p = some (.tup xs)) (q : Q (.bl true) H) : rIsi K [.ref p, .ty "tuple"] H Q := ⟨_, _, _, _, _, rfl, .ty _, .base (.tup h), kit_ty (by decide +kernel), q⟩
end
/-! ### a fraction that stands in the heap -/
abbrev frV (r : Rat) : List V := [.int r.num, .int r.den]
/-- a tuple: in the heap, or one of the module's own -/
def Tp (K : PySem.W.Frag) (H : Hp) (p : Addr) (xs : List V) : Prop := H p = some (.tup xs) ∨ SqT K (fun _ => none) p xs
theorem Tp.same {H H' : Hp} {p : Addr} {xs : List V} (s : Same H H') (h : Tp K H p xs) : Tp K H' p xs := h.imp (fun h => s _ _ h) id
theorem Tp.sq {H : Hp} {p : Addr} {xs : List V} (h : Tp K H p xs) : SqT K H p xs := by
  rcases h with h | (h | ⟨_, h⟩) | h
  · exact .of h
  · cases h
  · cases h
  · exact .inr h
def IsF (K : PySem.W.Frag) (H : Hp) (v : V) (r : Rat) : Prop := ∃ p, v = .ref p ∧ Tp K H p (frV r)
theorem IsF.same {H H' : Hp} {v : V} {r : Rat} (s : Same H H') (h : IsF K H v r) : IsF K H' v r := by
  obtain ⟨p, e, h⟩ := h
  exact ⟨p, e, h.same s⟩
theorem Tp.new {H : Hp} {p : Addr} {xs : List V} : Tp K (upd H p (.tup xs)) p xs := .inl upd_same
theorem at_same {H H' : Hp} {p : Addr} {o : HO} (s : Same H H') (h : H p = some o) : H' p = some o := s _ _ h
theorem Tp.fw {M : Nat} {D C : Addr} {c : Nat} {H H' : Hp} {p : Addr} {xs : List V} (d : Deck M D C H c) (s : Fw D H H') (h : Tp K H p xs) : Tp K H' p xs := by
  obtain ⟨cells, pl, rest, cnt, h0, h1, h2⟩ := d
  exact h.imp (fun h => s _ _ (ne_of h h1 (by intro z; cases z)) h) id
theorem IsF.fw {M : Nat} {D C : Addr} {c : Nat} {H H' : Hp} {v : V} {r : Rat} (d : Deck M D C H c) (s : Fw D H H') (h : IsF K H v r) : IsF K H' v r := by
  obtain ⟨p, e, h⟩ := h
  exact ⟨p, e, h.fw d s⟩
/-- all tuples stand -/
def Tps (H H' : Hp) : Prop := ∀ b xs, H b = some (.tup xs) → H' b = some (.tup xs)
theorem Tp.ts {H H' : Hp} {p : Addr} {xs : List V} (f : Tps H H') (h : Tp K H p xs) : Tp K H' p xs := h.imp (fun h => f _ _ h) id
theorem isi_tp {K' : PySem.W.Frag} {H : Hp} {Q : VK} {p : Addr} {xs : List V} (h : Tp K' H p xs) (hk : K' = K) (q : Q (.bl true) H) : rIsi K [.ref p, .ty "tuple"] H Q := by
  subst hk
  rcases h with h | (h | ⟨_, h⟩) | ⟨o, its, n, h1, h2, _⟩
  · exact ⟨_, _, _, _, _, rfl, .ty _, .base (.tup h), kit_ty (by decide +kernel), q⟩
  · cases h
  · cases h
  · exact ⟨_, _, _, _, _, rfl, .ty _, .kTuple h1 h2, kit_ty (by decide +kernel), q⟩
theorem isF_new {H : Hp} {p : Addr} {a b : Int} {r : Rat} (h1 : r.num = a) (h2 : (r.den : Int) = b) : IsF K (upd H p (.tup [.int a, .int b])) (.ref p) r := by
  subst h1 h2
  exact ⟨p, rfl, .new⟩
def frD (r : Rat) : PyData := .tuple [.int r.num, .int r.den]
theorem IsF.dp {K : PySem.W.Frag} {H : Hp} {v : V} {r : Rat} (h : IsF K H v r) : Dp K H v (frD r) := by
  obtain ⟨p, rfl, h⟩ := h
  exact .tup h.sq (.cons (.int _) (.cons (.int _) .nil))
theorem frD_shaped (r : Rat) : SeqAt.shaped (frD r) = true := by rfl
theorem frD_eqv (r s : Rat) : PyData.eqv (frD r) (frD s) = decide (r = s) := by
  have e : PyData.eqv (frD r) (frD s) = (decide (r.num = s.num) && decide ((r.den : Int) = s.den)) := by
    simp only [frD, PyData.eqv, PyData.eqvAll, Bool.and_true, Bool.beq_eq_decide_eq]
  rw [e, Bool.eq_iff_iff]
  simp only [Bool.and_eq_true, decide_eq_true_eq]
  constructor
  · rintro ⟨a, b⟩
    exact Rat.ext a (by omega)
  · rintro rfl
    exact ⟨rfl, rfl⟩
theorem eqF {K : PySem.W.Frag} {H : Hp} {v w : V} {r s : Rat} {Q : VK} (h1 : IsF K H v r) (h2 : IsF K H w s) (q : Q (.bl (decide (r = s))) H) : rEqD K v w H Q := ⟨_, _, h1.dp, h2.dp, frD_shaped r, frD_shaped s, by rw [frD_eqv]; exact q⟩
theorem neF {K : PySem.W.Frag} {H : Hp} {v w : V} {r s : Rat} {Q : VK} (h1 : IsF K H v r) (h2 : IsF K H w s) (q : Q (.bl (!decide (r = s))) H) : rNeD K v w H Q := ⟨_, _, h1.dp, h2.dp, frD_shaped r, frD_shaped s, by rw [frD_eqv]; exact q⟩
end My
namespace My
open PySem PySem.Spec PyProof.Rows L2
/-! ### calls of built-ins by named readings -/
def rInt : List V → Hp → VK → Prop := fun xs H Q => (∃ i, xs = [.int i] ∧ Q (.int i) H) ∨ ∃ k, xs = [.bl k] ∧ Q (.int (if k then 1 else 0)) H
def rLen (K : PySem.W.Frag) : List V → Hp → VK → Prop := fun xs H Q => ∃ p ys, xs = [.ref p] ∧ (SqL K H p ys ∨ SqT K H p ys) ∧ Q (.int ys.length) H
def rAbs : List V → Hp → VK → Prop := fun xs H Q => ∃ i, xs = [.int i] ∧ Q (.int (if i < 0 then -i else i)) H
def rMin : List V → Hp → VK → Prop := fun xs H Q => ∃ i j, xs = [.int i, .int j] ∧ Q (.int (if j < i then j else i)) H
theorem call_intN {X : Cx} : CallR X (.type "int") rInt := call_int1
theorem call_lenN {X : Cx} : CallR X (.builtin "len") (rLen X.K) := call_len_seq
theorem call_absN {X : Cx} : CallR X (.builtin "abs") rAbs := call_abs
theorem call_minN {X : Cx} (hc : X.calm = true) : CallR X (.builtin "min") rMin := call_min2 hc
/-! ### a reading, one step a rule: each says what its left side asks first -/
section
variable {σ : L2.St} {H : Hp} {Q : VK} {K : PySem.W.Frag} {D : Ends} {ta tb te : TE} {t : TA} {i : Nat} {v x y : V}
theorem rd_var (e : σ[i]? = some (some v)) (q : Q v H) : tVar i σ H Q := ⟨v, e, q⟩
theorem rd_C (q : Q v H) : tC v σ H Q := q
theorem rd_op {r : R2} (h : ta σ H fun x H1 => tb σ H1 fun y H2 => r x y H2 Q) : tOp r ta tb σ H Q := h
theorem rd_un {r : V → Hp → VK → Prop} (h : ta σ H fun x H1 => r x H1 Q) : tUn r ta σ H Q := h
theorem rd_CB {r : List V → Hp → VK → Prop} (h : t σ H fun vs H1 => r vs H1 Q) : tCB r t σ H Q := h
theorem rd_nil {Q : List V → Hp → Prop} (q : Q [] H) : tNil σ H Q := q
theorem rd_cons {Q : List V → Hp → Prop} (h : ta σ H fun x H1 => t σ H1 fun xs H2 => Q (x :: xs) H2) : tCons ta t σ H Q := h
theorem rd_call {sp : Sp} {dvs : List V} {E : XK} (h : t σ H fun vs H1 => sp (vs ++ dvs) H1 Q E) : tCall sp dvs E t σ H Q := h
theorem rd_rI {C : Int → Int → Prop} {g : Int → Int → V} {i j : Int} (q : Q (g i j) H) (c : C i j) : rI C g (.int i) (.int j) H Q := ⟨i, j, rfl, rfl, c, q⟩
theorem rd_rI0 {g : Int → Int → V} {i j : Int} (q : Q (g i j) H) : rI0 g (.int i) (.int j) H Q := ⟨i, j, rfl, rfl, q⟩
theorem rd_rU {g : Int → V} {i : Int} (q : Q (g i) H) : rU g (.int i) H Q := ⟨i, rfl, q⟩
theorem rd_eq (s : scal x y = true) (q : Q (.bl (decide (x = y))) H) : rEq x y H Q := ⟨s, q⟩
theorem rd_ne (s : scal x y = true) (q : Q (.bl (!decide (x = y))) H) : rNe x y H Q := ⟨s, q⟩
theorem int_eq {i j : Int} : (V.int i = V.int j) = (i = j) := by simp
theorem rd_eqI {i j : Int} (q : Q (.bl (decide (i = j))) H) : rEq (.int i) (.int j) H Q := ⟨rfl, by simpa using q⟩
theorem rd_neI {i j : Int} (q : Q (.bl (!decide (i = j))) H) : rNe (.int i) (.int j) H Q := ⟨rfl, by simpa using q⟩
theorem rd_ixL {p : Addr} {xs : List V} {i : Int} {v : V} (h : H p = some (.lst xs)) (e : atI xs i = some v) (q : Q v H) : rIxL K (.ref p) (.int i) H Q := ⟨p, xs, i, v, rfl, rfl, .of h, e, q⟩
theorem rd_ixT {p : Addr} {xs : List V} {i : Int} {v : V} (h : H p = some (.tup xs)) (e : atI xs i = some v) (q : Q v H) : rIxT K (.ref p) (.int i) H Q := ⟨p, xs, i, v, rfl, rfl, .of h, e, q⟩
theorem rd_ixTp {K' : PySem.W.Frag} {p : Addr} {xs : List V} {i : Int} {v : V} (h : Tp K' H p xs) (hk : K' = K) (e : atI xs i = some v) (q : Q v H) : rIxT K (.ref p) (.int i) H Q := ⟨p, xs, i, v, rfl, rfl, hk ▸ h.sq, e, q⟩
theorem rd_setL {p : Addr} {xs : List V} {k : Int} {j : Nat} {Q : Hp → Prop} (h : H p = some (.lst xs)) (e : ixN xs.length k = some j) (q : Q (upd H p (.lst (xs.set j v)))) : rSetL (.ref p) (.int k) v H Q := ⟨p, xs, k, j, rfl, rfl, h, e, q⟩
theorem rd_gcd {a b : Int} (q : Q (.int ((Nat.gcd a.natAbs b.natAbs : Nat) : Int)) H) : rGcd [.int a, .int b] H Q := ⟨a, b, rfl, q⟩
theorem rd_bits (h : te σ H fun x H1 => ∃ i, x = .int i ∧ Q (.int (Builtin.Int.intBits i : Nat)) H1) : tBits te σ H Q := h
theorem rd_tup (h : t σ H fun xs H1 => xs.length ≤ sizeLine ∧ ∀ p, H1 p = none → Q (.ref p) (upd H1 p (.tup xs))) : tTup t σ H Q := h
theorem rd_lst (h : t σ H fun xs H1 => xs.length ≤ sizeLine ∧ ∀ p, H1 p = none → Q (.ref p) (upd H1 p (.lst xs))) : tLst t σ H Q := h
theorem rd_sl {r : V → Option Int → Option Int → Hp → VK → Prop} {tl th : TO} (h : te σ H fun x H1 => tl σ H1 fun l H2 => th σ H2 fun u H3 => r x l u H3 Q) : tSl r te tl th σ H Q := h
theorem rd_part {Q : Option Int → Hp → Prop} (h : te σ H fun x H1 => ∃ i, x = .int i ∧ Q (some i) H1) : tPart te σ H Q := h
theorem rd_nopart {Q : Option Int → Hp → Prop} (h : Q none H) : tNoPart σ H Q := h
theorem rd_slL {a : Addr} {xs : List V} {lo hi : Option Int} (h : SqL K H a xs) (q : ∀ p, H p = none → Q (.ref p) (upd H p (.lst (cutV xs lo hi)))) : rSlL K (.ref a) lo hi H Q := ⟨a, xs, rfl, h, q⟩
theorem rd_bm {T : String} {r : V → List V → Hp → VK → Prop} (h : te σ H fun x H1 => tyV K T x H1 ∧ t σ H1 fun xs H2 => r x xs H2 Q) : tBM K T r te t σ H Q := h
theorem rd_chain {r r' : R2} (h : ta σ H fun x H1 => tb σ H1 fun y H2 => r x y H2 fun z H3 => ∃ k, z = .bl k ∧ (if k = true then te σ H3 fun w' H4 => r' y w' H4 Q else Q (.bl false) H3)) : tChain r r' ta tb te σ H Q := h
theorem rd_andV (h : ta σ H fun x H1 => ∃ c, x = .bl c ∧ if c = true then tb σ H1 Q else Q (.bl false) H1) : tAndV ta tb σ H Q := h
theorem rd_orV (h : ta σ H fun x H1 => ∃ c, x = .bl c ∧ if c = true then Q (.bl true) H1 else tb σ H1 Q) : tOrV ta tb σ H Q := h
theorem rd_notV (h : ta σ H fun x H1 => ∃ c, x = .bl c ∧ Q (.bl (!c)) H1) : tNotV ta σ H Q := h
theorem rd_ifE {c : TT} (h : c σ H fun c H1 => if c = true then ta σ H1 Q else tb σ H1 Q) : tIf c ta tb σ H Q := h
section
variable {Q : Bool → Hp → Prop} {u u' : TT}
theorem rd_test (h : te σ H fun x H' => ∃ k, x = .bl k ∧ Q k H') : tTest te σ H Q := h
theorem rd_B (h : te σ H fun x H1 => ∃ c, x = .bl c ∧ Q c H1) : tB te σ H Q := h
theorem rd_not (h : u σ H fun c H1 => Q (!c) H1) : tNot u σ H Q := h
theorem rd_and (h : u σ H fun c H1 => if c = true then u' σ H1 Q else Q false H1) : tAnd u u' σ H Q := h
theorem rd_or (h : u σ H fun c H1 => if c = true then Q true H1 else u' σ H1 Q) : tOr u u' σ H Q := h
theorem rd_yes (q : Q true H) : tYes σ H Q := q
end
section
variable {s s' : TS} {g : TG} {gs : TGs}
theorem rd_seq (h : s { D with nx := s' D } σ H) : tSeq s s' D σ H := h
theorem rd_next (h : D.nx σ H) : tNext D σ H := h
theorem rd_drop (h : te σ H fun _ H1 => D.nx σ H1) : tDrop te D σ H := h
theorem rd_ret (h : te σ H D.rt) : tRet te D σ H := h
theorem rd_ifS {c : TT} (h : c σ H fun b H1 => if b = true then s D σ H1 else s' D σ H1) : tIfS c s s' D σ H := h
theorem rd_asg (h : te σ H fun x H1 => g x σ H1 D.nx) : tAsg te g D σ H := h
theorem rd_gName {Q : L2.St → Hp → Prop} (h : Q (σ.set i (some v)) H) : gName i v σ H Q := h
theorem rd_gSub {Q : L2.St → Hp → Prop} {ts : TSet} (h : ta σ H fun o H1 => tb σ H1 fun i H2 => ts o i v H2 fun H3 => Q σ H3) : gSub ta tb ts v σ H Q := h
theorem rd_gTup {Q : L2.St → Hp → Prop} {p : Addr} {xs : List V} {n : Nat} (h : H p = some (.tup xs)) (e : xs.length = n) (q : gs xs σ H Q) : gTup K n gs (.ref p) σ H Q := ⟨p, xs, rfl, .of h, e, q⟩
theorem rd_gTp {K' : PySem.W.Frag} {Q : L2.St → Hp → Prop} {p : Addr} {xs : List V} {n : Nat} (h : Tp K' H p xs) (hk : K' = K) (e : xs.length = n) (q : gs xs σ H Q) : gTup K n gs (.ref p) σ H Q := ⟨p, xs, rfl, hk ▸ h.sq, e, q⟩
theorem rd_gNil {Q : L2.St → Hp → Prop} (q : Q σ H) : gNil [] σ H Q := ⟨rfl, q⟩
theorem rd_gCons {Q : L2.St → Hp → Prop} {r : List V} (h : g v σ H fun σ' H' => gs r σ' H' Q) : gCons g gs (v :: r) σ H Q := ⟨v, r, rfl, h⟩
theorem rd_for {wi : TI} (h : wi σ H fun J H1 => ∃ W : Nat → Nat → L2.St → Hp → Prop, (∃ m, W 0 m σ H1) ∧ ∀ i m σ H, W i m σ H →
  (J.stop i H ∧ D.nx σ H) ∨ (J.go i H ∧ ∃ N : L2.St → Hp → Prop, (∀ σ' H', N σ' H' → ∃ m', m' < m ∧ W (i + 1) m' σ' H') ∧ ∀ x H', J.yld i H x H' → g x σ H' fun σ2 H2 => s { D with nx := N, ct := N, bk := D.nx } σ2 H2)) : tFor wi g s D σ H := h
theorem rd_rng1 {R : It → Hp → Prop} (h : t σ H fun vs H1 => ∃ j : Int, vs = [.int j] ∧ -(2 ^ 62) ≤ j ∧ j < 2 ^ 62 ∧ R (Itr 0 j.toNat) H1) : iRng1 t σ H R := h
theorem rd_itL {R : It → Hp → Prop} (h : te σ H fun x H1 => ∃ a, x = .ref a ∧ (∃ xs, SqL K H1 a xs) ∧ R (Itl K a) H1) : iList K te σ H R := h
theorem rd_itT {R : It → Hp → Prop} (h : te σ H fun x H1 => ∃ a, x = .ref a ∧ (∃ xs, SqT K H1 a xs) ∧ R (Itt K a) H1) : iTup K te σ H R := h
end
theorem if_T {p : Prop} [Decidable p] {A B : Prop} (hp : p) (h : A) : if decide p = true then A else B := by
  rw [if_pos (decide_eq_true hp)]
  exact h
theorem if_F {p : Prop} [Decidable p] {A B : Prop} (hp : ¬ p) (h : B) : if decide p = true then A else B := by
  rw [if_neg (fun q => hp (of_decide_eq_true q))]
  exact h
theorem if_nF {p : Prop} [Decidable p] {A B : Prop} (hp : p) (h : B) : if (!decide p) = true then A else B := by
  rw [decide_eq_true hp]
  exact iteF h
theorem if_nT {p : Prop} [Decidable p] {A B : Prop} (hp : ¬ p) (h : A) : if (!decide p) = true then A else B := by
  rw [decide_eq_false hp]
  exact iteT h
theorem ite_nt {A B : Prop} (h : B) : if (!true) = true then A else B := iteF h
theorem ite_nf {A B : Prop} (h : A) : if (!false) = true then A else B := iteT h
theorem rd_len {xs : List V} {R : Prop} (q : R) (h : xs.length.ble sizeLine = true) : xs.length ≤ sizeLine ∧ R := ⟨Nat.le_of_ble_eq_true h, q⟩
theorem rd_lenL {p : Addr} {xs : List V} (q : Q (.int xs.length) H) (h : H p = some (.lst xs)) : rLen K [.ref p] H Q := ⟨p, xs, rfl, .inl (.of h), q⟩
theorem rd_lenS {p : Addr} {xs : List V} (q : Q (.int xs.length) H) (h : SqL K H p xs) : rLen K [.ref p] H Q := ⟨p, xs, rfl, .inl h, q⟩
theorem rd_lenT {p : Addr} {xs : List V} (q : Q (.int xs.length) H) (h : H p = some (.tup xs)) : rLen K [.ref p] H Q := ⟨p, xs, rfl, .inr (.of h), q⟩
theorem rd_lenTp {K' : PySem.W.Frag} {p : Addr} {xs : List V} (q : Q (.int xs.length) H) (h : Tp K' H p xs) (hk : K' = K) : rLen K [.ref p] H Q := ⟨p, xs, rfl, .inr (hk ▸ h.sq), q⟩
theorem rd_int {i : Int} (q : Q (.int i) H) : rInt [.int i] H Q := .inl ⟨i, rfl, q⟩
theorem rd_intB {k : Bool} (q : Q (.int (if k then 1 else 0)) H) : rInt [.bl k] H Q := .inr ⟨k, rfl, q⟩
theorem rd_abs {i : Int} (q : Q (.int (i.natAbs : Nat)) H) : rAbs [.int i] H Q := ⟨i, rfl, by
  have e : (if i < 0 then -i else i) = (i.natAbs : Int) := by split <;> omega
  rw [e]
  exact q⟩
theorem rd_min {i j : Int} (q : Q (.int (min i j)) H) : rMin [.int i, .int j] H Q := ⟨i, j, rfl, by
  have e : (if j < i then j else i) = min i j := by split <;> omega
  rw [e]
  exact q⟩
theorem rd_neB {a b : Bool} (q : Q (.bl (!decide (a = b))) H) : rNe (.bl a) (.bl b) H Q := ⟨rfl, by simpa using q⟩
theorem rd_eqB {a b : Bool} (q : Q (.bl (decide (a = b))) H) : rEq (.bl a) (.bl b) H Q := ⟨rfl, by simpa using q⟩
theorem rd_neS {a b : Str} (q : Q (.bl (!decide (a = b))) H) : rNe (.str a) (.str b) H Q := ⟨rfl, by simpa using q⟩
theorem rd_eqS {a b : Str} (q : Q (.bl (decide (a = b))) H) : rEq (.str a) (.str b) H Q := ⟨rfl, by simpa using q⟩
theorem rd_isBl {a b : Bool} (q : Q (.bl (decide (a = b))) H) : rIsB (.bl a) (.bl b) H Q := ⟨a, b, rfl, rfl, q⟩
end
end My
namespace My
open PySem PySem.Spec PyProof.Rows L2
theorem rd_lc {wi : TI} {g : TG} {tt : TT} {te : TE} {vs : List Nat} {σ : L2.St} {H : Hp} {Q : VK} (h : wi σ H fun J H1 => ∀ D, H1 D = none → ∃ W : Nat → Nat → Hp → Prop, (∃ m, W 0 m (upd H1 D (.lst []))) ∧ ∀ i m H, W i m H →
  (J.stop i H ∧ Q (.ref D) H) ∨ (J.go i H ∧ ∃ Nx : Hp → Prop, (∀ H', Nx H' → ∃ m', m' < m ∧ W (i + 1) m' H') ∧ ∀ x H', J.yld i H x H' → g x (wipe σ vs) H' fun σ2 H2 => wipe σ2 vs = wipe σ vs ∧ tt σ2 H2 fun b H3 =>
    if b = true then te σ2 H3 fun y H4 => ∃ acc, H4 D = some (.lst acc) ∧ acc.length < sizeLine ∧ Nx (upd H4 D (.lst (acc ++ [y]))) else Nx H3)) : tLc wi g tt te vs σ H Q := h
theorem cut_all {xs : List V} {n : Nat} (h : xs.length ≤ n) : cutV xs none (some (n : Int)) = xs := by
  unfold cutV
  rw [HT.sIx_none, HT.sIx_nat, List.drop_zero]
  exact List.take_of_length_le (by omega)
theorem take_succ_map {ns : List Int} {i : Nat} {x : V} (h : (ns.map V.int)[i]? = some x) : ∃ z, x = .int z ∧ z ∈ ns ∧ (ns.take (i + 1)).map V.int = (ns.take i).map V.int ++ [x] := by
  rw [List.getElem?_map] at h
  cases e : ns[i]? with
  | none =>
    rw [e] at h
    cases h
  | some z =>
    rw [e] at h
    have hx : x = .int z := (Option.some.inj h).symm
    refine ⟨z, hx, List.mem_of_getElem? e, ?_⟩
    rw [List.take_add_one, e, List.map_append, hx]
    rfl
/-! ### list.count of flags -/
def eqb (k : Bool) (v : Value) : Bool := match v with
  | .bool b => b == k
  | _ => false
theorem eqb_at {A : Around} {s : Shared} {k : Bool} : ∀ {us : List Value} {bs : List Bool}, Vals (bs.map V.bl) us → ∀ y ∈ us, SeqAt.EqAt A s y (.bool k) (eqb k y)
  | [], bs, r => fun y hy => nomatch hy
  | u :: us, [], r => nomatch r
  | u :: us, b :: bs, r => fun y hy => by
    cases r with
    | cons r1 r2 =>
      rcases List.mem_cons.mp hy with e | e
      · rw [e]
        cases (show u = Value.bool b from r1)
        exact SeqAt.EqAt.bool_bool b k
      · exact eqb_at r2 y e
theorem eqb_count {k : Bool} : ∀ {us : List Value} {bs : List Bool}, Vals (bs.map V.bl) us → us.countP (eqb k) = bs.count k
  | [], [], _ => rfl
  | [], b :: bs, r => nomatch r
  | u :: us, [], r => nomatch r
  | u :: us, b :: bs, r => by
    cases r with
    | cons r1 r2 =>
      cases (show u = Value.bool b from r1)
      rw [List.countP_cons, List.count_cons, eqb_count r2] <;> rfl
def rCntB (K : PySem.W.Frag) : V → List V → Hp → VK → Prop := fun x xs H Q => ∃ (p : Addr) (bs : List Bool) (k : Bool), x = .ref p ∧ xs = [.bl k] ∧ SqL K H p (bs.map V.bl) ∧ Q (.int (bs.count k : Nat)) H
theorem mt_bcount {X : Cx} : MtR X "list.count" (rCntB X.K) := by
  intro pins s σ H x xs v us Q I rx rxs h
  obtain ⟨p, bs, k, rfl, rfl, hs, q⟩ := h
  cases rx
  obtain ⟨u, rfl, ru⟩ := rxs.one
  cases (show u = Value.bool k from ru)
  obtain ⟨its, rv, ⟨⟨cls, dd, data, sl⟩, n, ho, hc, hdn, hd⟩, hlen⟩ := I.list hs
  simp only at hc hd
  subst hc hd
  refine call_meets PySem.F.slot_list_count ⟨_, ho, rfl⟩ PySem.F.entry_list_count (PySem.F.args_list_count_2 _ _)
    (SeqAt.list_countAt p its.toArray n dd sl (.bool k) (eqb k)) ⟨ho, fun y hy => eqb_at rv y (by simpa using hy), ?_⟩
  have ec : its.toArray.toList.countP (eqb k) = bs.count k := eqb_count rv
  refine ⟨.int (bs.count k : Nat), H, I.tok _, ⟨s.toks, ?_⟩, q⟩
  show Value.int ((its.toArray.toList.countP (eqb k) : Nat) : Int) s.toks = Value.int ((bs.count k : Nat) : Int) s.toks
  rw [ec]
/-! ### greatest common divisors by remainders -/
structure Euc (G b i : Nat) (x y : Nat) : Prop where
  g : x.gcd y = G
  h : y * 2 ^ (i / 2) ≤ b
  m : i ≠ 0 → y < x ∧ x * 2 ^ ((i - 1) / 2) ≤ b
theorem Euc.step {G b i x y : Nat} (e : Euc G b i x y) (hy : y ≠ 0) : Euc G b (i + 1) y (x % y) := by
  have lt : x % y < y := Nat.mod_lt _ (by omega)
  refine ⟨?_, ?_, fun _ => ⟨lt, ?_⟩⟩
  · rw [← e.g, Nat.gcd_comm x y, Nat.gcd_comm y (x % y)]
    exact (Nat.gcd_rec y x).symm
  · rcases Nat.mod_two_eq_zero_or_one i with p | p
    · have q : (i + 1) / 2 = i / 2 := by omega
      rw [q]
      exact Nat.le_trans (Nat.mul_le_mul_right _ (Nat.le_of_lt lt)) e.h
    · have q : (i + 1) / 2 = (i - 1) / 2 + 1 := by omega
      obtain ⟨m1, m2⟩ := e.m (by omega)
      have half : 2 * (x % y) ≤ x := by
        have d := Nat.div_add_mod x y
        have dp : 1 ≤ x / y := Nat.div_pos (Nat.le_of_lt m1) (by omega)
        have : y ≤ y * (x / y) := Nat.le_mul_of_pos_right y dp
        omega
      rw [q, Nat.pow_succ]
      calc x % y * (2 ^ ((i - 1) / 2) * 2) = (2 * (x % y)) * 2 ^ ((i - 1) / 2) := by rw [Nat.mul_comm (2 ^ _) 2, ← Nat.mul_assoc, Nat.mul_comm (x % y) 2]
        _ ≤ x * 2 ^ ((i - 1) / 2) := Nat.mul_le_mul_right _ half
        _ ≤ b := m2
  · have q : (i + 1 - 1) / 2 = i / 2 := by omega
    rw [q]
    exact e.h
theorem Euc.done {G b k x y : Nat} (e : Euc G b (2 * k + 2) x y) (hb : b < 2 ^ k) : y = 0 ∧ x = G := by
  have h := e.h
  have q : (2 * k + 2) / 2 = k + 1 := by omega
  rw [q] at h
  have hy : y = 0 := by
    rcases Nat.eq_zero_or_pos y with z | z
    · exact z
    · have p : 2 ^ (k + 1) ≤ y * 2 ^ (k + 1) := Nat.le_mul_of_pos_left _ z
      rw [Nat.pow_succ] at p
      have : 0 < 2 ^ k := Nat.two_pow_pos k
      rw [Nat.pow_succ] at h
      omega
  have g := e.g
  rw [hy, Nat.gcd_zero_right] at g
  exact ⟨hy, g⟩
end My
namespace My
open PySem PySem.Spec PyProof.Rows L2
theorem cdv {j : Int} (h : 0 < j) (hb : j.natAbs < 2 ^ 8000) (i : Int) : CDivX i j := cdivx (by omega) hb (by decide)
theorem cmx {i j : Int} (h1 : i.natAbs < 2 ^ 20000) (h2 : j.natAbs < 2 ^ 20000) : CMulX i j := mulx_ok h1 h2 (by decide)
theorem div_nat (a b : Nat) : (a : Int).fdiv (b : Int) = ((a / b : Nat) : Int) := by
  rw [Int.fdiv_eq_ediv_of_nonneg _ (by omega), Int.natCast_ediv]
theorem p45 {n : Nat} (h : n < 2 ^ 4000) : n < 2 ^ 8000 := Nat.lt_of_lt_of_le h (pow_le (by decide))
theorem p46 {n : Nat} (h : n < 2 ^ 4000) : n < 2 ^ 20000 := Nat.lt_of_lt_of_le h (pow_le (by decide))
theorem added_math {r s : Rat} (hr : Bd 4000 r) (hs : Bd 4000 s) : ∀ g top sh : Int, g = ((Nat.gcd (r.den : Int).natAbs (s.den : Int).natAbs : Nat) : Int) → top = r.num * (s.den : Int).fdiv g + s.num * (r.den : Int).fdiv g →
    sh = ((Nat.gcd top.natAbs g.natAbs : Nat) : Int) → (∀ i, CDivX i g) ∧ CMulX r.num ((s.den : Int).fdiv g) ∧ CMulX s.num ((r.den : Int).fdiv g) ∧ (∀ i, CDivX i sh) ∧ CMulX ((r.den : Int).fdiv g) ((s.den : Int).fdiv sh) ∧
      (r + s).num = top.fdiv sh ∧ ((r + s).den : Int) = (r.den : Int).fdiv g * (s.den : Int).fdiv sh := by
  intro g top sh hg ht hsh
  have hd := r.den_pos
  have hs' := s.den_pos
  rw [Int.natAbs_natCast, Int.natAbs_natCast] at hg
  have gpos : 0 < r.den.gcd s.den := Nat.gcd_pos_of_pos_left _ hd
  have gle : r.den.gcd s.den ≤ r.den := Nat.gcd_le_left _ hd
  have gna : g.natAbs = r.den.gcd s.den := by rw [hg, Int.natAbs_natCast]
  have shpos : 0 < top.natAbs.gcd (r.den.gcd s.den) := Nat.gcd_pos_of_pos_right _ gpos
  have shle : top.natAbs.gcd (r.den.gcd s.den) ≤ r.den.gcd s.den := Nat.gcd_le_right _ gpos
  rw [gna] at hsh
  have hr2 := hr.2
  have hs2 := hs.2
  have e1 : (s.den : Int).fdiv g = ((s.den / r.den.gcd s.den : Nat) : Int) := by rw [hg, div_nat]
  have e2 : (r.den : Int).fdiv g = ((r.den / r.den.gcd s.den : Nat) : Int) := by rw [hg, div_nat]
  have l1 : s.den / r.den.gcd s.den ≤ s.den := Nat.div_le_self _ _
  have l2 : r.den / r.den.gcd s.den ≤ r.den := Nat.div_le_self _ _
  have form := add_form r s (r.den.gcd s.den) (r.den / r.den.gcd s.den) (s.den / r.den.gcd s.den) top (top.natAbs.gcd (r.den.gcd s.den)) rfl rfl rfl (by rw [ht, e1, e2]) rfl
  have e3 : (s.den : Int).fdiv sh = ((s.den / top.natAbs.gcd (r.den.gcd s.den) : Nat) : Int) := by rw [hsh, div_nat]
  have l3 : s.den / top.natAbs.gcd (r.den.gcd s.den) ≤ s.den := Nat.div_le_self _ _
  refine ⟨cdv (by omega) (by rw [gna]; exact p45 (by omega)), ?_, ?_, cdv (by omega) ?_, ?_, ?_, ?_⟩
  · rw [e1]
    exact cmx (p46 hr.1) (by rw [Int.natAbs_natCast]; exact p46 (by omega))
  · rw [e2]
    exact cmx (p46 hs.1) (by rw [Int.natAbs_natCast]; exact p46 (by omega))
  · rw [hsh, Int.natAbs_natCast]
    exact p45 (by omega)
  · rw [e2, e3]
    exact cmx (by rw [Int.natAbs_natCast]; exact p46 (by omega)) (by rw [Int.natAbs_natCast]; exact p46 (by omega))
  · rw [form.1, hsh, Int.fdiv_eq_ediv_of_nonneg _ (by omega)]
  · rw [form.2, e2, e3, Int.natCast_mul]
theorem mul_math {r s : Rat} (hr : Bd 4000 r) (hs : Bd 4000 s) : ∀ a b : Int, a = ((Nat.gcd r.num.natAbs (s.den : Int).natAbs : Nat) : Int) → b = ((Nat.gcd s.num.natAbs (r.den : Int).natAbs : Nat) : Int) →
    (∀ i, CDivX i a) ∧ (∀ i, CDivX i b) ∧ CMulX (r.num.fdiv a) (s.num.fdiv b) ∧ CMulX ((r.den : Int).fdiv b) ((s.den : Int).fdiv a) ∧
      (r * s).num = r.num.fdiv a * s.num.fdiv b ∧ ((r * s).den : Int) = (r.den : Int).fdiv b * (s.den : Int).fdiv a := by
  intro a b ha hb
  rw [Int.natAbs_natCast] at ha hb
  have hd := r.den_pos
  have hs' := s.den_pos
  have ap : 0 < r.num.natAbs.gcd s.den := Nat.gcd_pos_of_pos_right _ hs'
  have bp : 0 < s.num.natAbs.gcd r.den := Nat.gcd_pos_of_pos_right _ hd
  have al : r.num.natAbs.gcd s.den ≤ s.den := Nat.gcd_le_right _ hs'
  have bl : s.num.natAbs.gcd r.den ≤ r.den := Nat.gcd_le_right _ hd
  have da : a ∣ r.num := by rw [ha]; exact Int.ofNat_dvd_left.mpr (Nat.gcd_dvd_left ..)
  have db : b ∣ s.num := by rw [hb]; exact Int.ofNat_dvd_left.mpr (Nat.gcd_dvd_left ..)
  have hr2 := hr.2
  have hs2 := hs.2
  obtain ⟨f1, f2⟩ := mul_form r s _ _ rfl rfl
  have e1 : r.num.fdiv a = r.num / a := fdiv_dvd da
  have e2 : s.num.fdiv b = s.num / b := fdiv_dvd db
  have e3 : (r.den : Int).fdiv b = ((r.den / s.num.natAbs.gcd r.den : Nat) : Int) := by rw [hb, div_nat]
  have e4 : (s.den : Int).fdiv a = ((s.den / r.num.natAbs.gcd s.den : Nat) : Int) := by rw [ha, div_nat]
  have l3 : r.den / s.num.natAbs.gcd r.den ≤ r.den := Nat.div_le_self _ _
  have l4 : s.den / r.num.natAbs.gcd s.den ≤ s.den := Nat.div_le_self _ _
  have n1 : (r.num / a).natAbs ≤ r.num.natAbs := by
    rw [Int.natAbs_ediv_of_dvd da]
    exact Nat.div_le_self _ _
  have n2 : (s.num / b).natAbs ≤ s.num.natAbs := by
    rw [Int.natAbs_ediv_of_dvd db]
    exact Nat.div_le_self _ _
  have hr1 := hr.1
  have hs1 := hs.1
  refine ⟨cdv (by omega) (by rw [ha, Int.natAbs_natCast]; exact p45 (by omega)), cdv (by omega) (by rw [hb, Int.natAbs_natCast]; exact p45 (by omega)), ?_, ?_, ?_, ?_⟩
  · rw [e1, e2]
    exact cmx (p46 (by omega)) (p46 (by omega))
  · rw [e3, e4]
    exact cmx (by rw [Int.natAbs_natCast]; exact p46 (by omega)) (by rw [Int.natAbs_natCast]; exact p46 (by omega))
  · rw [f1, e1, e2, ha, hb]
  · rw [f2, e3, e4, Int.natCast_mul]
end My
namespace My
open PySem PySem.Spec PyProof.Rows L2
theorem low_math {n b : Int} (hb : 0 < b) (hl : b.natAbs < 2 ^ 8000) : ∀ g : Int, g = ((n.natAbs.gcd b.natAbs : Nat) : Int) → (∀ i, CDivX i g) ∧ (Rat.divInt n b).num = n.fdiv g ∧ ((Rat.divInt n b).den : Int) = b.fdiv g := by
  rintro g rfl
  have gp : 0 < n.natAbs.gcd b.natAbs := Nat.gcd_pos_of_pos_right _ (by omega)
  have gl : n.natAbs.gcd b.natAbs ≤ b.natAbs := Nat.gcd_le_right _ (by omega)
  obtain ⟨e1, e2⟩ := low_form n b (by omega)
  rw [if_neg (by omega)] at e1 e2
  refine ⟨cdv (by omega) (by rw [Int.natAbs_natCast]; omega), ?_, ?_⟩
  · rw [e1, fdiv_dvd (Int.ofNat_dvd_left.mpr (Nat.gcd_dvd_left ..))]
  · rw [e2, fdiv_dvd (Int.ofNat_dvd_left.mpr (Nat.gcd_dvd_right ..))]
theorem sign_na {t r : Int} (a : 0 ≤ r) (b : r < 2) : (t * (1 - 2 * r)).natAbs = t.natAbs := by
  have h : r = 0 ∨ r = 1 := by omega
  rcases h with rfl | rfl
  · simp
  · rw [Int.natAbs_mul]
    simp
end My
namespace My
open PySem PySem.Spec PyProof.Rows L2
/-! ### an own error class without __init__, made without arguments -/
abbrev veChain : List Value := [.type "ValueError", .type "Exception", .type "BaseException", .type "object"]
theorem pmk_own0 {X : Cx} {C : Addr} {bmB : List Value} {B newId initId : String} {x : Str} {p pos : Pos} (F : ExcBaseFacts B newId initId bmB) (q : PySem.W.excIn X.K C bmB newId = true) (gC : X.mg x = some (.ref C))
    (kC : PySem.W.keepIn X.K (.ref C) = true) (r : Raises X (.ref C)) (hg : Gl X x) (hdb : (x == ("__debug__" : Str)) = false := by decide) :
    PMk X (.Call (.Name x p) [] [] pos) (fun _ H Q => Q (.ref C) none H) := by
  intro pins s σ H Q I h
  refine wpAny_Call_Name_kw (ld_glob I hg gC ?_ hdb)
  refine PySem.W.callWith_K0 I.kIn kC ?_
  show wpAny _ _ (call (.ref C) []) _ _ _
  obtain ⟨hp, g, d, t, os⟩ := s
  obtain ⟨bm, N, nm, qn, bs, hdct, sn, sub, ab, col, dd, k0, k1, k2, k3, k5, mN, hC, hN, hni, T⟩ := exc_obj I.kIn q
  refine wpAny_call_exc_subT F T hC hN hni (fun h' e hm => ?_) (Nat.zero_le _)
  exact mk_of I hm r h (I.hok.gone hm.new)
/-- what the top holds of such a class -/
structure ExC (K : PySem.W.Frag) (mg : Str → Option Value) (x : Str) (C : Addr) : Prop where
  g : mg x = some (.ref C)
  ex : PySem.W.excIn K C veChain "ValueError.__new__" = true
  kp : PySem.W.keepIn K (.ref C) = true
  be : PySem.W.subIn K (.ref C) (.type "BaseException") = some true
  ty : PySem.W.typeIn K (.ref C) = some (.type "type")
  ic : PySem.W.isClsIn K C = true
  sf : PySem.W.subIn K (.ref C) (.ref C) = some true
theorem exm_sub {K : PySem.W.Frag} {C S : Addr} {b : Bool} (h1 : PySem.W.subIn K (.ref S) (.type "BaseException") = some true) (h2 : PySem.W.isClsIn K S = true) (h3 : PySem.W.typeIn K (.ref S) = some (.type "type")) (h4 : PySem.W.subIn K (.ref C) (.ref S) = some b) :
    PySem.W.exmOne K (.ref C) (.ref S) = some b := by
  have e1 : (PySem.W.subIn K (.ref S) (.type "BaseException") == some true) = true := by rw [h1] <;> rfl
  have e2 : ((PySem.W.clsIn K S).isSome && PySem.W.typeIn K (.ref S) == some (.type "type")) = true := by
    have h2' : (PySem.W.clsIn K S).isSome = true := h2
    rw [h2', h3] <;> rfl
  show (if (PySem.W.subIn K (.ref S) (.type "BaseException") == some true) = true then (if ((PySem.W.clsIn K S).isSome && PySem.W.typeIn K (.ref S) == some (.type "type")) = true then PySem.W.subIn K (.ref C) (.ref S) else none) else none) = some b
  rw [if_pos e1, if_pos e2]
  exact h4
theorem ExC.te {K : PySem.W.Frag} {mg : Str → Option Value} {x : Str} {C : Addr} (e : ExC K mg x C) : PySem.W.exmOne K (.ref C) (.ref C) = some true := exm_sub e.be e.ic e.ty e.sf
/-- raise X() -/
theorem ps_raise0 {X : Cx} {W : WX} {C : Addr} {x : Str} {p pos pos2 : Pos} (hc : X.calm = true) (e : ExC X.K X.mg x C) (tk : Takes X W) (hg : Gl X x := by rfl) (hdb : (x == ("__debug__" : Str)) = false := by decide) :
    PS X (.Raise (some (.Call (.Name x p) [] [] pos)) none pos2) (fun _ σ H => W (.ref C) none σ H) :=
  ps_raise hc tk (pmk_own0 PySem.F.excBase_ValueError e.ex e.g e.kp (raises_own e.be e.ty) hg hdb)
theorem rd_callS {sp : Sp} {E : L2.St → XK} {t : TA} {σ : L2.St} {H : Hp} {Q : VK} (h : t σ H fun vs H1 => sp vs H1 Q (E σ)) : tCallS sp E t σ H Q := h
theorem rd_newK {σ : L2.St} {H : Hp} {Q : VK} (h : ∀ p, H p = none → Q (.ref p) (upd H p (.dK []))) : tDNewK σ H Q := h
theorem at_any {xs : List V} {i : Int} (h0 : 0 ≤ i) (h1 : i < (xs.length : Nat)) : ∃ v, v ∈ xs ∧ atI xs i = some v := by
  obtain ⟨j, rfl⟩ := Int.eq_ofNat_of_zero_le h0
  have hj : j < xs.length := by omega
  exact ⟨xs[j], List.getElem_mem hj, atI_nat (List.getElem?_eq_getElem hj)⟩
/-! ### things that are no integers -/
inductive Odd (D : Addr) (H : Hp) : V → Prop where
  | non : Odd D H .non
  | bl (b : Bool) : Odd D H (.bl b)
  | str (s : Str) : Odd D H (.str s)
  | lst {p : Addr} {xs : List V} (n : p ≠ D) (h : H p = some (.lst xs)) : Odd D H (.ref p)
  | tup {p : Addr} {xs : List V} (n : p ≠ D) (h : H p = some (.tup xs)) : Odd D H (.ref p)
  | dK {p : Addr} {kvs : List (Key × V)} (n : p ≠ D) (h : H p = some (.dK kvs)) : Odd D H (.ref p)
theorem Odd.fw {D : Addr} {H H' : Hp} {v : V} (o : Odd D H v) (f : Fw D H H') : Odd D H' v := by
  cases o with
  | non => exact .non
  | bl b => exact .bl b
  | str s => exact .str s
  | lst n h => exact .lst n (f _ _ n h)
  | tup n h => exact .tup n (f _ _ n h)
  | dK n h => exact .dK n (f _ _ n h)
theorem Odd.isi {D : Addr} {H : Hp} {v : V} (o : Odd D H v) (K : PySem.W.Frag) : ∃ b1 b2 : Bool, (b1 && !b2) = false ∧ (∀ Q : VK, Q (.bl b1) H → rIsi K [v, .ty "int"] H Q) ∧ (∀ Q : VK, Q (.bl b2) H → rIsi K [v, .ty "bool"] H Q) := by
  cases o with
  | non => exact ⟨false, false, rfl, fun Q q => ⟨_, _, _, _, _, rfl, .ty _, .base .non, kit_ty (by decide +kernel), q⟩, fun Q q => ⟨_, _, _, _, _, rfl, .ty _, .base .non, kit_ty (by decide +kernel), q⟩⟩
  | bl b => exact ⟨true, true, rfl, fun Q q => ⟨_, _, _, _, _, rfl, .ty _, .base (.bl _), kit_ty (by decide +kernel), q⟩, fun Q q => ⟨_, _, _, _, _, rfl, .ty _, .base (.bl _), kit_ty (by decide +kernel), q⟩⟩
  | str s => exact ⟨false, false, rfl, fun Q q => ⟨_, _, _, _, _, rfl, .ty _, .base (.str _), kit_ty (by decide +kernel), q⟩, fun Q q => ⟨_, _, _, _, _, rfl, .ty _, .base (.str _), kit_ty (by decide +kernel), q⟩⟩
  | lst n h => exact ⟨false, false, rfl, fun Q q => ⟨_, _, _, _, _, rfl, .ty _, .base (.lst h), kit_ty (by decide +kernel), q⟩, fun Q q => ⟨_, _, _, _, _, rfl, .ty _, .base (.lst h), kit_ty (by decide +kernel), q⟩⟩
  | tup n h => exact ⟨false, false, rfl, fun Q q => ⟨_, _, _, _, _, rfl, .ty _, .base (.tup h), kit_ty (by decide +kernel), q⟩, fun Q q => ⟨_, _, _, _, _, rfl, .ty _, .base (.tup h), kit_ty (by decide +kernel), q⟩⟩
  | dK n h => exact ⟨false, false, rfl, fun Q q => ⟨_, _, _, _, _, rfl, .ty _, .base (.dK h), kit_ty (by decide +kernel), q⟩, fun Q q => ⟨_, _, _, _, _, rfl, .ty _, .base (.dK h), kit_ty (by decide +kernel), q⟩⟩
end My
namespace My
open PySem PySem.Spec PyProof.Rows L2
/-! ### for i, x in enumerate(t), t a tuple -/
section
variable {prog : Program} {w : World} {A : Around} {E : Value → Shared → Prop} {s : Shared}
theorem tupNext {it t : Addr} {i : Nat} {its : Array Value} {x : Value} {Q : Value → Shared → Prop} (h1 : IsTupIter s.heap it t i) (h2 : IsTup s.heap t its) (hx : its[i]? = some x)
    (q : ∀ h', IsTupIter h' it t (i + 1) → Heap.SameBut it s.heap h' → Q x { s with heap := h' }) : wpAny (model prog w) A (Builtin.SmallTypes.nextOf (.ref it)) Q E s := by
  unfold Builtin.SmallTypes.nextOf
  exact wpAny_bind (special_tup_item h1 h2 hx fun h' a b => wpAny_pure (q h' a b))
theorem tupNo {it t : Addr} {i : Nat} {its : Array Value} {Q : Value → Shared → Prop} (hh : A.handled = none) (h1 : IsTupIter s.heap it t i) (h2 : IsTup s.heap t its) (hx : its[i]? = none)
    (q : ∀ h' e, Heap.ExtBut it s.heap h' → (∃ o, h'.get? e = some o ∧ o.cls = .type "StopIteration") → E (.ref e) { s with heap := h' }) : wpAny (model prog w) A (Builtin.SmallTypes.nextOf (.ref it)) Q E s := by
  unfold Builtin.SmallTypes.nextOf
  refine wpAny_bind (special_tup_end hh h1 h2 hx fun e h' sx eb => ?_)
  obtain ⟨a, o, vs, rfl, ho, hc, _⟩ := sx
  exact q h' a eb ⟨o, ho, hc⟩
theorem tupDraws {it t : Addr} {its : Array Value} (hh : A.handled = none) (ne : t ≠ it) : Draws prog w A it [it, t] its.size (fun i x => its[i]? = some x) (fun i h => IsTupIter h it t i ∧ IsTup h t its) where
  live := fun i h st => by
    obtain ⟨⟨o, ho, _⟩, _⟩ := st
    exact ⟨o, ho⟩
  frame := fun i h h' st k => by
    obtain ⟨⟨o, ho, r⟩, ⟨o2, ho2, r2⟩⟩ := st
    exact ⟨⟨o, k it (by simp) o ho, r⟩, ⟨o2, k t (by simp) o2 ho2, r2⟩⟩
  item := fun i s Q E hi st q => tupNext st.1 st.2 (x := its[i]) (by simp [hi]) fun h' a b => q _ h' s.toks (by simp [hi]) ⟨a, st.2.extBut b.extBut ne⟩ b
  done := fun s Q E st q => tupNo hh st.1 st.2 (by simp) q
theorem newEnumT (t : Addr) (its : Array Value) (n : Nat) (dct : Option Addr) (sl : Array (Option Value)) :
    Meets (Builtin.«enumerate.__new__» ⟨[.type "enumerate", .ref t], []⟩) (fun _ R s => s.heap.get? t = some { cls := .type "tuple", dict := dct, data := .seq its n, slots := sl } ∧
      R (.ok (.ret (.ref (s.heap.push { cls := .type "tuple_iterator", data := .fields #[.ref t, .int 0 0] }).objs.size)))
        { s with heap := (s.heap.push { cls := .type "tuple_iterator", data := .fields #[.ref t, .int 0 0] }).push { cls := .type "enumerate", data := .fields #[.none, .bool false, .ref s.heap.objs.size, rawInt 0, .none, .none] } }) :=
  Meets.of_wp fun prog w A R s h => by
    obtain ⟨hp, g, d, tk, os⟩ := s
    obtain ⟨ht, hR⟩ := h
    have hsub := sub_enumerate
    have hT : IsTup (Shared.heap ⟨hp, g, d, tk, os⟩) t its := ⟨_, ht, rfl, n, rfl⟩
    wp_walk using AutoSeq1.wpAny_loadPart' ht
    refine wpAny_stack_any (fun st => wpAny_pure ?_)
    split
    · rename_i c _ _ _ _ _
      cases (c == Value.type "enumerate") <;> (wp_walk using AutoSeq1.wpAny_loadPart' ht, iter_tuple hT; exact ⟨_, rfl, hR⟩)
    · wp_walk using AutoSeq1.wpAny_loadPart' ht, iter_tuple hT
      exact ⟨_, rfl, hR⟩
theorem callEnumT {t : Addr} {its : Array Value} {Q : Value → Shared → Prop} (hT : IsTup s.heap t its)
    (q : ∀ h', IsEnum h' (s.heap.objs.size + 1) s.heap.objs.size 0 .none → IsTupIter h' s.heap.objs.size t 0 → (∀ b o, s.heap.get? b = some o → h'.get? b = some o) → Q (.ref (s.heap.objs.size + 1)) { s with heap := h' }) :
    wpAny (model prog w) A (call (.type "enumerate") [.ref t]) Q E s := by
  obtain ⟨⟨c, dct, dt, sl⟩, ht, hc, n, hd⟩ := hT
  simp only at hc hd
  subst hc hd
  refine callType_new F.called_enumerate (by decide) (F.typeCall_enumerate_1 _) (F.newCall_enumerate_1 _) (fun obj => F.args_object_init_2 obj _) F.entry_enumerate_new (newEnumT t its n dct sl) ⟨ht, ?_⟩
  generalize hh1 : s.heap.push { cls := .type "tuple_iterator", data := .fields #[.ref t, .int 0 0] } = h1
  have z1 : h1.objs.size = s.heap.objs.size + 1 := by rw [← hh1, Heap.size_push]
  have k1 : ∀ b o, s.heap.get? b = some o → h1.get? b = some o := fun b o e => by rw [← hh1]; exact Heap.get?_push_of_some _ e
  have i1 : h1.get? s.heap.objs.size = some { cls := .type "tuple_iterator", data := .fields #[.ref t, .int 0 0] } := by rw [← hh1]; exact Heap.get?_push_size _ rfl
  show _ ∧ _
  rw [z1]
  have e1 := Heap.get?_push_size h1 (o := { cls := .type "enumerate", data := .fields #[.none, .bool false, .ref s.heap.objs.size, rawInt 0, .none, .none] }) rfl
  rw [z1] at e1
  exact ⟨⟨_, e1, rfl⟩, q _ e1 ⟨_, Heap.get?_push_of_some _ i1, rfl, rfl⟩ fun b o e => Heap.get?_push_of_some _ (k1 b o e)⟩
end
def IteT (K : PySem.W.Frag) (a : Addr) : It :=
  ⟨fun i H => ∃ (xs : List V) (x : V), SqT K H a xs ∧ xs[i]? = some x, fun i H v H' => ∃ T x, v = .ref T ∧ H T = none ∧ H' = upd H T (.tup [.int (i : Nat), x]) ∧ ∀ xs, SqT K H a xs → xs[i]? = some x, fun i H => ∃ xs : List V, SqT K H a xs ∧ xs.length = i⟩
theorem turnEnumT {P : Program} {w : World} {K : PySem.W.Frag} {elts : List Expr} {kk : Nat} {tpos : Pos} (a e it : Addr) :
    Turn P w K (.Tuple elts kk tpos) (IteT K a) [e, it] e (fun i h => (∃ old, IsEnum h e it ((i : Nat) : Int) old) ∧ IsTupIter h it a i ∧ e ≠ it) where
  mem := by simp
  obj := fun i h st b hb => by
    obtain ⟨⟨old, he⟩, ⟨o, ho, hc, hd⟩, _⟩ := st
    rcases (show b = e ∨ b = it by simpa using hb) with rfl | rfl
    · exact ⟨_, he, fun v q => nomatch q⟩
    · exact ⟨o, ho, fun v q => by rw [hd] at q; cases q⟩
  keep := fun i h h' st k => by
    obtain ⟨⟨old, he⟩, ⟨o, ho, r⟩, hne⟩ := st
    exact ⟨⟨old, k e (by simp) _ he⟩, ⟨o, k it (by simp) o ho, r⟩, hne⟩
  item := by
    intro X hP hw hK hc i pins s σ H E I hf st hg
    subst hP hw hK
    obtain ⟨⟨old, he⟩, hit, hne⟩ := st
    obtain ⟨xs, x, hq, hx⟩ := hg
    obtain ⟨its, rv, p, hz⟩ := I.tuple hq
    obtain ⟨u, hu, ru⟩ := rv.get hx
    have elt := Heap.lt_size he
    have ilt : it < s.heap.objs.size := by obtain ⟨_, q, _⟩ := hit; exact Heap.lt_size q
    have hh := I.ok.hd hc
    have hti : a ≠ it := fun z => by
      obtain ⟨o1, e1, c1, _⟩ := hit
      obtain ⟨o2, e2, c2, _⟩ := p
      rw [z, e1] at e2
      cases e2
      rw [c1] at c2
      exact absurd c2 (by decide)
    have hte : e ≠ a := fun z => by
      obtain ⟨o2, e2, c2, _⟩ := p
      rw [← z, he] at e2
      cases e2
      exact absurd (show (Value.type "enumerate" : Value) = .type "tuple" from c2) (by decide)
    have ii : i < its.toArray.size := by
      have hl := rv.length
      have : i < xs.length := by
        rcases Nat.lt_or_ge i xs.length with h | h
        · exact h
        · rw [List.getElem?_eq_none h] at hx
          cases hx
      simp
      omega
    refine wpAny_pyNext_enum_itemD (tupDraws (A := X.A.in1) hh hti) he ⟨hit, p⟩ ii hne (by simp [hne, hte]) fun u' h' tk hu' ho st' hT hsz hk => ?_
    obtain rfl : u = u' := by
      have e2 : its.toArray[i]? = some u := by simpa using hu
      rw [e2] at hu'
      exact Option.some.inj hu'
    refine ⟨_, rfl, wpAny_letOwnedTupleGo_enum (s := { s with heap := h', toks := tk + 1 }) ho fun h'' he' sb => ?_⟩
    have hT2 := (sb.2 _ (Nat.ne_of_gt elt)).trans hT
    have new : ObjOk X.prog X.w (upd H s.heap.objs.size (.tup [.int (i : Nat), x])) h'' s.heap.objs.size (.tup [.int (i : Nat), x]) := ⟨by show 2 ≤ sizeLine; decide, [.int i tk, u], .cons ⟨_, rfl⟩ (.cons ru .nil), ⟨_, hT2, rfl, _, rfl⟩⟩
    have I1 : Inv X pins σ (upd H s.heap.objs.size (.tup [.int (i : Nat), x])) { s with heap := h'', toks := tk + 1 } :=
      I.turnedNew (t' := tk + 1) (ch := [e, it]) (fun b ob hb q => by
        have b1 : b ≠ e := fun z => hb (by simp [z])
        have b2 : b ≠ it := fun z => hb (by simp [z])
        exact (sb.2 b b1).trans (hk b ob b1 b2 q)) hf (Nat.le_refl _) new
    refine ⟨.ref s.heap.objs.size, _, I1, rfl, ⟨_, x, rfl, I.hok.fresh (Nat.le_refl _), rfl, fun ys hy => by rw [I.tuple_inj hy hq]; exact hx⟩, ⟨⟨u, ?_⟩, ?_, hne⟩, fun b hb => ?_⟩
    · rw [show ((i + 1 : Nat) : Int) = (i : Int) + 1 by omega]
      exact he'
    · obtain ⟨o, ho', r⟩ := st'.1
      exact ⟨o, (sb.2 it (Ne.symm hne)).trans ho', r⟩
    · have hb' : b < s.heap.objs.size := by
        rcases (show b = e ∨ b = it by simpa using hb) with rfl | rfl
        · exact elt
        · exact ilt
      rw [upd_ne (Nat.ne_of_lt hb')]
      exact (hf b hb).1
  done := by
    intro X hP hw hK hc i pins s σ H E I hf st hg
    subst hP hw hK
    obtain ⟨⟨old, he⟩, hit, hne⟩ := st
    obtain ⟨xs, hq, hx⟩ := hg
    obtain ⟨its, rv, p, hz⟩ := I.tuple hq
    obtain ⟨f0, f1, f2, f3, f4, f5⟩ := hf it (by simp)
    have hl := rv.length
    have hh := I.ok.hd hc
    have hti : a ≠ it := fun z => by
      obtain ⟨o1, e1, c1, _⟩ := hit
      obtain ⟨o2, e2, c2, _⟩ := p
      rw [z, e1] at e2
      cases e2
      rw [c1] at c2
      exact absurd c2 (by decide)
    have en : i = its.toArray.size := by
      simp
      omega
    rw [en] at he hit
    exact wpAny_pyNext_enum_endD (tupDraws (A := X.A.in1) hh hti) he ⟨hit, p⟩ fun h' eb => ⟨rfl, I.turned (t' := s.toks) (fun b o hb q => eb b o hb q) f0 f1 f3 f4 f5⟩
  self := fun A i s Q E st h => by
    obtain ⟨⟨_, he⟩, _⟩ := st
    exact wpAny_pyIter_enum he h
/-- enumerate over a list or a tuple -/
def iEnumX (K : PySem.W.Frag) (ta : TA) : TI := fun σ H R => ta σ H fun vs H1 => ∃ a xs, vs = [.ref a] ∧ ((SqL K H1 a xs ∧ R (Ite K a) H1) ∨ (SqT K H1 a xs ∧ R (IteT K a) H1))
theorem pi_enumX {X : Cx} {e : Expr} {ta : TA} {p pos tpos : Pos} {elts : List Expr} {kk : Nat} (hg : Gl X "enumerate") (hm : X.mg "enumerate" = none) (ha : PA X [e] ta) (hs : starEach [e] X.env = [(false, eval e X.env)] := by rfl) :
    PI X (.Tuple elts kk tpos) (.Call (.Name "enumerate" p) [e] [] pos) (iEnumX X.K ta) := by
  refine ⟨fun pins s σ H R I h => ?_⟩
  refine Call_ (ld_blt I hg hm boot_enumerate (PyProof.Rows.callWith_type1 (thn (ha.run pos pins s σ H _ I h) fun us s1 q1 => ?_) hs rfl))
  obtain ⟨vs, H1, I1, r1, a, xs, ex, q⟩ := q1
  subst ex
  obtain ⟨u, rfl, ru⟩ := vals1 r1
  cases ru
  have go : ∀ (h' : Heap) (J : It) (tn : Nat → Heap → Prop), (∀ b o, s1.heap.get? b = some o → h'.get? b = some o) → IsEnum h' (s1.heap.objs.size + 1) s1.heap.objs.size 0 .none → Turn X.prog X.w X.K (.Tuple elts kk tpos) J [s1.heap.objs.size + 1, s1.heap.objs.size] (s1.heap.objs.size + 1) tn → tn 0 h' → R J H1 →
      wpAny (model X.prog X.w) X.A (pyIter (.ref (s1.heap.objs.size + 1))) (PIE X pins σ (.Tuple elts kk tpos) R) X.xe { s1 with heap := h' } := fun h' J tn hk he T t0 q => by
    refine wpAny_pyIter_enum he ?_
    refine ⟨s1.heap.objs.size + 1, [s1.heap.objs.size + 1, s1.heap.objs.size], tn, J, H1, rfl, I1.kept (t' := s1.toks) hk, T, t0, fun b hb => ?_, q⟩
    have hle : s1.heap.objs.size ≤ b := by
      rcases (show b = s1.heap.objs.size + 1 ∨ b = s1.heap.objs.size by simpa using hb) with rfl | rfl
      · exact Nat.le_succ _
      · exact Nat.le_refl _
    exact I1.fpOk hle (I1.hok.fresh hle)
  rcases q with ⟨hq, q⟩ | ⟨hq, q⟩
  · obtain ⟨its, rv, p', hz⟩ := I1.list hq
    exact call_enumerate_list p'.isList fun h' he hit hsz hk => go h' _ _ hk he (turn_enum a _ _) ⟨⟨.none, he⟩, hit, Nat.succ_ne_self _⟩ q
  · obtain ⟨its, rv, p', hz⟩ := I1.tuple hq
    exact callEnumT p' fun h' he hit hk => go h' _ _ hk he (turnEnumT a _ _) ⟨⟨.none, he⟩, hit, Nat.succ_ne_self _⟩ q
theorem rd_enumX {K : PySem.W.Frag} {ta : TA} {R : It → Hp → Prop} {σ : L2.St} {H : Hp} (h : ta σ H fun vs H1 => ∃ a xs, vs = [.ref a] ∧ ((SqL K H1 a xs ∧ R (Ite K a) H1) ∨ (SqT K H1 a xs ∧ R (IteT K a) H1))) : iEnumX K ta σ H R := h
theorem for_enumT {K : PySem.W.Frag} {a : Addr} {xs : List V} {g : TG} {tb : TS} {D : Ends} {σ : L2.St} {H : Hp} (Pv : Nat → L2.St → Hp → Prop) (h0 : Pv 0 σ H) (hl : ∀ i σ H, i ≤ xs.length → Pv i σ H → SqT K H a xs)
    (hs : ∀ i x T σ H, xs[i]? = some x → Pv i σ H → H T = none → g (.ref T) σ (upd H T (.tup [.int (i : Nat), x])) fun σ2 H2 => tb { D with nx := Pv (i + 1), ct := Pv (i + 1), bk := D.nx } σ2 H2) (hd : ∀ σ H, Pv xs.length σ H → D.nx σ H) :
    ∃ W : Nat → Nat → L2.St → Hp → Prop, (∃ m, W 0 m σ H) ∧ ∀ i m σ H, W i m σ H →
      ((IteT K a).stop i H ∧ D.nx σ H) ∨ ((IteT K a).go i H ∧ ∃ N : L2.St → Hp → Prop, (∀ σ' H', N σ' H' → ∃ m', m' < m ∧ W (i + 1) m' σ' H') ∧ ∀ x H', (IteT K a).yld i H x H' → g x σ H' fun σ2 H2 => tb { D with nx := N, ct := N, bk := D.nx } σ2 H2) := by
  refine ⟨fun i m σ H => m = xs.length - i ∧ i ≤ xs.length ∧ Pv i σ H, ⟨xs.length, by simp, Nat.zero_le _, h0⟩, ?_⟩
  rintro i m σ H ⟨rfl, hi, p⟩
  have q := hl i σ H hi p
  by_cases hlt : i < xs.length
  · refine .inr ⟨⟨xs, xs[i], q, by simp [hlt]⟩, Pv (i + 1), fun σ' H' p' => ⟨xs.length - (i + 1), by omega, rfl, hlt, p'⟩, fun x H' y => ?_⟩
    obtain ⟨T, x, rfl, nT, rfl, y⟩ := y
    exact hs i x T σ H (y xs q) p nT
  · have e : i = xs.length := by omega
    subst e
    exact .inl ⟨⟨xs, q, rfl⟩, hd σ H p⟩
end My
namespace My
open PySem PySem.Spec PyProof.Rows L2
/-! ### max of a tuple of two ints -/
def rMaxT (K : PySem.W.Frag) : List V → Hp → VK → Prop := fun vs H Q => ∃ (a : Addr) (i j : Int), vs = [V.ref a] ∧ SqT K H a [.int i, .int j] ∧ ∀ m, m = i ∨ m = j → Q (.int m) H
theorem cr_maxT {X : Cx} (hc : X.calm = true) (hu : X.A.units + 64 < cLine) : CallR X (.builtin "max") (rMaxT X.K) := by
  intro pins s σ H vs us Q I r h
  obtain ⟨a, i, j, rfl, hs, q⟩ := h
  obtain ⟨its, rv, hl, _⟩ := I.tuple hs
  rw [Vals.ref1 r]
  have hv : ∃ (u1 u2 : Value), its = [u1, u2] ∧ RelV (.int i) u1 ∧ RelV (.int j) u2 := by
    cases rv with
    | cons r1 r2 =>
      cases r2 with
      | cons r2 r3 =>
        cases r3
        exact ⟨_, _, rfl, r1, r2⟩
  clear rv
  obtain ⟨_, _, rfl, ⟨t1, rfl⟩, ⟨t2, rfl⟩⟩ := hv
  have e : PyData.depthAll [PyData.int i, .int j] ≤ 2 := by simp [PyData.depthAll, PyData.depth]
  have hm : PySem.W.maxD (.int i) [.int j] = .int i ∨ PySem.W.maxD (.int i) [.int j] = .int j := by
    unfold PySem.W.maxD
    simp only [List.foldl]
    split <;> simp
  have hr : ReadsAll s.heap [Value.int i t1, Value.int j t2] [PyData.int i, .int j] [] := .cons (as := []) (.int _ _) (.cons (as := []) (.int _ _) .nil)
  have ha : PySem.W.AlikeAll [PyData.int i, .int j] := by
    refine ⟨fun x hx y hy => ?_, fun x hx => ?_⟩
    · simp only [List.mem_cons, List.not_mem_nil, or_false] at hx hy
      rcases hx with rfl | rfl <;> rcases hy with rfl | rfl <;> rfl
    · simp only [List.mem_cons, List.not_mem_nil, or_false] at hx
      rcases hx with rfl | rfl <;> simp
  refine PySem.W.max_tuple_data (x := .int i) (xs := [.int j]) (as := []) (I.ok.hd hc) hl hr ha ?_ fun k v h' tk bs hk hr hk' => ?_
  · omega
  · rcases hm with e | e <;> (rw [e] at hr; cases hr)
    · exact ⟨.int i, H, I.kept hk', ⟨_, rfl⟩, q i (.inl rfl)⟩
    · exact ⟨.int j, H, I.kept hk', ⟨_, rfl⟩, q j (.inr rfl)⟩
end My
namespace My
open PySem PySem.Spec PyProof.Rows L2
/-! ### min of a tuple of two ints -/
def rMinT (K : PySem.W.Frag) : List V → Hp → VK → Prop := fun vs H Q => ∃ (a : Addr) (i j : Int), vs = [V.ref a] ∧ SqT K H a [.int i, .int j] ∧ ∀ m, (m = i ∨ m = j) ∧ m ≤ i ∧ m ≤ j → Q (.int m) H
theorem cr_minT {X : Cx} (hc : X.calm = true) (hu : X.A.units + 64 < cLine) : CallR X (.builtin "min") (rMinT X.K) := by
  intro pins s σ H vs us Q I r h
  obtain ⟨a, i, j, rfl, hs, q⟩ := h
  obtain ⟨its, rv, hl, _⟩ := I.tuple hs
  rw [Vals.ref1 r]
  have hv : ∃ (u1 u2 : Value), its = [u1, u2] ∧ RelV (.int i) u1 ∧ RelV (.int j) u2 := by
    cases rv with
    | cons r1 r2 =>
      cases r2 with
      | cons r2 r3 =>
        cases r3
        exact ⟨_, _, rfl, r1, r2⟩
  clear rv
  obtain ⟨_, _, rfl, ⟨t1, rfl⟩, ⟨t2, rfl⟩⟩ := hv
  have e : PyData.depthAll [PyData.int i, .int j] ≤ 2 := by simp [PyData.depthAll, PyData.depth]
  have hm : PySem.W.minD (.int i) [.int j] = .int (min i j) := PySem.W.minD_ints i [j]
  have hr : ReadsAll s.heap [Value.int i t1, Value.int j t2] [PyData.int i, .int j] [] := .cons (as := []) (.int _ _) (.cons (as := []) (.int _ _) .nil)
  have ha : PySem.W.AlikeAll [PyData.int i, .int j] := by
    refine ⟨fun x hx y hy => ?_, fun x hx => ?_⟩
    · simp only [List.mem_cons, List.not_mem_nil, or_false] at hx hy
      rcases hx with rfl | rfl <;> rcases hy with rfl | rfl <;> rfl
    · simp only [List.mem_cons, List.not_mem_nil, or_false] at hx
      rcases hx with rfl | rfl <;> simp
  refine PySem.W.min_tuple_data (x := .int i) (xs := [.int j]) (as := []) (I.ok.hd hc) hl hr ha ?_ fun k v h' tk bs hk hr hk' => ?_
  · omega
  · rw [hm] at hr
    cases hr
    exact ⟨.int (min i j), H, I.kept hk', ⟨_, rfl⟩, q (min i j) ⟨by omega, by omega, by omega⟩⟩
theorem cr_minTK {X : Cx} {K : PySem.W.Frag} (h : X.K = K) (hc : X.calm = true) (hu : X.A.units + 64 < cLine) : CallR X (.builtin "min") (rMinT K) := h ▸ cr_minT hc hu
end My
namespace My
open PySem PySem.Spec PyProof.Rows L2
variable {K : PySem.W.Frag}
/-! ### own error classes with one field -/
structure ExF (K : PySem.W.Frag) (mg : Str → Option Value) (x : Str) (C fI : Addr) (fl : Str) : Prop where
  g : mg x = some (.ref C)
  ox : OexC K C
  iC : PySem.W.findIn K (.ref C) "__init__" = some (some (.ref fI))
  tI : PySem.W.typeIn K (.ref fI) = some (.type "function")
  no : PySem.W.findIn K (.ref C) fl = some none
  xf : XfC K C
  ic : PySem.W.isClsIn K C = true
  sf : PySem.W.subIn K (.ref C) (.ref C) = some true
theorem ExF.te {K : PySem.W.Frag} {mg : Str → Option Value} {x : Str} {C fI : Addr} {fl : Str} (e : ExF K mg x C fI fl) : PySem.W.exmOne K (.ref C) (.ref C) = some true := exm_sub e.ox.exC e.ic e.ox.tyC e.sf
/-- what such an __init__ does -/
def sp_xinit (C : Addr) (fl : Str) : Sp := fun vs H Q _ => ∃ p v, vs = [.ref p, v] ∧ H p = some (exo p C none) ∧ ∀ dx, H dx = none → dx ≠ p → Q .non (upd (upd H dx (exd dx [(fl, v)])) p (exo p C (some dx)))
theorem rd_ost {K : PySem.W.Frag} {f : Str} {to te : TE} {D : Ends} {σ : L2.St} {H : Hp} (h : te σ H fun y H1 => to σ H1 fun x H2 => ∃ a C : Addr, x = .ref a ∧ OexC K C ∧ PySem.W.findIn K (.ref C) f = some none ∧
    ((H2 a = some (exo a C none) ∧ ∀ dx, H2 dx = none → dx ≠ a → D.nx σ (upd (upd H2 dx (exd dx [(f, y)])) a (exo a C (some dx)))) ∨
      ∃ (dx : Addr) (fs : List (Str × V)), H2 a = some (exo a C (some dx)) ∧ H2 dx = some (exd dx fs) ∧ fs.length ≤ 900 ∧ D.nx σ (upd H2 dx (exd dx ((f, y) :: fs))))) : tOst K f to te D σ H := h
theorem del_upd_back {H1 : Hp} {a d : Addr} {o1 o2 o3 : HO} {fs : List (Str × V)} (ha : H1 a = none) (hd : H1 d = none) (hn : d ≠ a) :
    upd (del (upd (upd (upd H1 a o1) d o2) a o3) a) d (.xd fs) = upd H1 d (.xd fs) := by
  funext b
  by_cases hb : b = d
  · rw [hb, upd_same, upd_same]
  · rw [upd_ne hb, upd_ne hb]
    by_cases hb2 : b = a
    · rw [hb2, del_same, ha]
    · rw [del_ne hb2, upd_ne hb2, upd_ne hb, upd_ne hb2]
theorem lk1 {f : Str} {v : V} : ([(f, v)] : List (Str × V)).lookup f = some v := by
  have e : (f == f) = true := beq_self_eq_true f
  simp only [List.lookup, e]
/-- raise X(e) -/
def tRaise1 (C : Addr) (fl : Str) (W : WX) (ta : TA) : TS := fun _ σ H => tMkO C (sp_xinit C fl) [] ta σ H fun cls d H' => W cls d σ H'
theorem rd_raise1 {C : Addr} {fl : Str} {W : WX} {ta : TA} {D : Ends} {σ : L2.St} {H : Hp} (h : ta σ H fun vs H1 => vs.length ≤ 1000 ∧ ∀ a, H1 a = none → sp_xinit C fl (.ref a :: (vs ++ [])) (upd H1 a (exo a C none))
    (fun v H2 => v = .non ∧ ∃ (d : Addr) (fs : List (Str × V)), H2 a = some (exo a C (some d)) ∧ H2 d = some (exd d fs) ∧ H1 d = none ∧ W (.ref C) (some d) σ (upd (del H2 a) d (.xd fs))) (fun _ _ _ => False)) : tRaise1 C fl W ta D σ H := h
theorem rd_x1 {C : Addr} {fl : Str} {v : V} {H1 : Hp} {Q : Value → Option Addr → Hp → Prop} (h : ∀ d, H1 d = none → Q (.ref C) (some d) (upd H1 d (.xd [(fl, v)]))) :
    [v].length ≤ 1000 ∧ ∀ a, H1 a = none → sp_xinit C fl (.ref a :: ([v] ++ [])) (upd H1 a (exo a C none))
      (fun v H2 => v = .non ∧ ∃ (d : Addr) (fs : List (Str × V)), H2 a = some (exo a C (some d)) ∧ H2 d = some (exd d fs) ∧ H1 d = none ∧ Q (.ref C) (some d) (upd (del H2 a) d (.xd fs))) (fun _ _ _ => False) := by
  refine ⟨by show 1 ≤ 1000; decide, fun a na => ⟨a, v, rfl, upd_same, fun dx nd ne => ⟨rfl, dx, [(fl, v)], upd_same, ?_, ?_, ?_⟩⟩⟩
  · rw [upd_ne ne, upd_same]
  · rw [upd_ne ne] at nd
    exact nd
  · rw [upd_ne ne] at nd
    rw [del_upd_back na nd ne]
    exact h dx nd
theorem ps_raise1 {X : Cx} {W : WX} {C fI : Addr} {x : Str} {fl : Str} {k : Nat} {fd : FuncData} {ta : TA} {e : Expr} {es : List Expr} {p pos pos2 : Pos} (hc : X.calm = true) (E : ExF X.K X.mg x C fI fl)
    (F1 : FnOk X.prog X.w X.K X.mg X.base CX0 k fI fd ["self", fl] (sp_xinit C fl)) (hr : Room (k + 1) X.A) (tk : Takes X W) (hb : Binds X.K fd ["self", fl] []) (ha : PA X (e :: es) ta) (hg : Gl X x := by rfl)
    (hdb : (x == ("__debug__" : Str)) = false := by decide) (he : starEach (e :: es) X.env = (false, eval e X.env) :: starEach es X.env := by rfl) (hpl : (backTo pos (starEach es X.env)).any (·.1) = false := by rfl) :
    PS X (.Raise (some (.Call (.Name x p) (e :: es) [] pos)) none pos2) (tRaise1 C fl W ta) :=
  ps_raise (pos := pos2) hc tk (pmk_oex (pos := pos) E.ox E.iC E.tI F1 hr hb .nil pass0 hg E.g ha hdb he hpl)
/-- e.f of the caught error -/
theorem rd_xf {a : Addr} {cls : Value} {d : Option Addr} {C : Addr} {f : Str} {te : TE} {σ : L2.St} {H : Hp} {Q : VK} (h : te σ H fun x H1 => x = .ref a ∧ cls = .ref C ∧ ∃ (dd : Addr) (fs : List (Str × V)) (v : V), d = some dd ∧ H1 dd = some (.xd fs) ∧ fs.lookup f = some v ∧ Q v H1) : tXf a cls d C f te σ H Q := h
theorem rd_xf1 {a : Addr} {C dd : Addr} {f : Str} {v : V} {H : Hp} {Q : VK} (h : H dd = some (.xd [(f, v)])) (q : Q v H) : (V.ref a) = .ref a ∧ (Value.ref C) = .ref C ∧ ∃ (dd2 : Addr) (fs : List (Str × V)) (v : V), some dd = some dd2 ∧ H dd2 = some (.xd fs) ∧ fs.lookup f = some v ∧ Q v H := ⟨rfl, rfl, dd, _, v, rfl, h, lk1, q⟩
/-! ### own classes with fields -/
structure InsT (K : PySem.W.Frag) (C : Addr) : Prop where
  cl : Cls K C
  ha : PySem.W.findIn K (.ref C) "__class__" = some (some (.builtin "object.__class__"))
  hn : PySem.W.specialIn K (.builtin "object.__class__") "__get__" = some (some (.builtin "getset_descriptor.__get__"))
  ht : PySem.W.takesIn K (.builtin "object.__class__") = some true
  mo : PySem.W.mroIn K C (.type "object") = some true
  ki : PySem.W.kitOne K (.ref C) (.type "int") = some false
  kb : PySem.W.kitOne K (.ref C) (.type "bool") = some false
  kt : PySem.W.kitOne K (.ref C) (.type "tuple") = some false
  kl : PySem.W.kitOne K (.ref C) (.type "list") = some false
structure WebC (K : PySem.W.Frag) (mg : Str → Option Value) (x : Str) (C fI : Addr) : Prop where
  g : mg x = some (.ref C)
  mks : Mk K C fI
  it : InsT K C
theorem rd_fldS {K : PySem.W.Frag} {ta tv : TE} {f : Str} {D : Ends} {σ : L2.St} {H : Hp} (h : tv σ H fun y H1 => ta σ H1 fun x H2 => ∃ a C dx fs, x = .ref a ∧ H2 a = some (.ins C dx fs) ∧ Cls K C ∧ NoAttr K C f ∧ fs.length < 1000 ∧ D.nx σ (upd H2 a (.ins C dx (putF f y fs)))) : sFld K ta tv f D σ H := h
theorem rd_make {C : Addr} {sp : Sp} {dvs : List V} {E : XK} {t : TA} {σ : L2.St} {H : Hp} {Q : VK} (h : t σ H fun vs H1 => ∀ x dx, H1 x = none → H1 dx = none → dx ≠ x → sp (.ref x :: (vs ++ dvs)) (upd (upd H1 dx (.own x)) x (.ins C dx [])) (fun v H2 => v = .non ∧ Q (.ref x) H2) E) : tMake C sp dvs E t σ H Q := h
theorem rd_enum {K : PySem.W.Frag} {ta : TA} {R : It → Hp → Prop} {σ : L2.St} {H : Hp} (h : ta σ H fun vs H1 => ∃ a xs, vs = [.ref a] ∧ SqL K H1 a xs ∧ R (Ite K a) H1) : iEnum K ta σ H R := h
/-! ### things of all kinds; D: the deck, which alone is changed -/
inductive Od (K : PySem.W.Frag) (D : Addr) (H : Hp) : V → Prop where
  | non : Od K D H .non
  | bl (b : Bool) : Od K D H (.bl b)
  | str (s : Str) : Od K D H (.str s)
  | lst {p : Addr} {xs : List V} (n : p ≠ D) (h : H p = some (.lst xs)) : Od K D H (.ref p)
  | tup {p : Addr} {xs : List V} (n : p ≠ D) (h : H p = some (.tup xs)) : Od K D H (.ref p)
  | dK {p : Addr} {kvs : List (Key × V)} (n : p ≠ D) (h : H p = some (.dK kvs)) : Od K D H (.ref p)
  | ins {p C dx : Addr} {fs : List (Str × V)} (n : p ≠ D) (h : H p = some (.ins C dx fs)) (c : InsT K C) : Od K D H (.ref p)
theorem Od.fw {K : PySem.W.Frag} {D : Addr} {H H' : Hp} {v : V} (o : Od K D H v) (f : Fw D H H') : Od K D H' v := by
  cases o with
  | non => exact .non
  | bl b => exact .bl b
  | str s => exact .str s
  | lst n h => exact .lst n (f _ _ n h)
  | tup n h => exact .tup n (f _ _ n h)
  | dK n h => exact .dK n (f _ _ n h)
  | ins n h c => exact .ins n (f _ _ n h) c
/-- what isinstance says of it -/
theorem Od.isi {K : PySem.W.Frag} {D : Addr} {H : Hp} {v : V} (o : Od K D H v) : ∃ b1 b2 b3 : Bool, (b1 && !b2) = false ∧ (∀ Q : VK, Q (.bl b1) H → rIsi K [v, .ty "int"] H Q) ∧ (∀ Q : VK, Q (.bl b2) H → rIsi K [v, .ty "bool"] H Q) ∧ (∀ Q : VK, Q (.bl b3) H → rIsi K [v, .ty "tuple"] H Q) ∧ (b3 = true → ∃ p xs, v = .ref p ∧ p ≠ D ∧ H p = some (.tup xs)) := by
  cases o with
  | non => exact ⟨false, false, false, rfl, fun Q q => ⟨_, _, _, _, _, rfl, .ty _, .base .non, kit_ty (by decide +kernel), q⟩, fun Q q => ⟨_, _, _, _, _, rfl, .ty _, .base .non, kit_ty (by decide +kernel), q⟩, fun Q q => ⟨_, _, _, _, _, rfl, .ty _, .base .non, kit_ty (by decide +kernel), q⟩, fun z => Bool.noConfusion z⟩
  | bl b => exact ⟨true, true, false, rfl, fun Q q => ⟨_, _, _, _, _, rfl, .ty _, .base (.bl _), kit_ty (by decide +kernel), q⟩, fun Q q => ⟨_, _, _, _, _, rfl, .ty _, .base (.bl _), kit_ty (by decide +kernel), q⟩, fun Q q => ⟨_, _, _, _, _, rfl, .ty _, .base (.bl _), kit_ty (by decide +kernel), q⟩, fun z => Bool.noConfusion z⟩
  | str s => exact ⟨false, false, false, rfl, fun Q q => ⟨_, _, _, _, _, rfl, .ty _, .base (.str _), kit_ty (by decide +kernel), q⟩, fun Q q => ⟨_, _, _, _, _, rfl, .ty _, .base (.str _), kit_ty (by decide +kernel), q⟩, fun Q q => ⟨_, _, _, _, _, rfl, .ty _, .base (.str _), kit_ty (by decide +kernel), q⟩, fun z => Bool.noConfusion z⟩
  | lst n h => exact ⟨false, false, false, rfl, fun Q q => ⟨_, _, _, _, _, rfl, .ty _, .base (.lst h), kit_ty (by decide +kernel), q⟩, fun Q q => ⟨_, _, _, _, _, rfl, .ty _, .base (.lst h), kit_ty (by decide +kernel), q⟩, fun Q q => ⟨_, _, _, _, _, rfl, .ty _, .base (.lst h), kit_ty (by decide +kernel), q⟩, fun z => Bool.noConfusion z⟩
  | tup n h => exact ⟨false, false, true, rfl, fun Q q => ⟨_, _, _, _, _, rfl, .ty _, .base (.tup h), kit_ty (by decide +kernel), q⟩, fun Q q => ⟨_, _, _, _, _, rfl, .ty _, .base (.tup h), kit_ty (by decide +kernel), q⟩, fun Q q => ⟨_, _, _, _, _, rfl, .ty _, .base (.tup h), kit_ty (by decide +kernel), q⟩, fun _ => ⟨_, _, rfl, n, h⟩⟩
  | dK n h => exact ⟨false, false, false, rfl, fun Q q => ⟨_, _, _, _, _, rfl, .ty _, .base (.dK h), kit_ty (by decide +kernel), q⟩, fun Q q => ⟨_, _, _, _, _, rfl, .ty _, .base (.dK h), kit_ty (by decide +kernel), q⟩, fun Q q => ⟨_, _, _, _, _, rfl, .ty _, .base (.dK h), kit_ty (by decide +kernel), q⟩, fun z => Bool.noConfusion z⟩
  | ins n h c => exact ⟨false, false, false, rfl, fun Q q => ⟨_, _, _, _, _, rfl, .ty _, .base (.ins h c.cl c.ha c.hn c.ht c.mo), c.ki, q⟩, fun Q q => ⟨_, _, _, _, _, rfl, .ty _, .base (.ins h c.cl c.ha c.hn c.ht c.mo), c.kb, q⟩, fun Q q => ⟨_, _, _, _, _, rfl, .ty _, .base (.ins h c.cl c.ha c.hn c.ht c.mo), c.kt, q⟩, fun z => Bool.noConfusion z⟩
/-- what is no fraction -/
inductive NoF (K : PySem.W.Frag) (D : Addr) (H : Hp) : V → Prop where
  | int (i : Int) : NoF K D H (.int i)
  | not {v : V} (o : Od K D H v) (h : ∀ p xs, v = .ref p → H p = some (.tup xs) → xs.length ≠ 2) : NoF K D H v
  | fst {p : Addr} {x y : V} (n : p ≠ D) (h : H p = some (.tup [x, y])) (o : Od K D H x) : NoF K D H (.ref p)
  | snd {p : Addr} {i : Int} {y : V} (n : p ≠ D) (h : H p = some (.tup [.int i, y])) (o : Od K D H y) : NoF K D H (.ref p)
  | low {p : Addr} {i j : Int} (n : p ≠ D) (h : H p = some (.tup [.int i, .int j])) (z : ¬ (0 < j ∧ Nat.gcd i.natAbs j.natAbs = 1)) (b : j.natAbs < 2 ^ 4000) : NoF K D H (.ref p)
theorem NoF.fw {K : PySem.W.Frag} {D : Addr} {H H' : Hp} {v : V} (o : NoF K D H v) (f : Fw D H H') : NoF K D H' v := by
  cases o with
  | int i => exact .int i
  | not o h =>
    refine .not (o.fw f) fun p xs e h2 => ?_
    subst e
    cases o with
    | lst n h3 =>
      rw [f _ _ n h3] at h2
      cases h2
    | tup n h3 =>
      rw [f _ _ n h3] at h2
      cases h2
      exact h _ _ rfl h3
    | dK n h3 =>
      rw [f _ _ n h3] at h2
      cases h2
    | ins n h3 c =>
      rw [f _ _ n h3] at h2
      cases h2
  | fst n h o => exact .fst n (f _ _ n h) (o.fw f)
  | snd n h o => exact .snd n (f _ _ n h) (o.fw f)
  | low n h z b => exact .low n (f _ _ n h) z b
/-- a thing with the word whether it is a fraction -/
def JF (K : PySem.W.Frag) (D : Addr) (H : Hp) (v : V) (b : Option Rat) : Prop := (∃ r, IsF K H v r ∧ Bd 40 r ∧ b = some r) ∨ (NoF K D H v ∧ b = none)
theorem isi_int_tup {K : PySem.W.Frag} {H : Hp} {Q : VK} {i : Int} (q : Q (.bl false) H) : rIsi K [.int i, .ty "tuple"] H Q := ⟨_, _, _, _, _, rfl, .ty _, .base (.int _), kit_ty (by decide +kernel), q⟩
end My
namespace My
open PySem PySem.Spec PyProof.Rows L2
variable {K : PySem.W.Frag}
theorem for_enum {K : PySem.W.Frag} {a : Addr} {xs : List V} {g : TG} {tb : TS} {D : Ends} {σ : L2.St} {H : Hp} (Pv : Nat → L2.St → Hp → Prop) (h0 : Pv 0 σ H) (hl : ∀ i σ H, i ≤ xs.length → Pv i σ H → SqL K H a xs)
    (hs : ∀ i x T σ H, xs[i]? = some x → Pv i σ H → H T = none → g (.ref T) σ (upd H T (.tup [.int (i : Nat), x])) fun σ2 H2 => tb { D with nx := Pv (i + 1), ct := Pv (i + 1), bk := D.nx } σ2 H2) (hd : ∀ σ H, Pv xs.length σ H → D.nx σ H) :
    ∃ W : Nat → Nat → L2.St → Hp → Prop, (∃ m, W 0 m σ H) ∧ ∀ i m σ H, W i m σ H →
      ((Ite K a).stop i H ∧ D.nx σ H) ∨ ((Ite K a).go i H ∧ ∃ N : L2.St → Hp → Prop, (∀ σ' H', N σ' H' → ∃ m', m' < m ∧ W (i + 1) m' σ' H') ∧ ∀ x H', (Ite K a).yld i H x H' → g x σ H' fun σ2 H2 => tb { D with nx := N, ct := N, bk := D.nx } σ2 H2) := by
  refine ⟨fun i m σ H => m = xs.length - i ∧ i ≤ xs.length ∧ Pv i σ H, ⟨xs.length, by simp, Nat.zero_le _, h0⟩, ?_⟩
  rintro i m σ H ⟨rfl, hi, p⟩
  have q := hl i σ H hi p
  by_cases hlt : i < xs.length
  · refine .inr ⟨⟨xs, xs[i], q, by simp [hlt]⟩, Pv (i + 1), fun σ' H' p' => ⟨xs.length - (i + 1), by omega, rfl, hlt, p'⟩, fun x H' y => ?_⟩
    obtain ⟨T, x, rfl, nT, rfl, y⟩ := y
    exact hs i x T σ H (y xs q) p nT
  · have e : i = xs.length := by omega
    subst e
    exact .inl ⟨⟨xs, q, Nat.le_refl _⟩, hd σ H p⟩
/-! ### right stalls and webs of them -/
structure Stl where
  u : Nat
  v : Nat
  a : Rat
  b : Rat
  r : Rat
structure OkSt (n : Nat) (s : Stl) : Prop where
  u : s.u < n
  v : s.v < n
  ne : s.u ≠ s.v
  a : 0 < s.a
  b : 0 < s.b
  r : 0 < s.r
  e : s.a * s.b = s.r * s.r
structure BdSt (k : Nat) (s : Stl) : Prop where
  a : Bd k s.a
  b : Bd k s.b
  r : Bd k s.r
def IsSt (K : PySem.W.Frag) (H : Hp) (x : V) (s : Stl) : Prop := ∃ p va vb vr, x = .ref p ∧ H p = some (.tup [.int (s.u : Nat), .int (s.v : Nat), va, vb, vr]) ∧ IsF K H va s.a ∧ IsF K H vb s.b ∧ IsF K H vr s.r
theorem IsSt.same {H H' : Hp} {x : V} {s : Stl} (f : Same H H') (h : IsSt K H x s) : IsSt K H' x s := by
  obtain ⟨p, va, vb, vr, e, h, a, b, c⟩ := h
  exact ⟨p, va, vb, vr, e, f _ _ h, a.same f, b.same f, c.same f⟩
def Sts (K : PySem.W.Frag) (H : Hp) (xs : List V) (ss : List Stl) : Prop := Paired (IsSt K H) xs ss
theorem Sts.same {H H' : Hp} {xs : List V} {ss : List Stl} (f : Same H H') (h : Sts K H xs ss) : Sts K H' xs ss := by
  unfold Sts at *
  induction h with
  | nil => exact .nil
  | cons h t ih => exact .cons (h.same f) ih
theorem Sts.len {H : Hp} {xs : List V} {ss : List Stl} (h : Sts K H xs ss) : xs.length = ss.length := Paired.length h
theorem Sts.at {H : Hp} {xs : List V} {ss : List Stl} (h : Sts K H xs ss) : ∀ {i : Nat} {x : V}, xs[i]? = some x → ∃ s, ss[i]? = some s ∧ IsSt K H x s := by
  unfold Sts at h
  induction h with
  | nil =>
    intro i x e
    simp at e
  | cons h t ih =>
    intro i x e
    match i with
    | 0 =>
      simp at e
      subst e
      exact ⟨_, rfl, h⟩
    | i + 1 => exact ih (by simpa using e)
theorem IsF.ts {H H' : Hp} {x : V} {r : Rat} (f : Tps H H') (h : IsF K H x r) : IsF K H' x r := by
  obtain ⟨p, e, h⟩ := h
  exact ⟨p, e, h.ts f⟩
theorem IsSt.ts {H H' : Hp} {x : V} {s : Stl} (f : Tps H H') (h : IsSt K H x s) : IsSt K H' x s := by
  obtain ⟨p, va, vb, vr, e, h, a, b, c⟩ := h
  exact ⟨p, va, vb, vr, e, f _ _ h, a.ts f, b.ts f, c.ts f⟩
theorem Sts.ts {H H' : Hp} {xs : List V} {ss : List Stl} (f : Tps H H') (h : Sts K H xs ss) : Sts K H' xs ss := by
  unfold Sts at *
  induction h with
  | nil => exact .nil
  | cons h t ih => exact .cons (h.ts f) ih
def wF (n : Nat) (t : Addr) : List (Str × V) := [("wares", .int (n : Nat)), ("stalls", .ref t)]
def IsWeb (K : PySem.W.Frag) (C : Addr) (H : Hp) (x : V) (n : Nat) (ss : List Stl) : Prop := ∃ p dx t xs, x = .ref p ∧ H p = some (.ins C dx (wF n t)) ∧ H t = some (.tup xs) ∧ Sts K H xs ss
theorem IsWeb.same {C : Addr} {H H' : Hp} {x : V} {n : Nat} {ss : List Stl} (f : Same H H') (h : IsWeb K C H x n ss) : IsWeb K C H' x n ss := by
  obtain ⟨p, dx, t, xs, e, h1, h2, h3⟩ := h
  exact ⟨p, dx, t, xs, e, f _ _ h1, f _ _ h2, h3.same f⟩
theorem lk_here {k : Str} {v : V} {r : List (Str × V)} : List.lookup k ((k, v) :: r) = some v := by
  have e : (k == k) = true := beq_self_eq_true k
  simp only [List.lookup, e]
theorem lk_past {k g : Str} {v : V} {r : List (Str × V)} (h : (k == g) = false) : List.lookup k ((g, v) :: r) = List.lookup k r := by
  simp only [List.lookup, h]
theorem wF_wares (n : Nat) (t : Addr) : (wF n t).lookup ("wares" : Str) = some (.int (n : Nat)) := lk_here
theorem wF_stalls (n : Nat) (t : Addr) : (wF n t).lookup ("stalls" : Str) = some (.ref t) := (lk_past (by decide +kernel)).trans lk_here
theorem wF_new (n : Nat) (t : Addr) : putF "stalls" (.ref t) (putF "wares" (.int (n : Nat)) []) = wF n t := by
  have h : ¬ (("wares" : Str) = "stalls") := by decide +kernel
  show putF "stalls" (.ref t) [("wares", .int (n : Nat))] = _
  simp [putF, h, wF]
theorem rd_fld {K : PySem.W.Frag} {ta : TE} {f : Str} {σ : L2.St} {H : Hp} {Q : VK} (h : ta σ H fun x H1 => ∃ a C dx fs v, x = .ref a ∧ H1 a = some (.ins C dx fs) ∧ Cls K C ∧ NoAttr K C f ∧ fs.lookup f = some v ∧ Q v H1) : tFld K ta f σ H Q := h
/-- what a stall is behind a move -/
def Stl.first (s : Stl) (x : Rat) : Stl := ⟨s.u, s.v, x, s.r * s.r / x, s.r⟩
def Stl.secnd (s : Stl) (y : Rat) : Stl := ⟨s.u, s.v, s.r * s.r / y, y, s.r⟩
def Stl.behind (s : Stl) (w : Nat) (x : Rat) : Stl := if w = s.u then s.first (s.a + x) else s.secnd (s.b + x)
def Stl.out (s t : Stl) (w : Nat) : Rat := if w = s.u then s.b - t.b else s.a - t.a
/-- a move of the web -/
def IsMv (K : PySem.W.Frag) (H : Hp) (v : V) (i w : Nat) (x : Rat) : Prop := ∃ p vx, v = .ref p ∧ H p = some (.tup [.int (i : Nat), .int (w : Nat), vx]) ∧ IsF K H vx x
theorem IsMv.same {H H' : Hp} {v : V} {i w : Nat} {x : Rat} (f : Same H H') (h : IsMv K H v i w x) : IsMv K H' v i w x := by
  obtain ⟨p, vx, e, h, a⟩ := h
  exact ⟨p, vx, e, f _ _ h, a.same f⟩
theorem Sts.get {H : Hp} {xs : List V} {ss : List Stl} (h : Sts K H xs ss) : ∀ {i : Nat} {s : Stl}, ss[i]? = some s → ∃ x, xs[i]? = some x ∧ IsSt K H x s := by
  unfold Sts at h
  induction h with
  | nil =>
    intro i x e
    simp at e
  | cons h t ih =>
    intro i x e
    match i with
    | 0 =>
      simp at e
      subst e
      exact ⟨_, rfl, h⟩
    | i + 1 => exact ih (by simpa using e)
end My
namespace My
open PySem PySem.Spec PyProof.Rows L2
variable {K : PySem.W.Frag}
theorem tps_put {H1 H : Hp} {D : Addr} {o : HO} {ys : List V} (h : H D = some (.lst ys)) : Tps H (upd H D o) := fun b xs hb => by
  refine (upd_ne fun e => ?_).trans hb
  rw [e, h] at hb
  cases hb
theorem same_put {H1 H : Hp} {D : Addr} {o : HO} (n : H1 D = none) (s : Same H1 H) : Same H1 (upd H D o) := fun b x h => (upd_ne (ne_of_none h n)).trans (s b x h)
/-- what stands while the tuples stand -/
def Mn {α : Type} (R : Hp → V → α → Prop) : Prop := ∀ H H' v a, Tps H H' → R H v a → R H' v a
theorem Paired.mono {α : Type} {R : Hp → V → α → Prop} (hR : Mn R) {H H' : Hp} (f : Tps H H') {ys : List V} {as : List α} (h : Paired (R H) ys as) : Paired (R H') ys as := by
  induction h with
  | nil => exact .nil
  | cons h t ih => exact .cons (hR _ _ _ _ f h) ih
theorem same_tps {H H' : Hp} (s : Same H H') : Tps H H' := fun b xs h => s _ _ h
theorem sqT_same {H H' : Hp} {a : Addr} {xs : List V} (e : Same H H') (h : SqT K H a xs) : SqT K H' a xs := by
  rcases h with (h | ⟨o, h⟩) | h
  · exact .inl (.inl (e _ _ h))
  · exact .inl (.inr ⟨o, e _ _ h⟩)
  · exact .inr h
section
variable {α : Type} {R : Hp → V → α → Prop} {g : TG} {tt : TT} {te : TE} {vs : List Nat} {σ : L2.St} {H1 : Hp} {D : Addr} {Qd : Hp → Prop} {f : Nat → Option α}
/-- the state of a list under way -/
def Lst (R : Hp → V → α → Prop) (H1 : Hp) (D : Addr) (as : List α) (H : Hp) : Prop := Same H1 H ∧ ∃ ys, H D = some (.lst ys) ∧ Paired (R H) ys as
theorem Lst.len {as : List α} {H : Hp} : Lst R H1 D as H → ∃ ys, H D = some (.lst ys) ∧ ys.length = as.length := fun ⟨_, ys, h, p⟩ => ⟨ys, h, Paired.length p⟩
theorem Lst.add (hR : Mn R) (nD : H1 D = none) {as : List α} {a : α} {H H' : Hp} {y : V} (l : Lst R H1 D as H) (s : Same H H') (h : R H' y a) (hn : as.length < 1000) :
    ∃ acc, H' D = some (.lst acc) ∧ acc.length < sizeLine ∧ Lst R H1 D (as ++ [a]) (upd H' D (.lst (acc ++ [y]))) := by
  obtain ⟨s1, ys, hD, p⟩ := l
  have hl := Paired.length p
  refine ⟨ys, s _ _ hD, small1000 (by omega), same_put nD (s1.trans s), _, upd_same, ?_⟩
  have t : Tps H' (upd H' D (.lst (ys ++ [y]))) := tps_put (H1 := H1) (s _ _ hD)
  exact Paired.mono hR t (Paired.snoc (Paired.mono hR (same_tps s) p) h)
theorem Lst.skip (hR : Mn R) {as : List α} {H H' : Hp} (l : Lst R H1 D as H) (s : Same H H') : Lst R H1 D as H' := by
  obtain ⟨s1, ys, hD, p⟩ := l
  exact ⟨s1.trans s, ys, s _ _ hD, Paired.mono hR (same_tps s) p⟩
def upTo (f : Nat → Option α) (i : Nat) : List α := (List.range i).filterMap f
theorem upTo_some {i : Nat} {a : α} (h : f i = some a) : upTo f (i + 1) = upTo f i ++ [a] := by
  unfold upTo
  rw [List.range_succ, List.filterMap_append]
  simp [h]
theorem upTo_none {i : Nat} (h : f i = none) : upTo f (i + 1) = upTo f i := by
  unfold upTo
  rw [List.range_succ, List.filterMap_append]
  simp [h]
theorem upTo_len (f : Nat → Option α) (i : Nat) : (upTo f i).length ≤ i := by
  unfold upTo
  refine Nat.le_trans (List.length_filterMap_le _ _) ?_
  simp
/-- one turn -/
def Turn1 (R : Hp → V → α → Prop) (H1 : Hp) (f : Nat → Option α) (i : Nat) (G : Hp → VK → (Hp → Prop) → Prop) : Prop :=
  ∀ H' (Q : VK) (N : Hp → Prop), Same H1 H' → (∀ a y H4, f i = some a → Same H' H4 → R H4 y a → Q y H4) → (∀ H3, f i = none → Same H' H3 → N H3) → G H' Q N
theorem Turn1.step (hR : Mn R) (nD : H1 D = none) {i : Nat} (hi : i < 1000) {G : Hp → VK → (Hp → Prop) → Prop} (t : Turn1 R H1 f i G) {H : Hp} (l : Lst R H1 D (upTo f i) H) :
    G H (fun y H4 => ∃ acc, H4 D = some (.lst acc) ∧ acc.length < sizeLine ∧ Lst R H1 D (upTo f (i + 1)) (upd H4 D (.lst (acc ++ [y])))) (Lst R H1 D (upTo f (i + 1))) := by
  refine t H _ _ l.1 (fun a y H4 e s h => ?_) fun H3 e s => ?_
  · rw [upTo_some e]
    exact l.add hR nD s h (Nat.lt_of_le_of_lt (upTo_len f i) hi)
  · rw [upTo_none e]
    exact l.skip hR s
theorem lst_new (nD : H1 D = none) : Lst R H1 D (upTo f 0) (upd H1 D (.lst [])) := ⟨same_upd nD, [], upd_same, .nil⟩
theorem lc_rangeP (hR : Mn R) {lo : Int} {n : Nat} (nD : H1 D = none) (hn : n ≤ 1000)
    (hs : ∀ i, i < n → Turn1 R H1 f i fun H' Q N => g (.int (lo + i)) (wipe σ vs) H' fun σ2 H2 => wipe σ2 vs = wipe σ vs ∧ tt σ2 H2 fun b H3 => if b = true then te σ2 H3 Q else N H3)
    (hd : ∀ H', Lst R H1 D (upTo f n) H' → Qd H') :
    ∃ W : Nat → Nat → Hp → Prop, (∃ m, W 0 m (upd H1 D (.lst []))) ∧ ∀ i m H, W i m H →
      ((Itr lo n).stop i H ∧ Qd H) ∨ ((Itr lo n).go i H ∧ ∃ Nx : Hp → Prop, (∀ H', Nx H' → ∃ m', m' < m ∧ W (i + 1) m' H') ∧ ∀ x H', (Itr lo n).yld i H x H' → g x (wipe σ vs) H' fun σ2 H2 => wipe σ2 vs = wipe σ vs ∧ tt σ2 H2 fun b H3 =>
        if b = true then te σ2 H3 fun y H4 => ∃ acc, H4 D = some (.lst acc) ∧ acc.length < sizeLine ∧ Nx (upd H4 D (.lst (acc ++ [y]))) else Nx H3) :=
  lc_range (fun i H => Lst R H1 D (upTo f i) H) (lst_new nD) (fun i H hi l => Turn1.step (i := i) hR nD (by omega) (hs i hi) l) hd
theorem lc_tupP (hR : Mn R) {a : Addr} {xs : List V} (nD : H1 D = none) (hn : xs.length ≤ 1000) (hl : SqT K H1 a xs)
    (hs : ∀ i x, xs[i]? = some x → Turn1 R H1 f i fun H' Q N => g x (wipe σ vs) H' fun σ2 H2 => wipe σ2 vs = wipe σ vs ∧ tt σ2 H2 fun b H3 => if b = true then te σ2 H3 Q else N H3)
    (hd : ∀ H', Lst R H1 D (upTo f xs.length) H' → Qd H') :
    ∃ W : Nat → Nat → Hp → Prop, (∃ m, W 0 m (upd H1 D (.lst []))) ∧ ∀ i m H, W i m H →
      ((Itt K a).stop i H ∧ Qd H) ∨ ((Itt K a).go i H ∧ ∃ Nx : Hp → Prop, (∀ H', Nx H' → ∃ m', m' < m ∧ W (i + 1) m' H') ∧ ∀ x H', (Itt K a).yld i H x H' → g x (wipe σ vs) H' fun σ2 H2 => wipe σ2 vs = wipe σ vs ∧ tt σ2 H2 fun b H3 =>
        if b = true then te σ2 H3 fun y H4 => ∃ acc, H4 D = some (.lst acc) ∧ acc.length < sizeLine ∧ Nx (upd H4 D (.lst (acc ++ [y]))) else Nx H3) :=
  lc_tup (xs := xs) (fun i H => Lst R H1 D (upTo f i) H) (lst_new nD) (fun i H _ l => sqT_same l.1 hl) (fun i x H hx l => Turn1.step (i := i) hR nD (by
    have := (List.getElem?_eq_some_iff.mp hx).1
    omega) (hs i x hx) l) hd
theorem lc_listP (hR : Mn R) {a : Addr} {xs : List V} (nD : H1 D = none) (hn : xs.length ≤ 1000) (hl : SqL K H1 a xs)
    (hs : ∀ i x, xs[i]? = some x → Turn1 R H1 f i fun H' Q N => g x (wipe σ vs) H' fun σ2 H2 => wipe σ2 vs = wipe σ vs ∧ tt σ2 H2 fun b H3 => if b = true then te σ2 H3 Q else N H3)
    (hd : ∀ H', Lst R H1 D (upTo f xs.length) H' → Qd H') :
    ∃ W : Nat → Nat → Hp → Prop, (∃ m, W 0 m (upd H1 D (.lst []))) ∧ ∀ i m H, W i m H →
      ((Itl K a).stop i H ∧ Qd H) ∨ ((Itl K a).go i H ∧ ∃ Nx : Hp → Prop, (∀ H', Nx H' → ∃ m', m' < m ∧ W (i + 1) m' H') ∧ ∀ x H', (Itl K a).yld i H x H' → g x (wipe σ vs) H' fun σ2 H2 => wipe σ2 vs = wipe σ vs ∧ tt σ2 H2 fun b H3 =>
        if b = true then te σ2 H3 fun y H4 => ∃ acc, H4 D = some (.lst acc) ∧ acc.length < sizeLine ∧ Nx (upd H4 D (.lst (acc ++ [y]))) else Nx H3) :=
  lc_list (xs := xs) (fun i H => Lst R H1 D (upTo f i) H) (lst_new nD) (fun i H _ l => l.1.seq hl) (fun i x H hx l => Turn1.step (i := i) hR nD (by
    have := (List.getElem?_eq_some_iff.mp hx).1
    omega) (hs i x hx) l) hd
theorem lc_enumTP (hR : Mn R) {a : Addr} {xs : List V} (nD : H1 D = none) (hn : xs.length ≤ 1000) (hl : SqT K H1 a xs)
    (hs : ∀ i x, xs[i]? = some x → Turn1 R H1 f i fun H' Q N => ∀ T, H' T = none → g (.ref T) (wipe σ vs) (upd H' T (.tup [.int (i : Nat), x])) fun σ2 H2 => wipe σ2 vs = wipe σ vs ∧ tt σ2 H2 fun b H3 => if b = true then te σ2 H3 Q else N H3)
    (hd : ∀ H', Lst R H1 D (upTo f xs.length) H' → Qd H') :
    ∃ W : Nat → Nat → Hp → Prop, (∃ m, W 0 m (upd H1 D (.lst []))) ∧ ∀ i m H, W i m H →
      ((IteT K a).stop i H ∧ Qd H) ∨ ((IteT K a).go i H ∧ ∃ Nx : Hp → Prop, (∀ H', Nx H' → ∃ m', m' < m ∧ W (i + 1) m' H') ∧ ∀ x H', (IteT K a).yld i H x H' → g x (wipe σ vs) H' fun σ2 H2 => wipe σ2 vs = wipe σ vs ∧ tt σ2 H2 fun b H3 =>
        if b = true then te σ2 H3 fun y H4 => ∃ acc, H4 D = some (.lst acc) ∧ acc.length < sizeLine ∧ Nx (upd H4 D (.lst (acc ++ [y]))) else Nx H3) := by
  refine ⟨fun i m H => m = xs.length - i ∧ i ≤ xs.length ∧ Lst R H1 D (upTo f i) H, ⟨xs.length, by simp, Nat.zero_le _, lst_new nD⟩, ?_⟩
  rintro i m H ⟨rfl, hi, l⟩
  have q := sqT_same l.1 hl
  by_cases hlt : i < xs.length
  · refine .inr ⟨⟨xs, xs[i], q, by simp [hlt]⟩, Lst R H1 D (upTo f (i + 1)), fun H' p' => ⟨xs.length - (i + 1), by omega, rfl, hlt, p'⟩, fun x H' y => ?_⟩
    obtain ⟨T, x, rfl, nT, rfl, y⟩ := y
    exact Turn1.step (i := i) hR nD (by omega) (hs i x (y xs q)) l T nT
  · have e : i = xs.length := by omega
    subst e
    exact .inl ⟨⟨xs, q, rfl⟩, hd H l⟩
end
end My
namespace My
open PySem PySem.Spec PyProof.Rows L2
section
variable {X : Cx} {K : PySem.W.Frag}
theorem sl_tupK (h : X.K = K) : SlR X (rSlT K) := h ▸ sl_tup
theorem sl_listK (h : X.K = K) : SlR X (rSlL K) := h ▸ sl_list
def rIxA (K : PySem.W.Frag) : R2 := fun x y H Q => ∃ p xs i v, x = .ref p ∧ y = .int i ∧ (SqL K H p xs ∨ SqT K H p xs) ∧ atI xs i = some v ∧ Q v H
theorem ix_any : IxR X (rIxA X.K) := by
  intro value slice pins s σ H x y v u Q I rx ry h hs
  obtain ⟨p, xs, i, z, e1, e2, hq, he, q⟩ := h
  rcases hq with hq | hq
  · exact ix_list value slice pins s σ H x y v u Q I rx ry ⟨p, xs, i, z, e1, e2, hq, he, q⟩ hs
  · exact ix_tup value slice pins s σ H x y v u Q I rx ry ⟨p, xs, i, z, e1, e2, hq, he, q⟩ hs
theorem ix_anyK (h : X.K = K) : IxR X (rIxA K) := h ▸ ix_any
theorem ix_tupK (h : X.K = K) : IxR X (rIxT K) := h ▸ ix_tup
theorem ix_listK (h : X.K = K) : IxR X (rIxL K) := h ▸ ix_list
theorem op_inK (h : X.K = K) : OpR X (compareOp .In) (rIn K false) := h ▸ op_in_seq
theorem op_eqDK (h : X.K = K) (hu : X.A.units + 64 < cLine) : OpR X (compareOp .Eq) (rEqD K) := h ▸ op_eqD hu
theorem op_neDK (h : X.K = K) (hu : X.A.units + 64 < cLine) : OpR X (compareOp .NotEq) (rNeD K) := h ▸ op_neD hu
theorem call_lenNK (h : X.K = K) : CallR X (.builtin "len") (rLen K) := h ▸ call_lenN
theorem call_isiK' (h : X.K = K) : CallR X (.builtin "isinstance") (rIsi K) := h ▸ call_isi
theorem pe_fldK {e : Expr} {f : Str} {pos : Pos} {ta : TE} (h : X.K = K) (he : PE X e ta) (hb : attributeBase e f X.env (eval e X.env) = eval e X.env) : PE X (.Attribute e f pos) (tFld K ta f) := h ▸ pe_fld he hb
end
end My
namespace My
open PySem PySem.Spec PyProof.Rows L2
/-! ### a list or a tuple walked -/
def iSeqA (K : PySem.W.Frag) (te : TE) : TI := fun σ H R => te σ H fun x H1 => ∃ a, x = .ref a ∧ (((∃ xs, SqL K H1 a xs) ∧ R (Itl K a) H1) ∨ ((∃ xs, SqT K H1 a xs) ∧ R (Itt K a) H1))
theorem pi_seqA {X : Cx} {tg l : Expr} {tl : TE} (hl : PE X l tl) : PI X tg l (iSeqA X.K tl) := by
  refine ⟨fun pins s σ H R I h => ?_⟩
  refine thn (hl.run pins s σ H _ I h) fun v s1 ⟨x, H1, I1, r1, q1⟩ => ?_
  obtain ⟨a, e, q⟩ := q1
  subst e
  cases r1
  rcases q with ⟨⟨xs, hq⟩, q⟩ | ⟨⟨xs, hq⟩, q⟩
  · obtain ⟨its, rv, p, hz⟩ := I1.list hq
    refine wpAny_pyIter_list p.isList ?_
    refine ⟨s1.heap.objs.size, [s1.heap.objs.size], _, _, H1, rfl, I1.kept (t' := s1.toks) fun b o e => Heap.get?_push_of_some _ e, turn_list a _, ⟨_, Heap.get?_push_size _ rfl, rfl, rfl⟩, fun b hb => ?_, q⟩
    have e : b = s1.heap.objs.size := by simpa using hb
    subst e
    exact I1.fpOk (Nat.le_refl _) (I1.hok.fresh (Nat.le_refl _))
  · obtain ⟨its, rv, p, hz⟩ := I1.tuple hq
    refine wpAny_pyIter_tuple (show s1.heap.IsTuple a its.toArray from p) ?_
    refine ⟨s1.heap.objs.size, [s1.heap.objs.size], _, _, H1, rfl, I1.kept (t' := s1.toks) fun b o e => Heap.get?_push_of_some _ e, turn_tuple a _, ⟨_, Heap.get?_push_size _ rfl, rfl, rfl⟩, fun b hb => ?_, q⟩
    have e : b = s1.heap.objs.size := by simpa using hb
    subst e
    exact I1.fpOk (Nat.le_refl _) (I1.hok.fresh (Nat.le_refl _))
variable {K : PySem.W.Frag}
theorem rd_seqA {te : TE} {σ : L2.St} {H : Hp} {R : It → Hp → Prop} (h : te σ H fun x H1 => ∃ a, x = .ref a ∧ (((∃ xs, SqL K H1 a xs) ∧ R (Itl K a) H1) ∨ ((∃ xs, SqT K H1 a xs) ∧ R (Itt K a) H1))) : iSeqA K te σ H R := h
/-- an address of a list or a tuple of these values -/
def Sq (K : PySem.W.Frag) (H : Hp) (a : Addr) (xs : List V) : Prop := SqL K H a xs ∨ SqT K H a xs
theorem Sq.same {H H' : Hp} {a : Addr} {xs : List V} (s : Same H H') (h : Sq K H a xs) : Sq K H' a xs := h.imp (Same.seq s) (sqT_same s)
theorem Sq.l {H : Hp} {a : Addr} {xs : List V} (h : H a = some (.lst xs)) : Sq K H a xs := .inl (.of h)
theorem Sq.t {H : Hp} {a : Addr} {xs : List V} (h : H a = some (.tup xs)) : Sq K H a xs := .inr (.of h)
section
variable {α : Type} {R : Hp → V → α → Prop} {g : TG} {tt : TT} {te : TE} {vs : List Nat} {σ : L2.St} {H1 : Hp} {Qd : Addr → Hp → Prop} {f : Nat → Option α}
theorem lc_seqA (hR : Mn R) {a : Addr} {xs : List V} (hn : xs.length ≤ 1000) (hl : Sq K H1 a xs)
    (hs : ∀ i x, xs[i]? = some x → Turn1 R H1 f i fun H' Q N => g x (wipe σ vs) H' fun σ2 H2 => wipe σ2 vs = wipe σ vs ∧ tt σ2 H2 fun b H3 => if b = true then te σ2 H3 Q else N H3)
    (hd : ∀ D H', Lst R H1 D (upTo f xs.length) H' → Qd D H') {RR : It → Hp → Prop}
    (hRR : RR = fun J H1 => ∀ D, H1 D = none → ∃ W : Nat → Nat → Hp → Prop, (∃ m, W 0 m (upd H1 D (.lst []))) ∧ ∀ i m H, W i m H →
      (J.stop i H ∧ Qd D H) ∨ (J.go i H ∧ ∃ Nx : Hp → Prop, (∀ H', Nx H' → ∃ m', m' < m ∧ W (i + 1) m' H') ∧ ∀ x H', J.yld i H x H' → g x (wipe σ vs) H' fun σ2 H2 => wipe σ2 vs = wipe σ vs ∧ tt σ2 H2 fun b H3 =>
        if b = true then te σ2 H3 fun y H4 => ∃ acc, H4 D = some (.lst acc) ∧ acc.length < sizeLine ∧ Nx (upd H4 D (.lst (acc ++ [y]))) else Nx H3)) :
    ((∃ xs, SqL K H1 a xs) ∧ RR (Itl K a) H1) ∨ ((∃ xs, SqT K H1 a xs) ∧ RR (Itt K a) H1) := by
  subst hRR
  rcases hl with hl | hl
  · exact .inl ⟨⟨_, hl⟩, fun D nD => lc_listP hR nD hn hl hs fun H' l => hd D H' l⟩
  · exact .inr ⟨⟨_, hl⟩, fun D nD => lc_tupP hR nD hn hl hs fun H' l => hd D H' l⟩
end
section
variable {g : TG} {tb : TS} {D : Ends} {σ : L2.St} {H : Hp}
theorem for_seqA {H0 : Hp} {a : Addr} {xs : List V} (Pv : Nat → L2.St → Hp → Prop) (h : Sq K H0 a xs) (h0 : Pv 0 σ H) (hl : ∀ i σ' H', Pv i σ' H' → Same H0 H')
    (hs : ∀ i x σ H, xs[i]? = some x → Pv i σ H → g x σ H fun σ2 H2 => tb { D with nx := Pv (i + 1), ct := Pv (i + 1), bk := D.nx } σ2 H2) (hd : ∀ σ H, Pv xs.length σ H → D.nx σ H) {RR : It → Hp → Prop}
    (hRR : RR = fun J H1 => ∃ W : Nat → Nat → L2.St → Hp → Prop, (∃ m, W 0 m σ H1) ∧ ∀ i m σ H, W i m σ H →
      (J.stop i H ∧ D.nx σ H) ∨ (J.go i H ∧ ∃ N : L2.St → Hp → Prop, (∀ σ' H', N σ' H' → ∃ m', m' < m ∧ W (i + 1) m' σ' H') ∧ ∀ x H', J.yld i H x H' → g x σ H' fun σ2 H2 => tb { D with nx := N, ct := N, bk := D.nx } σ2 H2)) :
    ((∃ xs, SqL K H a xs) ∧ RR (Itl K a) H) ∨ ((∃ xs, SqT K H a xs) ∧ RR (Itt K a) H) := by
  subst hRR
  rcases h with h | h
  · exact .inl ⟨⟨_, (hl 0 σ H h0).seq h⟩, for_list Pv h0 (fun i σ' H' hi p => (hl i σ' H' p).seq h) hs hd⟩
  · exact .inr ⟨⟨_, sqT_same (hl 0 σ H h0) h⟩, for_tup Pv h0 (fun i σ' H' hi p => sqT_same (hl i σ' H' p) h) hs hd⟩
end
end My
namespace My
open PySem PySem.Spec PyProof.Rows L2
/-! ### zip of a tuple and a list -/
abbrev zmH1 (h : Heap) (l1 : Addr) : Heap := h.push { cls := .type "tuple_iterator", data := .fields #[.ref l1, .int 0 0] }
abbrev zmH2 (h : Heap) (l1 l2 : Addr) : Heap := (zmH1 h l1).push { cls := .type "list_iterator", data := .fields #[.ref l2, .int 0 0] }
abbrev zmH3 (h : Heap) (l1 l2 : Addr) : Heap := (zmH2 h l1 l2).push { cls := .type "tuple", data := .seq #[.ref h.objs.size, .ref (zmH1 h l1).objs.size] }
abbrev zmH4 (h : Heap) (l1 l2 : Addr) : Heap := (zmH3 h l1 l2).push { cls := .type "tuple", data := .seq #[.none, .none] }
abbrev zmH5 (h : Heap) (l1 l2 : Addr) : Heap := (zmH4 h l1 l2).push { cls := .type "zip", data := .fields #[.none, .bool false, .bool false, .ref (zmH2 h l1 l2).objs.size, .ref (zmH3 h l1 l2).objs.size] }
theorem meets_zm_new (l1 l2 : Addr) (xs ys : Array Value) :
    Meets (Builtin.«zip.__new__» ⟨[.type "zip", .ref l1, .ref l2], []⟩) (fun _ R s => s.heap.IsTuple l1 xs ∧ s.heap.IsList l2 ys ∧
      R (.ok (.ret (.ref (zmH4 s.heap l1 l2).objs.size))) { s with heap := zmH5 s.heap l1 l2 }) :=
  .of_wp fun prog w A R s h => by
    obtain ⟨hp, g, d, tk, os⟩ := s
    obtain ⟨hl1, hl2, h⟩ := h
    have hsub := sub_zip
    have hL1 : Heap.IsTuple (Shared.heap ⟨hp, g, d, tk, os⟩) l1 xs := hl1
    have hL2 : Heap.IsList (Shared.heap ⟨hp.push { cls := .type "tuple_iterator", data := .fields #[.ref l1, .int 0 0] }, g, d, tk, os⟩) l2 ys := Heap.IsList.push hl2 _
    wp_walk using wpAny_pyIter_tuple hL1, wpAny_pyIter_list hL2
    exact ⟨_, rfl, h⟩
section
variable {prog : Program} {w : World} {A : Around} {E : Value → Shared → Prop} {s : Shared}
theorem call_zm {l1 l2 : Addr} {xs ys : Array Value} {Q : Value → Shared → Prop} (hl1 : s.heap.IsTuple l1 xs) (hl2 : s.heap.IsList l2 ys)
    (h : ∀ h', IsZip h' (s.heap.objs.size + 4) (s.heap.objs.size + 2) (s.heap.objs.size + 3) .none → IsPair h' (s.heap.objs.size + 2) (.ref s.heap.objs.size) (.ref (s.heap.objs.size + 1)) →
      IsPair h' (s.heap.objs.size + 3) .none .none → h'.IsTupleIter s.heap.objs.size l1 0 → h'.IsListIter (s.heap.objs.size + 1) l2 0 → h'.objs.size = s.heap.objs.size + 5 →
      (∀ c o, s.heap.get? c = some o → h'.get? c = some o) → Q (.ref (s.heap.objs.size + 4)) { s with heap := h' }) :
    wpAny (model prog w) A (call (.type "zip") [.ref l1, .ref l2]) Q E s := by
  refine callType_new F.called_zip (by decide) (F.typeCall_zip_2 _ _) (F.newCall_zip_2 _ _) (fun obj => F.args_object_init_3 obj _ _) F.entry_zip_new
    (meets_zm_new l1 l2 xs ys) ⟨hl1, hl2, ?_⟩
  have z1 : (zmH1 s.heap l1).objs.size = s.heap.objs.size + 1 := Heap.size_push ..
  have z2 : (zmH2 s.heap l1 l2).objs.size = s.heap.objs.size + 2 := by rw [Heap.size_push, z1]
  have z3 : (zmH3 s.heap l1 l2).objs.size = s.heap.objs.size + 3 := by rw [Heap.size_push, z2]
  have z4 : (zmH4 s.heap l1 l2).objs.size = s.heap.objs.size + 4 := by rw [Heap.size_push, z3]
  have z5 : (zmH5 s.heap l1 l2).objs.size = s.heap.objs.size + 5 := by rw [Heap.size_push, z4]
  have g5 : (zmH5 s.heap l1 l2).get? (zmH4 s.heap l1 l2).objs.size = some _ := Heap.get?_push_size _ rfl
  have g4 : (zmH5 s.heap l1 l2).get? (zmH3 s.heap l1 l2).objs.size = some _ := Heap.get?_push_of_some _ (Heap.get?_push_size _ rfl)
  have g3 : (zmH5 s.heap l1 l2).get? (zmH2 s.heap l1 l2).objs.size = some _ := Heap.get?_push_of_some _ (Heap.get?_push_of_some _ (Heap.get?_push_size _ rfl))
  have g2 : (zmH5 s.heap l1 l2).get? (zmH1 s.heap l1).objs.size = some _ := Heap.get?_push_of_some _ (Heap.get?_push_of_some _ (Heap.get?_push_of_some _ (Heap.get?_push_size _ rfl)))
  have g1 : (zmH5 s.heap l1 l2).get? s.heap.objs.size = some _ := Heap.get?_push_of_some _ (Heap.get?_push_of_some _ (Heap.get?_push_of_some _ (Heap.get?_push_of_some _ (Heap.get?_push_size _ rfl))))
  show _ ∧ _
  rw [z2, z3, z4] at g5
  rw [z1, z2] at g3
  rw [z3] at g4
  rw [z1] at g2
  rw [z4]
  exact ⟨⟨_, g5, rfl⟩, h _ g5 g3 g4 ⟨_, g1, rfl, rfl⟩ ⟨_, g2, rfl, rfl⟩ z5 fun c o x =>
    Heap.get?_push_of_some _ (Heap.get?_push_of_some _ (Heap.get?_push_of_some _ (Heap.get?_push_of_some _ (Heap.get?_push_of_some _ x))))⟩
end
def ItzM (K : PySem.W.Frag) (a b : Addr) : It :=
  ⟨fun i H => ∃ (xs ys : List V) (x y : V), SqT K H a xs ∧ SqL K H b ys ∧ xs[i]? = some x ∧ ys[i]? = some y,
    fun i H v H' => ∃ T x y, v = .ref T ∧ H T = none ∧ H' = upd H T (.tup [x, y]) ∧ (∀ xs, SqT K H a xs → xs[i]? = some x) ∧ ∀ ys, SqL K H b ys → ys[i]? = some y,
    fun i H => ∃ xs ys : List V, SqT K H a xs ∧ SqL K H b ys ∧ (xs.length = i ∧ i ≤ ys.length)⟩
theorem zip_sep {z TI TO i1 i2 a b : Addr} (D : ZipApart z TI TO i1 i2 a b) : ZipSep2 z TI TO i1 i2 [i1, a] [i2, b] where
  TIz := D.TIz
  TOz := D.TOz
  TITO := D.TITO
  TIi1 := D.TIi1
  mem1 := by simp
  zf1 := by
    simp
    exact ⟨D.i1z.symm, D.l1z.symm⟩
  Tf1 := by
    simp
    exact ⟨D.TOi1, D.l1TO.symm⟩
  TIi2 := D.TIi2
  mem2 := by simp
  zf2 := by
    simp
    exact ⟨D.i2z.symm, D.l2z.symm⟩
  Tf2 := by
    simp
    exact ⟨D.TOi2, D.l2TO.symm⟩
  sep1_2 := by
    simp
    exact ⟨D.i12, D.l2i1.symm⟩
  sep2_1 := by
    simp
    exact ⟨D.i12.symm, D.l1i2.symm⟩
theorem turn_zm {P : Program} {w : World} {K : PySem.W.Frag} {elts : List Expr} {kk : Nat} {tpos : Pos} {a b z TI TO i1 i2 : Addr} (D : ZipApart z TI TO i1 i2 a b) :
    Turn P w K (.Tuple elts kk tpos) (ItzM K a b) [z, TI, TO, i1, i2] z (fun i h => IsZip h z TI TO .none ∧ IsPair h TI (.ref i1) (.ref i2) ∧ (∃ x y, IsPair h TO x y) ∧ h.IsTupleIter i1 a i ∧ h.IsListIter i2 b i) where
  mem := by simp
  obj := fun i h st c hc => by
    obtain ⟨hz, hTI, ⟨x, y, hTO⟩, ⟨o1, e1, _, d1⟩, ⟨o2, e2, _, d2⟩⟩ := st
    have e' : c = z ∨ c = TI ∨ c = TO ∨ c = i1 ∨ c = i2 := by simpa using hc
    rcases e' with q | q | q | q | q
    · rw [q]; exact ⟨_, hz, fun v q => nomatch q⟩
    · rw [q]; exact ⟨_, hTI, fun v q => nomatch q⟩
    · rw [q]; exact ⟨_, hTO, fun v q => nomatch q⟩
    · rw [q]; exact ⟨o1, e1, fun v q => by rw [d1] at q; cases q⟩
    · rw [q]; exact ⟨o2, e2, fun v q => by rw [d2] at q; cases q⟩
  keep := fun i h h' st k => by
    obtain ⟨hz, hTI, ⟨x, y, hTO⟩, h1, h2⟩ := st
    exact ⟨k z (by simp) _ hz, k TI (by simp) _ hTI, ⟨x, y, k TO (by simp) _ hTO⟩, h1.at fun o q => k i1 (by simp) o q, h2.at fun o q => k i2 (by simp) o q⟩
  item := by
    intro X hP hw hK hc i pins s σ H E I hf st hg
    subst hP hw hK
    obtain ⟨hz, hTI, ⟨x0, y0, hTO⟩, h1, h2⟩ := st
    obtain ⟨xs, ys, x, y, hqx, hqy, hx, hy⟩ := hg
    obtain ⟨its, rv, p, _⟩ := I.tuple hqx
    obtain ⟨its2, rv2, p2, _⟩ := I.list hqy
    obtain ⟨u, hu, ru⟩ := rv.get hx
    obtain ⟨u2, hu2, ru2⟩ := rv2.get hy
    have hzl : z < s.heap.objs.size := Heap.lt_size hz
    have hh : X.A.in1.handled = none := I.ok.hd hc
    have D1 := tupDraws (prog := X.prog) (w := X.w) (A := X.A.in1) (its := its.toArray) hh D.l1i1
    have D2 := Draws.list (prog := X.prog) (w := X.w) (A := X.A.in1) hh i2 b D.l2i2 its2.toArray
    have n1 : i < its.toArray.size := by
      have := (List.getElem?_eq_some_iff.mp hu).1
      simpa using this
    have n2 : i < its2.toArray.size := by
      have := (List.getElem?_eq_some_iff.mp hu2).1
      simpa using this
    refine wpAny_pyNext_zipD2_item (zip_sep D) D1 D2 hz hTI hTO ⟨h1, p⟩ ⟨h2, p2.isList⟩ n1 n2 fun v1 v2 h' tk e1 e2 z' TO' h1' h2' hT hsz hk => ?_
    obtain rfl : u = v1 := by
      have e3 : its.toArray[i]? = some u := by simpa using hu
      exact Option.some.inj (e3.symm.trans e1)
    obtain rfl : u2 = v2 := by
      have e3 : its2.toArray[i]? = some u2 := by simpa using hu2
      exact Option.some.inj (e3.symm.trans e2)
    refine ⟨_, rfl, wpAny_letOwnedTupleGo_zip (s := { s with heap := h', toks := tk }) z' fun h'' z'' sb => ?_⟩
    have hT2 : h''.get? s.heap.objs.size = some { cls := .type "tuple", data := .seq #[u, u2] } := (sb.2 _ (Nat.ne_of_gt hzl)).trans hT
    have new : ObjOk X.prog X.w (upd H s.heap.objs.size (.tup [x, y])) h'' s.heap.objs.size (.tup [x, y]) :=
      ⟨by show 2 ≤ sizeLine; decide, [u, u2], .cons ru (.cons ru2 .nil), ⟨_, hT2, rfl, _, rfl⟩⟩
    have I1 : Inv X pins σ (upd H s.heap.objs.size (.tup [x, y])) { s with heap := h'', toks := tk } :=
      I.turnedNew (t' := tk) (ch := [z, TI, TO, i1, i2]) (fun c o hb q => (sb.2 c (fun q' => hb (by simp [q']))).trans (hk c o (fun q' => hb (by simp [q'])) (fun q' => hb (by simp [q'])) (fun q' => hb (by simp [q'])) (fun q' => hb (by simp [q'])) q)) hf (Nat.le_refl _) new
    refine ⟨.ref s.heap.objs.size, _, I1, rfl, ⟨_, x, y, rfl, I.hok.fresh (Nat.le_refl _), rfl, fun l hl => by rw [I.tuple_inj hl hqx]; exact hx, fun l hl => by rw [I.list_inj hl hqy]; exact hy⟩, ⟨z'', ?_, ⟨u, u2, ?_⟩, ?_, ?_⟩, fun c hcm => ?_⟩
    · exact (sb.2 _ D.TIz).trans (hk _ _ D.TIz D.TITO D.TIi1 D.TIi2 hTI)
    · exact (sb.2 _ D.TOz).trans TO'
    · exact Heap.IsTupleIter.at (show h'.IsTupleIter i1 a (i + 1) from h1'.1) fun o q => (sb.2 _ D.i1z).trans q
    · exact h2'.1.at fun o q => (sb.2 _ D.i2z).trans q
    · have hlt : c < s.heap.objs.size := by
        have e' : c = z ∨ c = TI ∨ c = TO ∨ c = i1 ∨ c = i2 := by simpa using hcm
        rcases e' with q | q | q | q | q
        · rw [q]; exact hzl
        · rw [q]; exact Heap.lt_size hTI
        · rw [q]; exact Heap.lt_size hTO
        · rw [q]; obtain ⟨_, e1, _⟩ := h1; exact Heap.lt_size e1
        · rw [q]; obtain ⟨_, e2, _⟩ := h2; exact Heap.lt_size e2
      rw [upd_ne (Nat.ne_of_lt hlt)]
      exact (hf c hcm).1
  done := by
    intro X hP hw hK hc i pins s σ H E I hf st hg
    subst hP hw hK
    obtain ⟨hz, hTI, ⟨x0, y0, hTO⟩, h1, h2⟩ := st
    obtain ⟨xs, ys, hqx, hqy, hend⟩ := hg
    obtain ⟨its, rv, p, _⟩ := I.tuple hqx
    obtain ⟨its2, rv2, p2, _⟩ := I.list hqy
    have l1 := rv.length
    have l2 := rv2.length
    have hh : X.A.in1.handled = none := I.ok.hd hc
    have D1 := tupDraws (prog := X.prog) (w := X.w) (A := X.A.in1) (its := its.toArray) hh D.l1i1
    have D2 := Draws.list (prog := X.prog) (w := X.w) (A := X.A.in1) hh i2 b D.l2i2 its2.toArray
    exact wpAny_pyNext_zipD2_end (zip_sep D) D1 D2 hz hTI hTO ⟨h1, p⟩ ⟨h2, p2.isList⟩ (by simp; omega) (by simp; omega) (.inl (by simp; omega)) fun h' tk hk => ⟨rfl, I.turnedL (t' := tk) (ch := [z, TI, TO, i1, i2]) (fun c o hb q =>
      hk c o (fun q' => hb (by simp [q'])) (fun q' => hb (by simp [q'])) (fun q' => hb (by simp [q'])) (fun q' => hb (by simp [q'])) q) hf⟩
  self := fun A i s Q E st h => wpAny_pyIter_zip st.1 h
def iZipM (K : PySem.W.Frag) (ta : TA) : TI := fun σ H R => ta σ H fun vs H1 => ∃ a b xs ys, vs = [.ref a, .ref b] ∧ SqT K H1 a xs ∧ ((SqL K H1 b ys ∧ R (ItzM K a b) H1) ∨ (SqT K H1 b ys ∧ R (RZ.ItzT K a b) H1))
theorem pi_zipM {X : Cx} {e e2 : Expr} {ta : TA} {p pos tpos : Pos} {elts : List Expr} {kk : Nat} (hg : Gl X "zip") (hm : X.mg "zip" = none) (ha : PA X [e, e2] ta)
    (hs : starEach [e, e2] X.env = (false, eval e X.env) :: starEach [e2] X.env := by rfl) (hpl : (backTo pos (starEach [e2] X.env)).any (·.1) = false := by rfl) :
    PI X (.Tuple elts kk tpos) (.Call (.Name "zip" p) [e, e2] [] pos) (iZipM X.K ta) := by
  refine ⟨fun pins s σ H R I h => ?_⟩
  refine Call_ (ld_blt I hg hm PyProof.Rows.boot_zip (PyProof.Rows.callWith_type1 (thn (ha.run pos pins s σ H _ I h) fun us s1 ⟨vs, H1, I1, r1, q1⟩ => ?_) hs hpl))
  obtain ⟨a, b, xs, ys, ex, hqx, q1⟩ := q1
  subst ex
  cases r1 with
  | cons r rr =>
    cases rr with
    | cons r' rr =>
      cases rr
      cases r
      cases r'
      have fresh5 : ∀ c, c ∈ [s1.heap.objs.size + 4, s1.heap.objs.size + 2, s1.heap.objs.size + 3, s1.heap.objs.size, s1.heap.objs.size + 1] → FpOk X pins H1 c := fun c hcm => by
        have e' : c = s1.heap.objs.size + 4 ∨ c = s1.heap.objs.size + 2 ∨ c = s1.heap.objs.size + 3 ∨ c = s1.heap.objs.size ∨ c = s1.heap.objs.size + 1 := by simpa using hcm
        have hle : s1.heap.objs.size ≤ c := by
          rcases e' with z | z | z | z | z
          · rw [z]; exact Nat.le_add_right _ _
          · rw [z]; exact Nat.le_add_right _ _
          · rw [z]; exact Nat.le_add_right _ _
          · rw [z]; exact Nat.le_refl _
          · rw [z]; exact Nat.le_add_right _ _
        exact I1.fpOk hle (I1.hok.fresh hle)
      obtain ⟨its, rv, p1, _⟩ := I1.tuple hqx
      obtain ⟨o1, ho1, _⟩ := id p1
      rcases q1 with ⟨hqy, q⟩ | ⟨hqy, q⟩
      · obtain ⟨its2, rv2, p2, _⟩ := I1.list hqy
        refine call_zm (show s1.heap.IsTuple a its.toArray from p1) p2.isList fun h' hz hTI hTO h1 h2 hsz hk => wpAny_pyIter_zip hz ?_
        have I2 : Inv X pins σ H1 { s1 with heap := h' } := I1.kept (t' := s1.toks) hk
        exact ⟨s1.heap.objs.size + 4, [s1.heap.objs.size + 4, s1.heap.objs.size + 2, s1.heap.objs.size + 3, s1.heap.objs.size, s1.heap.objs.size + 1], _, _, H1, rfl, I2, turn_zm (PySem.W.ktu_apart s1.heap.objs.size a b (Heap.lt_size ho1) p2.lt), ⟨hz, hTI, ⟨_, _, hTO⟩, h1, h2⟩, fresh5, q⟩
      · obtain ⟨its2, rv2, p2, _⟩ := I1.tuple hqy
        obtain ⟨o2, ho2, _⟩ := id p2
        refine RZ.call_zipT (show s1.heap.IsTuple a its.toArray from p1) (show s1.heap.IsTuple b its2.toArray from p2) fun h' hz hTI hTO h1 h2 hsz hk => wpAny_pyIter_zip hz ?_
        have I2 : Inv X pins σ H1 { s1 with heap := h' } := I1.kept (t' := s1.toks) hk
        exact ⟨s1.heap.objs.size + 4, [s1.heap.objs.size + 4, s1.heap.objs.size + 2, s1.heap.objs.size + 3, s1.heap.objs.size, s1.heap.objs.size + 1], _, _, H1, rfl, I2, RZ.turn_zipT (PySem.W.ktu_apart s1.heap.objs.size a b (Heap.lt_size ho1) (Heap.lt_size ho2)), ⟨hz, hTI, ⟨_, _, hTO⟩, h1, h2⟩, fresh5, q⟩
variable {K : PySem.W.Frag}
theorem rd_zipM {ta : TA} {σ : L2.St} {H : Hp} {R : It → Hp → Prop} (h : ta σ H fun vs H1 => ∃ a b xs ys, vs = [.ref a, .ref b] ∧ SqT K H1 a xs ∧ ((SqL K H1 b ys ∧ R (ItzM K a b) H1) ∨ (SqT K H1 b ys ∧ R (RZ.ItzT K a b) H1))) : iZipM K ta σ H R := h
section
variable {α : Type} {R : Hp → V → α → Prop} {g : TG} {tt : TT} {te : TE} {vs : List Nat} {σ : L2.St} {H1 : Hp} {Qd : Addr → Hp → Prop} {f : Nat → Option α}
/-- a comprehension over zip of a tuple and a list or a tuple of the same length -/
theorem lc_zipM (hR : Mn R) {a b : Addr} {xs ys : List V} (hn : xs.length ≤ 1000) (hlen : xs.length = ys.length) (ha : SqT K H1 a xs) (hb : Sq K H1 b ys)
    (hs : ∀ i x y, xs[i]? = some x → ys[i]? = some y → Turn1 R H1 f i fun H' Q N => ∀ T, H' T = none → g (.ref T) (wipe σ vs) (upd H' T (.tup [x, y])) fun σ2 H2 => wipe σ2 vs = wipe σ vs ∧ tt σ2 H2 fun b H3 => if b = true then te σ2 H3 Q else N H3)
    (hd : ∀ D H', Lst R H1 D (upTo f xs.length) H' → Qd D H') {RR : It → Hp → Prop}
    (hRR : RR = fun J H1 => ∀ D, H1 D = none → ∃ W : Nat → Nat → Hp → Prop, (∃ m, W 0 m (upd H1 D (.lst []))) ∧ ∀ i m H, W i m H →
      (J.stop i H ∧ Qd D H) ∨ (J.go i H ∧ ∃ Nx : Hp → Prop, (∀ H', Nx H' → ∃ m', m' < m ∧ W (i + 1) m' H') ∧ ∀ x H', J.yld i H x H' → g x (wipe σ vs) H' fun σ2 H2 => wipe σ2 vs = wipe σ vs ∧ tt σ2 H2 fun b H3 =>
        if b = true then te σ2 H3 fun y H4 => ∃ acc, H4 D = some (.lst acc) ∧ acc.length < sizeLine ∧ Nx (upd H4 D (.lst (acc ++ [y]))) else Nx H3)) :
    (SqL K H1 b ys ∧ RR (ItzM K a b) H1) ∨ (SqT K H1 b ys ∧ RR (RZ.ItzT K a b) H1) := by
  subst hRR
  rcases hb with hb | hb
  · refine .inl ⟨hb, fun D nD => ?_⟩
    refine ⟨fun i m H => m = xs.length - i ∧ i ≤ xs.length ∧ Lst R H1 D (upTo f i) H, ⟨xs.length, by simp, Nat.zero_le _, lst_new nD⟩, ?_⟩
    rintro i m H ⟨rfl, hi, l⟩
    have qa := sqT_same l.1 ha
    have qb := l.1.seq hb
    by_cases hlt : i < xs.length
    · refine .inr ⟨⟨xs, ys, xs[i], ys[i], qa, qb, by simp [hlt], by simp⟩, Lst R H1 D (upTo f (i + 1)), fun H' p' => ⟨xs.length - (i + 1), by omega, rfl, hlt, p'⟩, fun x H' y => ?_⟩
      obtain ⟨T, x, y, rfl, nT, rfl, hx, hy⟩ := y
      exact Turn1.step (i := i) hR nD (by omega) (hs i x y (hx xs qa) (hy ys qb)) l T nT
    · have e : i = xs.length := by omega
      subst e
      exact .inl ⟨⟨xs, ys, qa, qb, rfl, by omega⟩, hd D H l⟩
  · refine .inr ⟨hb, fun D nD => ?_⟩
    refine ⟨fun i m H => m = xs.length - i ∧ i ≤ xs.length ∧ Lst R H1 D (upTo f i) H, ⟨xs.length, by simp, Nat.zero_le _, lst_new nD⟩, ?_⟩
    rintro i m H ⟨rfl, hi, l⟩
    have qa := sqT_same l.1 ha
    have qb := sqT_same l.1 hb
    by_cases hlt : i < xs.length
    · refine .inr ⟨⟨xs, ys, xs[i], ys[i], qa, qb, by simp [hlt], by simp⟩, Lst R H1 D (upTo f (i + 1)), fun H' p' => ⟨xs.length - (i + 1), by omega, rfl, hlt, p'⟩, fun x H' y => ?_⟩
      obtain ⟨T, x, y, rfl, nT, rfl, hx, hy⟩ := y
      exact Turn1.step (i := i) hR nD (by omega) (hs i x y (hx xs qa) (hy ys qb)) l T nT
    · have e : i = xs.length := by omega
      subst e
      exact .inl ⟨⟨xs, ys, qa, qb, .inl (Nat.le_refl _)⟩, hd D H l⟩
end
end My
namespace My
open PySem PySem.Spec PyProof.Rows L2
/-! ### zip of a list and a tuple -/
abbrev znH1 (h : Heap) (l1 : Addr) : Heap := h.push { cls := .type "list_iterator", data := .fields #[.ref l1, .int 0 0] }
abbrev znH2 (h : Heap) (l1 l2 : Addr) : Heap := (znH1 h l1).push { cls := .type "tuple_iterator", data := .fields #[.ref l2, .int 0 0] }
abbrev znH3 (h : Heap) (l1 l2 : Addr) : Heap := (znH2 h l1 l2).push { cls := .type "tuple", data := .seq #[.ref h.objs.size, .ref (znH1 h l1).objs.size] }
abbrev znH4 (h : Heap) (l1 l2 : Addr) : Heap := (znH3 h l1 l2).push { cls := .type "tuple", data := .seq #[.none, .none] }
abbrev znH5 (h : Heap) (l1 l2 : Addr) : Heap := (znH4 h l1 l2).push { cls := .type "zip", data := .fields #[.none, .bool false, .bool false, .ref (znH2 h l1 l2).objs.size, .ref (znH3 h l1 l2).objs.size] }
theorem meets_zn_new (l1 l2 : Addr) (xs ys : Array Value) :
    Meets (Builtin.«zip.__new__» ⟨[.type "zip", .ref l1, .ref l2], []⟩) (fun _ R s => s.heap.IsList l1 xs ∧ s.heap.IsTuple l2 ys ∧
      R (.ok (.ret (.ref (znH4 s.heap l1 l2).objs.size))) { s with heap := znH5 s.heap l1 l2 }) :=
  .of_wp fun prog w A R s h => by
    obtain ⟨hp, g, d, tk, os⟩ := s
    obtain ⟨hl1, hl2, h⟩ := h
    have hsub := sub_zip
    have hL1 : Heap.IsList (Shared.heap ⟨hp, g, d, tk, os⟩) l1 xs := hl1
    have hL2 : Heap.IsTuple (Shared.heap ⟨hp.push { cls := .type "list_iterator", data := .fields #[.ref l1, .int 0 0] }, g, d, tk, os⟩) l2 ys := Heap.IsTuple.push hl2 _
    wp_walk using wpAny_pyIter_list hL1, wpAny_pyIter_tuple hL2
    exact ⟨_, rfl, h⟩
section
variable {prog : Program} {w : World} {A : Around} {E : Value → Shared → Prop} {s : Shared}
theorem call_zn {l1 l2 : Addr} {xs ys : Array Value} {Q : Value → Shared → Prop} (hl1 : s.heap.IsList l1 xs) (hl2 : s.heap.IsTuple l2 ys)
    (h : ∀ h', IsZip h' (s.heap.objs.size + 4) (s.heap.objs.size + 2) (s.heap.objs.size + 3) .none → IsPair h' (s.heap.objs.size + 2) (.ref s.heap.objs.size) (.ref (s.heap.objs.size + 1)) →
      IsPair h' (s.heap.objs.size + 3) .none .none → h'.IsListIter s.heap.objs.size l1 0 → h'.IsTupleIter (s.heap.objs.size + 1) l2 0 → h'.objs.size = s.heap.objs.size + 5 →
      (∀ c o, s.heap.get? c = some o → h'.get? c = some o) → Q (.ref (s.heap.objs.size + 4)) { s with heap := h' }) :
    wpAny (model prog w) A (call (.type "zip") [.ref l1, .ref l2]) Q E s := by
  refine callType_new F.called_zip (by decide) (F.typeCall_zip_2 _ _) (F.newCall_zip_2 _ _) (fun obj => F.args_object_init_3 obj _ _) F.entry_zip_new
    (meets_zn_new l1 l2 xs ys) ⟨hl1, hl2, ?_⟩
  have z1 : (znH1 s.heap l1).objs.size = s.heap.objs.size + 1 := Heap.size_push ..
  have z2 : (znH2 s.heap l1 l2).objs.size = s.heap.objs.size + 2 := by rw [Heap.size_push, z1]
  have z3 : (znH3 s.heap l1 l2).objs.size = s.heap.objs.size + 3 := by rw [Heap.size_push, z2]
  have z4 : (znH4 s.heap l1 l2).objs.size = s.heap.objs.size + 4 := by rw [Heap.size_push, z3]
  have z5 : (znH5 s.heap l1 l2).objs.size = s.heap.objs.size + 5 := by rw [Heap.size_push, z4]
  have g5 : (znH5 s.heap l1 l2).get? (znH4 s.heap l1 l2).objs.size = some _ := Heap.get?_push_size _ rfl
  have g4 : (znH5 s.heap l1 l2).get? (znH3 s.heap l1 l2).objs.size = some _ := Heap.get?_push_of_some _ (Heap.get?_push_size _ rfl)
  have g3 : (znH5 s.heap l1 l2).get? (znH2 s.heap l1 l2).objs.size = some _ := Heap.get?_push_of_some _ (Heap.get?_push_of_some _ (Heap.get?_push_size _ rfl))
  have g2 : (znH5 s.heap l1 l2).get? (znH1 s.heap l1).objs.size = some _ := Heap.get?_push_of_some _ (Heap.get?_push_of_some _ (Heap.get?_push_of_some _ (Heap.get?_push_size _ rfl)))
  have g1 : (znH5 s.heap l1 l2).get? s.heap.objs.size = some _ := Heap.get?_push_of_some _ (Heap.get?_push_of_some _ (Heap.get?_push_of_some _ (Heap.get?_push_of_some _ (Heap.get?_push_size _ rfl))))
  show _ ∧ _
  rw [z2, z3, z4] at g5
  rw [z1, z2] at g3
  rw [z3] at g4
  rw [z1] at g2
  rw [z4]
  exact ⟨⟨_, g5, rfl⟩, h _ g5 g3 g4 ⟨_, g1, rfl, rfl⟩ ⟨_, g2, rfl, rfl⟩ z5 fun c o x =>
    Heap.get?_push_of_some _ (Heap.get?_push_of_some _ (Heap.get?_push_of_some _ (Heap.get?_push_of_some _ (Heap.get?_push_of_some _ x))))⟩
end
def ItzN (K : PySem.W.Frag) (a b : Addr) : It :=
  ⟨fun i H => ∃ (xs ys : List V) (x y : V), SqL K H a xs ∧ SqT K H b ys ∧ xs[i]? = some x ∧ ys[i]? = some y,
    fun i H v H' => ∃ T x y, v = .ref T ∧ H T = none ∧ H' = upd H T (.tup [x, y]) ∧ (∀ xs, SqL K H a xs → xs[i]? = some x) ∧ ∀ ys, SqT K H b ys → ys[i]? = some y,
    fun i H => ∃ xs ys : List V, SqL K H a xs ∧ SqT K H b ys ∧ (xs.length = i ∧ i ≤ ys.length)⟩
theorem turn_zn {P : Program} {w : World} {K : PySem.W.Frag} {elts : List Expr} {kk : Nat} {tpos : Pos} {a b z TI TO i1 i2 : Addr} (D : ZipApart z TI TO i1 i2 a b) :
    Turn P w K (.Tuple elts kk tpos) (ItzN K a b) [z, TI, TO, i1, i2] z (fun i h => IsZip h z TI TO .none ∧ IsPair h TI (.ref i1) (.ref i2) ∧ (∃ x y, IsPair h TO x y) ∧ h.IsListIter i1 a i ∧ h.IsTupleIter i2 b i) where
  mem := by simp
  obj := fun i h st c hc => by
    obtain ⟨hz, hTI, ⟨x, y, hTO⟩, ⟨o1, e1, _, d1⟩, ⟨o2, e2, _, d2⟩⟩ := st
    have e' : c = z ∨ c = TI ∨ c = TO ∨ c = i1 ∨ c = i2 := by simpa using hc
    rcases e' with q | q | q | q | q
    · rw [q]; exact ⟨_, hz, fun v q => nomatch q⟩
    · rw [q]; exact ⟨_, hTI, fun v q => nomatch q⟩
    · rw [q]; exact ⟨_, hTO, fun v q => nomatch q⟩
    · rw [q]; exact ⟨o1, e1, fun v q => by rw [d1] at q; cases q⟩
    · rw [q]; exact ⟨o2, e2, fun v q => by rw [d2] at q; cases q⟩
  keep := fun i h h' st k => by
    obtain ⟨hz, hTI, ⟨x, y, hTO⟩, h1, h2⟩ := st
    exact ⟨k z (by simp) _ hz, k TI (by simp) _ hTI, ⟨x, y, k TO (by simp) _ hTO⟩, h1.at fun o q => k i1 (by simp) o q, h2.at fun o q => k i2 (by simp) o q⟩
  item := by
    intro X hP hw hK hc i pins s σ H E I hf st hg
    subst hP hw hK
    obtain ⟨hz, hTI, ⟨x0, y0, hTO⟩, h1, h2⟩ := st
    obtain ⟨xs, ys, x, y, hqx, hqy, hx, hy⟩ := hg
    obtain ⟨its, rv, p, _⟩ := I.list hqx
    obtain ⟨its2, rv2, p2, _⟩ := I.tuple hqy
    obtain ⟨u, hu, ru⟩ := rv.get hx
    obtain ⟨u2, hu2, ru2⟩ := rv2.get hy
    have hzl : z < s.heap.objs.size := Heap.lt_size hz
    have hh : X.A.in1.handled = none := I.ok.hd hc
    have D1 := Draws.list (prog := X.prog) (w := X.w) (A := X.A.in1) hh i1 a D.l1i1 its.toArray
    have D2 := tupDraws (prog := X.prog) (w := X.w) (A := X.A.in1) (its := its2.toArray) hh D.l2i2
    have n1 : i < its.toArray.size := by
      have := (List.getElem?_eq_some_iff.mp hu).1
      simpa using this
    have n2 : i < its2.toArray.size := by
      have := (List.getElem?_eq_some_iff.mp hu2).1
      simpa using this
    refine wpAny_pyNext_zipD2_item (zip_sep D) D1 D2 hz hTI hTO ⟨h1, p.isList⟩ ⟨h2, p2⟩ n1 n2 fun v1 v2 h' tk e1 e2 z' TO' h1' h2' hT hsz hk => ?_
    obtain rfl : u = v1 := by
      have e3 : its.toArray[i]? = some u := by simpa using hu
      exact Option.some.inj (e3.symm.trans e1)
    obtain rfl : u2 = v2 := by
      have e3 : its2.toArray[i]? = some u2 := by simpa using hu2
      exact Option.some.inj (e3.symm.trans e2)
    refine ⟨_, rfl, wpAny_letOwnedTupleGo_zip (s := { s with heap := h', toks := tk }) z' fun h'' z'' sb => ?_⟩
    have hT2 : h''.get? s.heap.objs.size = some { cls := .type "tuple", data := .seq #[u, u2] } := (sb.2 _ (Nat.ne_of_gt hzl)).trans hT
    have new : ObjOk X.prog X.w (upd H s.heap.objs.size (.tup [x, y])) h'' s.heap.objs.size (.tup [x, y]) :=
      ⟨by show 2 ≤ sizeLine; decide, [u, u2], .cons ru (.cons ru2 .nil), ⟨_, hT2, rfl, _, rfl⟩⟩
    have I1 : Inv X pins σ (upd H s.heap.objs.size (.tup [x, y])) { s with heap := h'', toks := tk } :=
      I.turnedNew (t' := tk) (ch := [z, TI, TO, i1, i2]) (fun c o hb q => (sb.2 c (fun q' => hb (by simp [q']))).trans (hk c o (fun q' => hb (by simp [q'])) (fun q' => hb (by simp [q'])) (fun q' => hb (by simp [q'])) (fun q' => hb (by simp [q'])) q)) hf (Nat.le_refl _) new
    refine ⟨.ref s.heap.objs.size, _, I1, rfl, ⟨_, x, y, rfl, I.hok.fresh (Nat.le_refl _), rfl, fun l hl => by rw [I.list_inj hl hqx]; exact hx, fun l hl => by rw [I.tuple_inj hl hqy]; exact hy⟩, ⟨z'', ?_, ⟨u, u2, ?_⟩, ?_, ?_⟩, fun c hcm => ?_⟩
    · exact (sb.2 _ D.TIz).trans (hk _ _ D.TIz D.TITO D.TIi1 D.TIi2 hTI)
    · exact (sb.2 _ D.TOz).trans TO'
    · exact h1'.1.at fun o q => (sb.2 _ D.i1z).trans q
    · exact Heap.IsTupleIter.at (show h'.IsTupleIter i2 b (i + 1) from h2'.1) fun o q => (sb.2 _ D.i2z).trans q
    · have hlt : c < s.heap.objs.size := by
        have e' : c = z ∨ c = TI ∨ c = TO ∨ c = i1 ∨ c = i2 := by simpa using hcm
        rcases e' with q | q | q | q | q
        · rw [q]; exact hzl
        · rw [q]; exact Heap.lt_size hTI
        · rw [q]; exact Heap.lt_size hTO
        · rw [q]; obtain ⟨_, e1, _⟩ := h1; exact Heap.lt_size e1
        · rw [q]; obtain ⟨_, e2, _⟩ := h2; exact Heap.lt_size e2
      rw [upd_ne (Nat.ne_of_lt hlt)]
      exact (hf c hcm).1
  done := by
    intro X hP hw hK hc i pins s σ H E I hf st hg
    subst hP hw hK
    obtain ⟨hz, hTI, ⟨x0, y0, hTO⟩, h1, h2⟩ := st
    obtain ⟨xs, ys, hqx, hqy, hend⟩ := hg
    obtain ⟨its, rv, p, _⟩ := I.list hqx
    obtain ⟨its2, rv2, p2, _⟩ := I.tuple hqy
    have l1 := rv.length
    have l2 := rv2.length
    have hh : X.A.in1.handled = none := I.ok.hd hc
    have D1 := Draws.list (prog := X.prog) (w := X.w) (A := X.A.in1) hh i1 a D.l1i1 its.toArray
    have D2 := tupDraws (prog := X.prog) (w := X.w) (A := X.A.in1) (its := its2.toArray) hh D.l2i2
    exact wpAny_pyNext_zipD2_end (zip_sep D) D1 D2 hz hTI hTO ⟨h1, p.isList⟩ ⟨h2, p2⟩ (by simp; omega) (by simp; omega) (.inl (by simp; omega)) fun h' tk hk => ⟨rfl, I.turnedL (t' := tk) (ch := [z, TI, TO, i1, i2]) (fun c o hb q =>
      hk c o (fun q' => hb (by simp [q'])) (fun q' => hb (by simp [q'])) (fun q' => hb (by simp [q'])) (fun q' => hb (by simp [q'])) q) hf⟩
  self := fun A i s Q E st h => wpAny_pyIter_zip st.1 h
def iZipN (K : PySem.W.Frag) (ta : TA) : TI := fun σ H R => ta σ H fun vs H1 => ∃ a b xs ys, vs = [.ref a, .ref b] ∧ SqT K H1 b ys ∧ ((SqL K H1 a xs ∧ R (ItzN K a b) H1) ∨ (SqT K H1 a xs ∧ R (RZ.ItzT K a b) H1))
theorem pi_zipN {X : Cx} {e e2 : Expr} {ta : TA} {p pos tpos : Pos} {elts : List Expr} {kk : Nat} (hg : Gl X "zip") (hm : X.mg "zip" = none) (ha : PA X [e, e2] ta)
    (hs : starEach [e, e2] X.env = (false, eval e X.env) :: starEach [e2] X.env := by rfl) (hpl : (backTo pos (starEach [e2] X.env)).any (·.1) = false := by rfl) :
    PI X (.Tuple elts kk tpos) (.Call (.Name "zip" p) [e, e2] [] pos) (iZipN X.K ta) := by
  refine ⟨fun pins s σ H R I h => ?_⟩
  refine Call_ (ld_blt I hg hm PyProof.Rows.boot_zip (PyProof.Rows.callWith_type1 (thn (ha.run pos pins s σ H _ I h) fun us s1 ⟨vs, H1, I1, r1, q1⟩ => ?_) hs hpl))
  obtain ⟨a, b, xs, ys, ex, hqy, q1⟩ := q1
  subst ex
  cases r1 with
  | cons r rr =>
    cases rr with
    | cons r' rr =>
      cases rr
      cases r
      cases r'
      have fresh5 : ∀ c, c ∈ [s1.heap.objs.size + 4, s1.heap.objs.size + 2, s1.heap.objs.size + 3, s1.heap.objs.size, s1.heap.objs.size + 1] → FpOk X pins H1 c := fun c hcm => by
        have e' : c = s1.heap.objs.size + 4 ∨ c = s1.heap.objs.size + 2 ∨ c = s1.heap.objs.size + 3 ∨ c = s1.heap.objs.size ∨ c = s1.heap.objs.size + 1 := by simpa using hcm
        have hle : s1.heap.objs.size ≤ c := by
          rcases e' with z | z | z | z | z
          · rw [z]; exact Nat.le_add_right _ _
          · rw [z]; exact Nat.le_add_right _ _
          · rw [z]; exact Nat.le_add_right _ _
          · rw [z]; exact Nat.le_refl _
          · rw [z]; exact Nat.le_add_right _ _
        exact I1.fpOk hle (I1.hok.fresh hle)
      obtain ⟨its2, rv2, p2, _⟩ := I1.tuple hqy
      obtain ⟨o2, ho2, _⟩ := id p2
      rcases q1 with ⟨hqx, q⟩ | ⟨hqx, q⟩
      · obtain ⟨its, rv, p1, _⟩ := I1.list hqx
        refine call_zn p1.isList (show s1.heap.IsTuple b its2.toArray from p2) fun h' hz hTI hTO h1 h2 hsz hk => wpAny_pyIter_zip hz ?_
        have I2 : Inv X pins σ H1 { s1 with heap := h' } := I1.kept (t' := s1.toks) hk
        exact ⟨s1.heap.objs.size + 4, [s1.heap.objs.size + 4, s1.heap.objs.size + 2, s1.heap.objs.size + 3, s1.heap.objs.size, s1.heap.objs.size + 1], _, _, H1, rfl, I2, turn_zn (PySem.W.ktu_apart s1.heap.objs.size a b p1.lt (Heap.lt_size ho2)), ⟨hz, hTI, ⟨_, _, hTO⟩, h1, h2⟩, fresh5, q⟩
      · obtain ⟨its, rv, p1, _⟩ := I1.tuple hqx
        obtain ⟨o1, ho1, _⟩ := id p1
        refine RZ.call_zipT (show s1.heap.IsTuple a its.toArray from p1) (show s1.heap.IsTuple b its2.toArray from p2) fun h' hz hTI hTO h1 h2 hsz hk => wpAny_pyIter_zip hz ?_
        have I2 : Inv X pins σ H1 { s1 with heap := h' } := I1.kept (t' := s1.toks) hk
        exact ⟨s1.heap.objs.size + 4, [s1.heap.objs.size + 4, s1.heap.objs.size + 2, s1.heap.objs.size + 3, s1.heap.objs.size, s1.heap.objs.size + 1], _, _, H1, rfl, I2, RZ.turn_zipT (PySem.W.ktu_apart s1.heap.objs.size a b (Heap.lt_size ho1) (Heap.lt_size ho2)), ⟨hz, hTI, ⟨_, _, hTO⟩, h1, h2⟩, fresh5, q⟩
variable {K : PySem.W.Frag}
theorem rd_zipN {ta : TA} {σ : L2.St} {H : Hp} {R : It → Hp → Prop} (h : ta σ H fun vs H1 => ∃ a b xs ys, vs = [.ref a, .ref b] ∧ SqT K H1 b ys ∧ ((SqL K H1 a xs ∧ R (ItzN K a b) H1) ∨ (SqT K H1 a xs ∧ R (RZ.ItzT K a b) H1))) : iZipN K ta σ H R := h
section
variable {α : Type} {R : Hp → V → α → Prop} {g : TG} {tt : TT} {te : TE} {vs : List Nat} {σ : L2.St} {H1 : Hp} {Qd : Addr → Hp → Prop} {f : Nat → Option α}
/-- a comprehension over zip of a list and a tuple or a tuple of the same length -/
theorem lc_zipN (hR : Mn R) {a b : Addr} {xs ys : List V} (hn : xs.length ≤ 1000) (hlen : xs.length = ys.length) (ha : Sq K H1 a xs) (hb : SqT K H1 b ys)
    (hs : ∀ i x y, xs[i]? = some x → ys[i]? = some y → Turn1 R H1 f i fun H' Q N => ∀ T, H' T = none → g (.ref T) (wipe σ vs) (upd H' T (.tup [x, y])) fun σ2 H2 => wipe σ2 vs = wipe σ vs ∧ tt σ2 H2 fun b H3 => if b = true then te σ2 H3 Q else N H3)
    (hd : ∀ D H', Lst R H1 D (upTo f xs.length) H' → Qd D H') {RR : It → Hp → Prop}
    (hRR : RR = fun J H1 => ∀ D, H1 D = none → ∃ W : Nat → Nat → Hp → Prop, (∃ m, W 0 m (upd H1 D (.lst []))) ∧ ∀ i m H, W i m H →
      (J.stop i H ∧ Qd D H) ∨ (J.go i H ∧ ∃ Nx : Hp → Prop, (∀ H', Nx H' → ∃ m', m' < m ∧ W (i + 1) m' H') ∧ ∀ x H', J.yld i H x H' → g x (wipe σ vs) H' fun σ2 H2 => wipe σ2 vs = wipe σ vs ∧ tt σ2 H2 fun b H3 =>
        if b = true then te σ2 H3 fun y H4 => ∃ acc, H4 D = some (.lst acc) ∧ acc.length < sizeLine ∧ Nx (upd H4 D (.lst (acc ++ [y]))) else Nx H3)) :
    (SqL K H1 a xs ∧ RR (ItzN K a b) H1) ∨ (SqT K H1 a xs ∧ RR (RZ.ItzT K a b) H1) := by
  subst hRR
  rcases ha with ha | ha
  · refine .inl ⟨ha, fun D nD => ?_⟩
    refine ⟨fun i m H => m = xs.length - i ∧ i ≤ xs.length ∧ Lst R H1 D (upTo f i) H, ⟨xs.length, by simp, Nat.zero_le _, lst_new nD⟩, ?_⟩
    rintro i m H ⟨rfl, hi, l⟩
    have qa := l.1.seq ha
    have qb := sqT_same l.1 hb
    by_cases hlt : i < xs.length
    · refine .inr ⟨⟨xs, ys, xs[i], ys[i], qa, qb, by simp [hlt], by simp⟩, Lst R H1 D (upTo f (i + 1)), fun H' p' => ⟨xs.length - (i + 1), by omega, rfl, hlt, p'⟩, fun x H' y => ?_⟩
      obtain ⟨T, x, y, rfl, nT, rfl, hx, hy⟩ := y
      exact Turn1.step (i := i) hR nD (by omega) (hs i x y (hx xs qa) (hy ys qb)) l T nT
    · have e : i = xs.length := by omega
      subst e
      exact .inl ⟨⟨xs, ys, qa, qb, rfl, by omega⟩, hd D H l⟩
  · refine .inr ⟨ha, fun D nD => ?_⟩
    refine ⟨fun i m H => m = xs.length - i ∧ i ≤ xs.length ∧ Lst R H1 D (upTo f i) H, ⟨xs.length, by simp, Nat.zero_le _, lst_new nD⟩, ?_⟩
    rintro i m H ⟨rfl, hi, l⟩
    have qa := sqT_same l.1 ha
    have qb := sqT_same l.1 hb
    by_cases hlt : i < xs.length
    · refine .inr ⟨⟨xs, ys, xs[i], ys[i], qa, qb, by simp [hlt], by simp⟩, Lst R H1 D (upTo f (i + 1)), fun H' p' => ⟨xs.length - (i + 1), by omega, rfl, hlt, p'⟩, fun x H' y => ?_⟩
      obtain ⟨T, x, y, rfl, nT, rfl, hx, hy⟩ := y
      exact Turn1.step (i := i) hR nD (by omega) (hs i x y (hx xs qa) (hy ys qb)) l T nT
    · have e : i = xs.length := by omega
      subst e
      exact .inl ⟨⟨xs, ys, qa, qb, .inl (Nat.le_refl _)⟩, hd D H l⟩
end
end My
namespace My
open PySem PySem.Spec PyProof.Rows L2
/-! ### a set made of a list of ints -/
abbrev bareSet (w : World) : Obj :=
  ⟨.type "set", none, .set #[] 0 (.fresh 0 0 (!w.params.followText "set-order")), #[]⟩
section
variable {P : Program} {w : World} {A : Around} {E : Value → Shared → Prop} {s : Shared}
/-- what the set's own __init__ comes to -/
def Filled (w : World) (s : Shared) (ns : List Int) (u : Value) (s' : Shared) : Prop :=
  u = .none ∧ ∃ (hp : Heap) (tk c : Nat), s' = { s with heap := hp, toks := tk } ∧
    SetR w hp s.heap.objs.size (fun j => decide (j ∈ ns)) c ∧ c ≤ ns.length ∧
    ∀ b o, s.heap.get? b = some o → hp.get? b = some o
theorem set_filled {l : Addr} {zs : Array Value} {ns : List Int} (nh : A.handled = none)
    (hl : s.heap.IsList l zs) (hi : IntsAre zs.toList ns) (room : ns.length + 1 < scanBound) :
    codeAny (model P w) A (.call (.builtin "set.__init__") ⟨[.ref s.heap.objs.size, .ref l], []⟩)
      (wants (Filled w s ns) E) { s with heap := s.heap.push (bareSet w) } := by
  have sz : zs.size = ns.length := by
    have := IntsAre.length hi
    rwa [Array.length_toList] at this
  have here : (s.heap.push (bareSet w)).get? s.heap.objs.size = some (bareSet w) :=
    Heap.get?_push_size _ rfl
  refine codeAny_call_builtin F.called_set.init.plain F.entry_set_init (check_set_init_1 ⟨_, here, rfl⟩ ?_)
  obtain ⟨⟨c1, d1, dt1, sl1⟩, at1, ec, k1, ed⟩ := hl
  dsimp only at ec ed
  subst ec ed
  have at2 : (s.heap.push (bareSet w)).get? l = some ⟨.type "list", d1, .seq zs k1, sl1⟩ :=
    Heap.get?_push_of_some _ at1
  have n1 := F.sub_list_set
  have n2 := F.sub_list_frozenset
  have n3 : (Value.type "list" == Value.type "dict") = false := by decide
  have isl : (s.heap.push (bareSet w)).IsList l zs := ⟨_, at2, rfl, k1, rfl⟩
  have lt : l < s.heap.objs.size := Heap.lt_size at1
  unfold Builtin.«set.__init__» noKeywords Builtin.Frozenset.updateFrom
  generalize ePI : pyIter = PI
  wp_walk
  subst ePI
  refine wpAny_pyIter_list isl (wpAny_bind (wpAny_runValue ?_))
  have nh3 : A.in1.in1.handled = none := by simp [nh]
  have sz1 : (s.heap.push (bareSet w)).objs.size = s.heap.objs.size + 1 := Heap.size_push ..
  have apart : l ≠ (s.heap.push (bareSet w)).objs.size := by
    rw [sz1]
    exact Nat.ne_of_lt (Nat.lt_succ_of_lt lt)
  have fresh : s.heap.objs.size ∉ [(s.heap.push (bareSet w)).objs.size, l] := by
    rw [sz1]
    intro hm
    rcases List.mem_cons.mp hm with z | z
    · exact absurd z (Nat.ne_of_lt (Nat.lt_succ_self _))
    · exact absurd (List.mem_singleton.mp z) (Nat.ne_of_gt lt)
  have each : ∀ (i : Nat) (v : Value), zs[i]? = some v → ∃ k t, ns[i]? = some k ∧ v = .int k t := fun i v hv => by
    have hn : i < ns.length := sz ▸ (Array.getElem?_eq_some_iff.mp hv).1
    obtain ⟨t, e⟩ := IntsAre.int_at hi i v ((Array.getElem?_toList ..).trans hv)
    refine ⟨ns[i], t, List.getElem?_eq_getElem hn, e.trans ?_⟩
    simp [List.getD_eq_getElem?_getD, List.getElem?_eq_getElem hn]
  have got : ((s.heap.push (bareSet w)).push ⟨.type "list_iterator", none, .fields #[.ref l, .int 0 0], #[]⟩).get? s.heap.objs.size = some (bareSet w) :=
    Heap.get?_push_of_some _ here
  refine set_update_ints ((Walks.list nh3 _ l apart zs).toS) s.heap.objs.size fresh ns sz room each (zs.size - 0) 0 _ (by omega)
    (Nat.zero_le _) ?z1 ?z0 fun s2 c mv hc hR => ?_
  case z1 => exact ⟨⟨_, Heap.get?_push_size _ rfl, rfl, rfl⟩, isl.push _⟩
  case z0 => exact ⟨0, Nat.le_refl 0, setR_new_at got⟩
  obtain ⟨hp2, gg, dr, tk, os2⟩ := s2
  have e1 : gg = s.gens := mv.gens
  have e2 : dr = s.drawn := mv.drawn
  have e3 : os2 = s.os := mv.os
  subst e1 e2 e3
  rw [sz] at hc
  show wpAny _ _ _ _ _ _
  refine wpAny_pure ?_
  show wpAny _ _ (ret Value.none) _ _ _
  refine wpAny_pure ⟨rfl, hp2, tk, c, rfl, hR, hc, fun b o e => ?_⟩
  have lb : b < s.heap.objs.size := Heap.lt_size e
  refine mv.heap b o (fun hm => ?_) (Heap.get?_push_of_some _ (Heap.get?_push_of_some _ e))
  rcases List.mem_cons.mp hm with z | hm
  · exact absurd z (Nat.ne_of_lt lb)
  · have z := List.mem_singleton.mp hm
    rw [sz1] at z
    exact absurd z (Nat.ne_of_lt (Nat.lt_succ_of_lt lb))
theorem set_of_list {l : Addr} {zs : Array Value} {ns : List Int} {Q : Value → Shared → Prop} (nh : A.handled = none)
    (hl : s.heap.IsList l zs) (hi : IntsAre zs.toList ns) (room : ns.length + 1 < scanBound)
    (h : ∀ (hp : Heap) (tk c : Nat), SetR w hp s.heap.objs.size (fun j => decide (j ∈ ns)) c → c ≤ ns.length →
      (∀ b o, s.heap.get? b = some o → hp.get? b = some o) → Q (.ref s.heap.objs.size) { s with heap := hp, toks := tk }) :
    wpAny (model P w) A (call (.type "set") [.ref l]) Q E s := by
  obtain ⟨c, tl, hmro⟩ := F.called_set.mro
  have g1 := F.called_set.made
  have g2 := F.called_set.sub
  have g3 := F.called_set.notType
  have g4 := F.called_set.canCreate
  have g5 := F.typeCall_set_1 (.ref l)
  refine wpAny_call (codeAny_of_tree ?_)
  show wpAny _ _ (callAny (.type "set") _) _ _ _
  refine wpAny_pure ⟨Code.quiet_builtin _ (by decide +kernel), codeAny_builtin F.entry_type_call ?_⟩
  rw [Around.under_plain (weight_type_call_type "set" [.ref l] []) rfl]
  repeat any_goals (first | assumption | wp_step)
  refine codeAny_mono (code_set_led1 (.ref l) (E := E)
    (Q₁ := fun obj s₁ => obj = .ref s.heap.objs.size ∧ s₁ = { s with heap := s.heap.push (bareSet w) }) ⟨rfl, rfl⟩) fun r s₁ hr => ?_
  cases r with
  | error e => exact hr
  | ok fl =>
    cases fl with
    | ret obj =>
      obtain ⟨rfl, rfl⟩ := hr
      have here : (s.heap.push (bareSet w)).get? s.heap.objs.size = some (bareSet w) := Heap.get?_push_size _ rfl
      have ty : Shared.TypeIs { s with heap := s.heap.push (bareSet w) } (.ref s.heap.objs.size) "set" := ⟨_, here, rfl⟩
      have g6 := F.called_set.init.lookup
      have g7 := F.called_set.init.bind (.ref s.heap.objs.size)
      repeat any_goals (first | assumption | wp_step)
      refine codeAny_mono (set_filled (E := E) (by simp [nh]) hl hi room) fun r₂ s₂ hr₂ => ?_
      cases r₂ with
      | error e => exact hr₂
      | ok fl₂ =>
        cases fl₂ with
        | ret r =>
          obtain ⟨rfl, hp, tk, c', rfl, f1, f2, f3⟩ := hr₂
          repeat any_goals (first | assumption | wp_step)
          exact h hp tk c' f1 f2 f3
        | _ => exact hr₂.elim
    | _ => exact hr.elim
end
/-- set(xs), xs a list of ints -/
def rSetOfI (K : PySem.W.Frag) (w : World) : List V → Hp → VK → Prop := fun xs H Q => ∃ (l : Addr) (ns : List Int), xs = [V.ref l] ∧ SqL K H l (ns.map V.int) ∧ ns.length ≤ 1000 ∧
  ∀ p c, H p = none → c ≤ ns.length → Q (.ref p) (upd H p (SetO w p (fun j => decide (j ∈ ns)) c))
theorem cr_setOfI {X : Cx} (hc : X.calm = true) : CallR X (.type "set") (rSetOfI X.K X.w) := by
  intro pins s σ H xs us Q I r h
  obtain ⟨l, ns, rfl, hq, hn, q⟩ := h
  rw [Vals.ref1 r]
  obtain ⟨its, rv, pl, hz⟩ := I.list hq
  refine set_of_list (I.ok.hd hc) pl.isList (by simpa using intsAre_of rv) (by unfold scanBound; omega) fun hp tk c hR cl kp => ?_
  exact ⟨.ref s.heap.objs.size, _, I.laid (t' := tk) kp (Nat.le_refl _) (setO_new hR), rfl, q _ c (I.hok.fresh (Nat.le_refl _)) cl⟩
end My
namespace My
open PySem PySem.Spec PyProof.Rows L2
theorem ints_of {ys : List V} {bs : List Nat} (h : Paired (fun (v : V) (b : Nat) => v = .int (b : Nat)) ys bs) : ys = (bs.map fun b : Nat => (b : Int)).map V.int := by
  induction h with
  | nil => rfl
  | cons h t ih => rw [h, ih]; rfl
theorem room1 {k : Nat} {A : Around} (r : Room k A) : A.units + 1 < cLine := by
  have := r.un
  omega
/-- ascending lists with the same members are the same -/
theorem asc_eq : ∀ {l m : List Int}, l.Pairwise (· < ·) → m.Pairwise (· < ·) → (∀ k, k ∈ l ↔ k ∈ m) → l = m
  | [], [], _, _, _ => rfl
  | [], b :: m, _, _, h => by
    have := (h b).mpr (by simp)
    cases this
  | a :: l, [], _, _, h => by
    have := (h a).mp (by simp)
    cases this
  | a :: l, b :: m, h1, h2, h => by
    rw [List.pairwise_cons] at h1 h2
    have e : a = b := by
      have x := (h a).mp (by simp)
      have y := (h b).mpr (by simp)
      rcases List.mem_cons.mp x with x | x
      · exact x
      · rcases List.mem_cons.mp y with y | y
        · exact y.symm
        · have := h1.1 b y
          have := h2.1 a x
          omega
    subst e
    rw [asc_eq h1.2 h2.2 fun k => ?_]
    constructor
    · intro hk
      have x := (h k).mp (by simp [hk])
      rcases List.mem_cons.mp x with x | x
      · have := h1.1 k hk
        omega
      · exact x
    · intro hk
      have x := (h k).mpr (by simp [hk])
      rcases List.mem_cons.mp x with x | x
      · have := h2.1 k hk
        omega
      · exact x
/-- so many unlike numbers below n are all of them -/
theorem nodup_le : ∀ (n : Nat) (l : List Nat), l.Nodup → (∀ x ∈ l, x < n) → l.length ≤ n
  | 0, l, _, h => by
    cases l with
    | nil => exact Nat.le_refl 0
    | cons a l => exact absurd (h a (by simp)) (Nat.not_lt_zero _)
  | n + 1, l, nd, h => by
    have ih := nodup_le n (l.filter fun x => decide (x ≠ n)) (nd.filter _) fun x hx => by
      rw [List.mem_filter, decide_eq_true_eq] at hx
      have := h x hx.1
      omega
    have c := List.nodup_iff_count.mp nd n
    have e := List.length_eq_countP_add_countP (p := fun x => decide (x ≠ n)) (l := l)
    rw [List.countP_eq_length_filter] at e
    have e2 : l.countP (fun x => decide ¬ decide (x ≠ n) = true) = l.count n := by
      unfold List.count
      congr 1
      funext x
      by_cases z : x = n <;> simp [z]
    omega
theorem all_there {n : Nat} {l : List Nat} (nd : l.Nodup) (h : ∀ x ∈ l, x < n) (hl : n ≤ l.length) {x : Nat} (hx : x < n) : x ∈ l := by
  apply Classical.byContradiction
  intro c
  have := nodup_le n (x :: l) (List.nodup_cons.mpr ⟨c, nd⟩) fun y hy => by
    rcases List.mem_cons.mp hy with rfl | z
    · exact hx
    · exact h y z
  rw [List.length_cons] at this
  omega
end My
namespace My
open PySem PySem.Spec PyProof.Rows L2
/-! ### zip of two lists or of two tuples -/
def iZipP (K : PySem.W.Frag) (ta : TA) : TI := fun σ H R => ta σ H fun vs H1 => ∃ a b xs ys, vs = [.ref a, .ref b] ∧ ((SqL K H1 a xs ∧ SqL K H1 b ys ∧ R (Itz K a b) H1) ∨ (SqT K H1 a xs ∧ SqT K H1 b ys ∧ R (RZ.ItzT K a b) H1))
theorem pi_zipP {X : Cx} {e e2 : Expr} {ta : TA} {p pos tpos : Pos} {elts : List Expr} {kk : Nat} (hg : Gl X "zip") (hm : X.mg "zip" = none) (ha : PA X [e, e2] ta)
    (hs : starEach [e, e2] X.env = (false, eval e X.env) :: starEach [e2] X.env := by rfl) (hpl : (backTo pos (starEach [e2] X.env)).any (·.1) = false := by rfl) :
    PI X (.Tuple elts kk tpos) (.Call (.Name "zip" p) [e, e2] [] pos) (iZipP X.K ta) := by
  refine ⟨fun pins s σ H R I h => ?_⟩
  refine Call_ (ld_blt I hg hm PyProof.Rows.boot_zip (PyProof.Rows.callWith_type1 (thn (ha.run pos pins s σ H _ I h) fun us s1 ⟨vs, H1, I1, r1, q1⟩ => ?_) hs hpl))
  obtain ⟨a, b, xs, ys, ex, q1⟩ := q1
  subst ex
  cases r1 with
  | cons r rr =>
    cases rr with
    | cons r' rr =>
      cases rr
      cases r
      cases r'
      have fresh5 : ∀ c, c ∈ [s1.heap.objs.size + 4, s1.heap.objs.size + 2, s1.heap.objs.size + 3, s1.heap.objs.size, s1.heap.objs.size + 1] → FpOk X pins H1 c := fun c hcm => by
        have e' : c = s1.heap.objs.size + 4 ∨ c = s1.heap.objs.size + 2 ∨ c = s1.heap.objs.size + 3 ∨ c = s1.heap.objs.size ∨ c = s1.heap.objs.size + 1 := by simpa using hcm
        have hle : s1.heap.objs.size ≤ c := by
          rcases e' with z | z | z | z | z
          · rw [z]; exact Nat.le_add_right _ _
          · rw [z]; exact Nat.le_add_right _ _
          · rw [z]; exact Nat.le_add_right _ _
          · rw [z]; exact Nat.le_refl _
          · rw [z]; exact Nat.le_add_right _ _
        exact I1.fpOk hle (I1.hok.fresh hle)
      rcases q1 with ⟨hqx, hqy, q⟩ | ⟨hqx, hqy, q⟩
      · obtain ⟨its, rv, p1, _⟩ := I1.list hqx
        obtain ⟨its2, rv2, p2, _⟩ := I1.list hqy
        refine call_zip_2 p1.isList p2.isList fun h' hz hTI hTO h1 h2 hsz hk => wpAny_pyIter_zip hz ?_
        have I2 : Inv X pins σ H1 { s1 with heap := h' } := I1.kept (t' := s1.toks) hk
        exact ⟨s1.heap.objs.size + 4, [s1.heap.objs.size + 4, s1.heap.objs.size + 2, s1.heap.objs.size + 3, s1.heap.objs.size, s1.heap.objs.size + 1], _, _, H1, rfl, I2, turn_zip (PySem.W.ktu_apart s1.heap.objs.size a b p1.lt p2.lt), ⟨hz, hTI, ⟨_, _, hTO⟩, h1, h2⟩, fresh5, q⟩
      · obtain ⟨its, rv, p1, _⟩ := I1.tuple hqx
        obtain ⟨o1, ho1, _⟩ := id p1
        obtain ⟨its2, rv2, p2, _⟩ := I1.tuple hqy
        obtain ⟨o2, ho2, _⟩ := id p2
        refine RZ.call_zipT (show s1.heap.IsTuple a its.toArray from p1) (show s1.heap.IsTuple b its2.toArray from p2) fun h' hz hTI hTO h1 h2 hsz hk => wpAny_pyIter_zip hz ?_
        have I2 : Inv X pins σ H1 { s1 with heap := h' } := I1.kept (t' := s1.toks) hk
        exact ⟨s1.heap.objs.size + 4, [s1.heap.objs.size + 4, s1.heap.objs.size + 2, s1.heap.objs.size + 3, s1.heap.objs.size, s1.heap.objs.size + 1], _, _, H1, rfl, I2, RZ.turn_zipT (PySem.W.ktu_apart s1.heap.objs.size a b (Heap.lt_size ho1) (Heap.lt_size ho2)), ⟨hz, hTI, ⟨_, _, hTO⟩, h1, h2⟩, fresh5, q⟩
variable {K : PySem.W.Frag}
theorem rd_zipP {ta : TA} {σ : L2.St} {H : Hp} {R : It → Hp → Prop} (h : ta σ H fun vs H1 => ∃ a b xs ys, vs = [.ref a, .ref b] ∧ ((SqL K H1 a xs ∧ SqL K H1 b ys ∧ R (Itz K a b) H1) ∨ (SqT K H1 a xs ∧ SqT K H1 b ys ∧ R (RZ.ItzT K a b) H1))) : iZipP K ta σ H R := h
section
variable {α : Type} {R : Hp → V → α → Prop} {g : TG} {tt : TT} {te : TE} {vs : List Nat} {σ : L2.St} {H1 : Hp} {Qd : Addr → Hp → Prop} {f : Nat → Option α}
/-- a comprehension over zip of a tuple and a list or a tuple of the same length -/
theorem lc_zipP (hR : Mn R) {a b : Addr} {xs ys : List V} (hn : xs.length ≤ 1000) (hlen : xs.length = ys.length) (hab : (SqL K H1 a xs ∧ SqL K H1 b ys) ∨ (SqT K H1 a xs ∧ SqT K H1 b ys))
    (hs : ∀ i x y, xs[i]? = some x → ys[i]? = some y → Turn1 R H1 f i fun H' Q N => ∀ T, H' T = none → g (.ref T) (wipe σ vs) (upd H' T (.tup [x, y])) fun σ2 H2 => wipe σ2 vs = wipe σ vs ∧ tt σ2 H2 fun b H3 => if b = true then te σ2 H3 Q else N H3)
    (hd : ∀ D H', Lst R H1 D (upTo f xs.length) H' → Qd D H') {RR : It → Hp → Prop}
    (hRR : RR = fun J H1 => ∀ D, H1 D = none → ∃ W : Nat → Nat → Hp → Prop, (∃ m, W 0 m (upd H1 D (.lst []))) ∧ ∀ i m H, W i m H →
      (J.stop i H ∧ Qd D H) ∨ (J.go i H ∧ ∃ Nx : Hp → Prop, (∀ H', Nx H' → ∃ m', m' < m ∧ W (i + 1) m' H') ∧ ∀ x H', J.yld i H x H' → g x (wipe σ vs) H' fun σ2 H2 => wipe σ2 vs = wipe σ vs ∧ tt σ2 H2 fun b H3 =>
        if b = true then te σ2 H3 fun y H4 => ∃ acc, H4 D = some (.lst acc) ∧ acc.length < sizeLine ∧ Nx (upd H4 D (.lst (acc ++ [y]))) else Nx H3)) :
    (SqL K H1 a xs ∧ SqL K H1 b ys ∧ RR (Itz K a b) H1) ∨ (SqT K H1 a xs ∧ SqT K H1 b ys ∧ RR (RZ.ItzT K a b) H1) := by
  subst hRR
  rcases hab with ⟨ha, hb⟩ | ⟨ha, hb⟩
  · refine .inl ⟨ha, hb, fun D nD => ?_⟩
    refine ⟨fun i m H => m = xs.length - i ∧ i ≤ xs.length ∧ Lst R H1 D (upTo f i) H, ⟨xs.length, by simp, Nat.zero_le _, lst_new nD⟩, ?_⟩
    rintro i m H ⟨rfl, hi, l⟩
    have qa := l.1.seq ha
    have qb := l.1.seq hb
    by_cases hlt : i < xs.length
    · refine .inr ⟨⟨xs, ys, xs[i], ys[i], qa, qb, by simp [hlt], by simp⟩, Lst R H1 D (upTo f (i + 1)), fun H' p' => ⟨xs.length - (i + 1), by omega, rfl, hlt, p'⟩, fun x H' y => ?_⟩
      obtain ⟨T, x, y, rfl, nT, rfl, hx, hy⟩ := y
      exact Turn1.step (i := i) hR nD (by omega) (hs i x y (hx xs qa) (hy ys qb)) l T nT
    · have e : i = xs.length := by omega
      subst e
      exact .inl ⟨⟨xs, ys, qa, qb, .inl (Nat.le_refl _)⟩, hd D H l⟩
  · refine .inr ⟨ha, hb, fun D nD => ?_⟩
    refine ⟨fun i m H => m = xs.length - i ∧ i ≤ xs.length ∧ Lst R H1 D (upTo f i) H, ⟨xs.length, by simp, Nat.zero_le _, lst_new nD⟩, ?_⟩
    rintro i m H ⟨rfl, hi, l⟩
    have qa := sqT_same l.1 ha
    have qb := sqT_same l.1 hb
    by_cases hlt : i < xs.length
    · refine .inr ⟨⟨xs, ys, xs[i], ys[i], qa, qb, by simp [hlt], by simp⟩, Lst R H1 D (upTo f (i + 1)), fun H' p' => ⟨xs.length - (i + 1), by omega, rfl, hlt, p'⟩, fun x H' y => ?_⟩
      obtain ⟨T, x, y, rfl, nT, rfl, hx, hy⟩ := y
      exact Turn1.step (i := i) hR nD (by omega) (hs i x y (hx xs qa) (hy ys qb)) l T nT
    · have e : i = xs.length := by omega
      subst e
      exact .inl ⟨⟨xs, ys, qa, qb, .inl (Nat.le_refl _)⟩, hd D H l⟩
end
end My
namespace My
open PySem PySem.Spec PyProof.Rows L2
/-! ### len(set(xs)), xs a list of ints, alike or not -/
theorem first_take {ns : List Int} {i : Nat} (h : (ns.take i).Nodup) (hi : i ≤ ns.length) : firstMet (fun i => ns.getD i 0) i = ns.take i := by
  have e : ∀ k, k ≤ i → firstMet (fun i => ns.getD i 0) k = firstMet (fun j => (ns.take i).getD j 0) k := by
    intro k
    induction k with
    | zero => exact fun _ => rfl
    | succ k ih =>
      intro hk
      rw [firstMet_succ, firstMet_succ, ih (by omega)]
      congr 1
      show ns.getD k 0 = (ns.take i).getD k 0
      rw [List.getD_eq_getElem?_getD, List.getD_eq_getElem?_getD, List.getElem?_take, if_pos (by omega)]
  rw [e i (Nat.le_refl _), RZ.firstMet_nodup h i (by rw [List.length_take]; omega), List.take_take, Nat.min_self]
theorem first_len (ns : List Int) : ∀ i, i ≤ ns.length → (firstMet (fun i => ns.getD i 0) i).length ≤ i ∧ ((firstMet (fun i => ns.getD i 0) i).length = i ↔ (ns.take i).Nodup)
  | 0, _ => ⟨Nat.le_refl _, by simp [firstMet_zero]⟩
  | i + 1, hi => by
    obtain ⟨h1, h2⟩ := first_len ns i (by omega)
    have hlt : i < ns.length := hi
    have e1 : ns.getD i 0 = ns[i] := by
      rw [List.getD_eq_getElem?_getD, List.getElem?_eq_getElem hlt]
      rfl
    have e2 : ns.take (i + 1) = ns.take i ++ [ns[i]] := by
      rw [List.take_add_one, List.getElem?_eq_getElem hlt]
      rfl
    have e3 : firstMet (fun i => ns.getD i 0) (i + 1) = if (firstMet (fun i => ns.getD i 0) i).any (· == ns[i]) then firstMet (fun i => ns.getD i 0) i else firstMet (fun i => ns.getD i 0) i ++ [ns[i]] := by
      rw [firstMet_succ, e1]
      rfl
    rw [e3, e2]
    by_cases nd : (ns.take i).Nodup
    · rw [first_take nd (by omega)]
      have lt : (ns.take i).length = i := by rw [List.length_take]; omega
      cases hb : (ns.take i).any (· == ns[i]) with
      | true =>
        rw [if_pos rfl, lt]
        refine ⟨by omega, ⟨fun h => absurd h (by omega), fun h => ?_⟩⟩
        obtain ⟨y, hy, ey⟩ := List.any_eq_true.mp hb
        rw [eq_of_beq ey] at hy
        exact absurd hy (fun hy => (List.nodup_append.mp h).2.2 _ hy _ (List.mem_singleton.mpr rfl) rfl)
      | false =>
        rw [if_neg Bool.false_ne_true, List.length_append, lt]
        refine ⟨Nat.le_refl _, ⟨fun _ => List.nodup_append.mpr ⟨nd, by simp, fun a ha b hb2 e => ?_⟩, fun _ => rfl⟩⟩
        rw [List.mem_singleton.mp hb2] at e
        subst e
        have := List.any_eq_false.mp hb _ ha
        simp at this
    · have ne := fun h => nd (h2.mp h)
      refine ⟨?_, ⟨fun h => ?_, fun h => absurd (List.nodup_append.mp h).1 nd⟩⟩
      · split
        · omega
        · rw [List.length_append]
          show _ + 1 ≤ _
          omega
      · exfalso
        split at h
        · omega
        · rw [List.length_append] at h
          have h : _ + 1 = i + 1 := h
          exact ne (by omega)
def tLenSetA (K : PySem.W.Frag) (ta : TE) : TE := fun σ H Q => ta σ H fun x H1 => ∃ (l : Addr) (ns : List Int), x = .ref l ∧ SqL K H1 l (ns.map V.int) ∧ ns.length ≤ 4000 ∧ ∀ k : Nat, k ≤ ns.length → (k = ns.length ↔ ns.Nodup) → Q (.int (k : Nat)) H1
theorem pe_lenSetA {X : Cx} {a : Expr} {ta : TE} {p p2 q pos : Pos} (hg : Gl X "len") (hm : X.mg "len" = none) (hg2 : Gl X "set") (hm2 : X.mg "set" = none) (ha : PE X a ta) (hc : X.calm = true := by rfl)
    (na : starEach [a] X.env = (false, eval a X.env) :: starEach [] X.env := by rfl) : PE X (.Call (.Name "len" p) [.Call (.Name "set" p2) [a] [] q] [] pos) (tLenSetA X.K ta) :=
  ⟨fun pins s σ H Q I h => by
    refine Call_ (ld_blt I hg hm boot_len (callWith_builtin1 (args_cons ?_ rfl) rfl rfl))
    refine Call_ (ld_blt I hg2 hm2 boot_set ?_)
    refine callWith_type1 (args_cons (thn (ha.run pins s σ H _ I h) fun v s1 ⟨x, H1, I1, r1, q1⟩ => args_nil ?_) na) na rfl
    obtain ⟨l, ns, rfl, hq, hl, q1⟩ := q1
    cases r1
    obtain ⟨its, r, pl, hz⟩ := I1.list hq
    have hlen : its.toArray.size = ns.length := by rw [List.size_toArray, ← r.length, List.length_map]
    refine call_set_list (I1.ok.hd hc) pl.isList (by simpa using RZ.intsAre_vals r) (by rw [hlen]; unfold scanBound; omega) fun h' tk hS hk => args_nil ?_
    rw [hlen] at hS
    obtain ⟨f1, f2⟩ := first_len ns ns.length (Nat.le_refl _)
    rw [List.take_length] at f2
    generalize firstMet (fun i => ns.getD i 0) ns.length = fm at *
    obtain ⟨o, es, ep, t, ho, hex, hd, _, _, _, hf, hn⟩ := hS
    have I2 : Inv X pins σ H1 { s1 with heap := h', toks := tk } := I1.kept fun b o e => hk b o (Heap.lt_size e) e
    exact call_len_set ho hex hd hf (by rw [hn]; omega) ⟨.int (fm.length : Nat), H1, I2.tok _, ⟨_, by rw [hn]⟩, q1 _ f1 f2⟩⟩
end My
namespace My
open PySem PySem.Spec PyProof.Rows L2
def topS (i : Nat) : Stmt := PySem.Challenge.pw_rootstalls_k29_uneven_rings_judged.main.body.getD i (.Pass ⟨0, 0, 0, 0⟩)
abbrev s_is_integer : Stmt := topS 7
abbrev N_is_integer : List Str := ["thing"]
theorem sc_is_integer : FnScope N_is_integer ["thing"] (defScope s_is_integer) := ⟨rfl, rfl, rfl, by decide +kernel, rfl, by decide +kernel, by decide +kernel⟩
abbrev s_is_row : Stmt := topS 8
abbrev N_is_row : List Str := ["thing"]
theorem sc_is_row : FnScope N_is_row ["thing"] (defScope s_is_row) := ⟨rfl, rfl, rfl, by decide +kernel, rfl, by decide +kernel, by decide +kernel⟩
abbrev s_is_fraction : Stmt := topS 9
abbrev N_is_fraction : List Str := ["thing", "top", "bottom"]
theorem sc_is_fraction : FnScope N_is_fraction ["thing"] (defScope s_is_fraction) := ⟨rfl, rfl, rfl, by decide +kernel, rfl, by decide +kernel, by decide +kernel⟩
abbrev s_is_some : Stmt := topS 10
abbrev N_is_some : List Str := ["thing"]
theorem sc_is_some : FnScope N_is_some ["thing"] (defScope s_is_some) := ⟨rfl, rfl, rfl, by decide +kernel, rfl, by decide +kernel, by decide +kernel⟩
abbrev s_multiplied : Stmt := topS 11
abbrev N_multiplied : List Str := ["one", "other", "left", "right"]
theorem sc_multiplied : FnScope N_multiplied ["one", "other"] (defScope s_multiplied) := ⟨rfl, rfl, rfl, by decide +kernel, rfl, by decide +kernel, by decide +kernel⟩
abbrev s_squared : Stmt := topS 12
abbrev N_squared : List Str := ["one"]
theorem sc_squared : FnScope N_squared ["one"] (defScope s_squared) := ⟨rfl, rfl, rfl, by decide +kernel, rfl, by decide +kernel, by decide +kernel⟩
abbrev s_is_stall : Stmt := topS 16
abbrev N_is_stall : List Str := ["wares", "thing", "one", "other", "kept", "other_kept", "root", "ware"]
theorem sc_is_stall : FnScope N_is_stall ["wares", "thing"] (defScope s_is_stall) := ⟨rfl, rfl, rfl, by decide +kernel, rfl, by decide +kernel, by decide +kernel⟩
abbrev s_across : Stmt := topS 18
abbrev N_across : List Str := ["stall", "ware"]
theorem sc_across : FnScope N_across ["stall", "ware"] (defScope s_across) := ⟨rfl, rfl, rfl, by decide +kernel, rfl, by decide +kernel, by decide +kernel⟩
abbrev s_hold_of : Stmt := topS 19
abbrev N_hold_of : List Str := ["stall", "ware"]
theorem sc_hold_of : FnScope N_hold_of ["stall", "ware"] (defScope s_hold_of) := ⟨rfl, rfl, rfl, by decide +kernel, rfl, by decide +kernel, by decide +kernel⟩
abbrev s_is_index : Stmt := topS 21
abbrev N_is_index : List Str := ["web", "thing"]
theorem sc_is_index : FnScope N_is_index ["web", "thing"] (defScope s_is_index) := ⟨rfl, rfl, rfl, by decide +kernel, rfl, by decide +kernel, by decide +kernel⟩
abbrev s_is_step : Stmt := topS 23
abbrev N_is_step : List Str := ["web", "thing", "index", "ware"]
theorem sc_is_step : FnScope N_is_step ["web", "thing"] (defScope s_is_step) := ⟨rfl, rfl, rfl, by decide +kernel, rfl, by decide +kernel, by decide +kernel⟩
abbrev s_end_of : Stmt := topS 24
abbrev N_end_of : List Str := ["web", "step", "index", "ware"]
theorem sc_end_of : FnScope N_end_of ["web", "step"] (defScope s_end_of) := ⟨rfl, rfl, rfl, by decide +kernel, rfl, by decide +kernel, by decide +kernel⟩
abbrev s_is_walk : Stmt := topS 25
abbrev N_is_walk : List Str := ["web", "thing", "step", "index", "ware", "after"]
theorem sc_is_walk : FnScope N_is_walk ["web", "thing"] (defScope s_is_walk) := ⟨rfl, rfl, rfl, by decide +kernel, rfl, by decide +kernel, by decide +kernel⟩
abbrev s_is_ring : Stmt := topS 26
abbrev N_is_ring : List Str := ["web", "thing"]
theorem sc_is_ring : FnScope N_is_ring ["web", "thing"] (defScope s_is_ring) := ⟨rfl, rfl, rfl, by decide +kernel, rfl, by decide +kernel, by decide +kernel⟩
abbrev s_is_uneven : Stmt := topS 27
abbrev N_is_uneven : List Str := ["web", "ring", "ahead", "behind", "index", "ware", "stall"]
theorem sc_is_uneven : FnScope N_is_uneven ["web", "ring"] (defScope s_is_uneven) := ⟨rfl, rfl, rfl, by decide +kernel, rfl, by decide +kernel, by decide +kernel⟩
abbrev s_is_uneven_ring : Stmt := topS 28
abbrev N_is_uneven_ring : List Str := ["web", "thing"]
theorem sc_is_uneven_ring : FnScope N_is_uneven_ring ["web", "thing"] (defScope s_is_uneven_ring) := ⟨rfl, rfl, rfl, by decide +kernel, rfl, by decide +kernel, by decide +kernel⟩
abbrev s_l_hand : Stmt := topS 30
abbrev N_l_hand : List Str := ["_law_script", "_law_cells", "_law_cell"]
theorem sc_l_hand : FnScope N_l_hand ["_law_script"] (defScope s_l_hand) := ⟨rfl, rfl, rfl, by decide +kernel, rfl, by decide +kernel, by decide +kernel⟩
abbrev s_l_draw : Stmt := topS 31
abbrev N_l_draw : List Str := ["_law_hand_here", "_law_many", "_law_cell", "_law_digit", "_law_number"]
theorem sc_l_draw : FnScope N_l_draw ["_law_hand_here", "_law_many"] (defScope s_l_draw) := ⟨rfl, rfl, rfl, by decide +kernel, rfl, by decide +kernel, by decide +kernel⟩
abbrev s_l_gcd : Stmt := topS 32
abbrev N_l_gcd : List Str := ["_law_one", "_law_other"]
theorem sc_l_gcd : FnScope N_l_gcd ["_law_one", "_law_other"] (defScope s_l_gcd) := ⟨rfl, rfl, rfl, by decide +kernel, rfl, by decide +kernel, by decide +kernel⟩
abbrev s_l_frac : Stmt := topS 33
abbrev N_l_frac : List Str := ["_law_top", "_law_bottom", "_law_part"]
theorem sc_l_frac : FnScope N_l_frac ["_law_top", "_law_bottom"] (defScope s_l_frac) := ⟨rfl, rfl, rfl, by decide +kernel, rfl, by decide +kernel, by decide +kernel⟩
abbrev s_l_times : Stmt := topS 36
abbrev N_l_times : List Str := ["_law_one", "_law_other"]
theorem sc_l_times : FnScope N_l_times ["_law_one", "_law_other"] (defScope s_l_times) := ⟨rfl, rfl, rfl, by decide +kernel, rfl, by decide +kernel, by decide +kernel⟩
abbrev s_l_over : Stmt := topS 37
abbrev N_l_over : List Str := ["_law_one", "_law_other"]
theorem sc_l_over : FnScope N_l_over ["_law_one", "_law_other"] (defScope s_l_over) := ⟨rfl, rfl, rfl, by decide +kernel, rfl, by decide +kernel, by decide +kernel⟩
abbrev s_l_some : Stmt := topS 38
abbrev N_l_some : List Str := ["_law_hand_here"]
theorem sc_l_some : FnScope N_l_some ["_law_hand_here"] (defScope s_l_some) := ⟨rfl, rfl, rfl, by decide +kernel, rfl, by decide +kernel, by decide +kernel⟩
abbrev s_l_shuffled : Stmt := topS 39
abbrev N_l_shuffled : List Str := ["_law_hand_here", "_law_things", "_law_pool", "_law_found"]
theorem sc_l_shuffled : FnScope N_l_shuffled ["_law_hand_here", "_law_things"] (defScope s_l_shuffled) := ⟨rfl, rfl, rfl, by decide +kernel, rfl, by decide +kernel, by decide +kernel⟩
abbrev s_l_stall : Stmt := topS 40
abbrev N_l_stall : List Str := ["_law_hand_here", "_law_one", "_law_other", "_law_quotient", "_law_root"]
theorem sc_l_stall : FnScope N_l_stall ["_law_hand_here", "_law_one", "_law_other", "_law_quotient"] (defScope s_l_stall) := ⟨rfl, rfl, rfl, by decide +kernel, rfl, by decide +kernel, by decide +kernel⟩
abbrev s_l_stalls : Stmt := topS 41
abbrev N_l_stalls : List Str := ["_law_hand_here", "_law_wares", "_law_many", "_law_way", "_law_scales", "_law_ware", "_law_hung", "_law_odd", "_law_found", "_law_k", "_law_one", "_law_other", "_law_quotient"]
theorem sc_l_stalls : FnScope N_l_stalls ["_law_hand_here", "_law_wares", "_law_many", "_law_way"] (defScope s_l_stalls) := ⟨rfl, rfl, rfl, by decide +kernel, rfl, by decide +kernel, by decide +kernel⟩
abbrev s_l_sizes : Stmt := topS 42
abbrev N_l_sizes : List Str := ["_law_hand_here", "_law_wares"]
theorem sc_l_sizes : FnScope N_l_sizes ["_law_hand_here"] (defScope s_l_sizes) := ⟨rfl, rfl, rfl, by decide +kernel, rfl, by decide +kernel, by decide +kernel⟩
abbrev s_l_whole : Stmt := topS 43
abbrev N_l_whole : List Str := ["_law_thing"]
theorem sc_l_whole : FnScope N_l_whole ["_law_thing"] (defScope s_l_whole) := ⟨rfl, rfl, rfl, by decide +kernel, rfl, by decide +kernel, by decide +kernel⟩
abbrev s_l_is_flag : Stmt := topS 44
abbrev N_l_is_flag : List Str := ["_law_told", "_law_due"]
theorem sc_l_is_flag : FnScope N_l_is_flag ["_law_told", "_law_due"] (defScope s_l_is_flag) := ⟨rfl, rfl, rfl, by decide +kernel, rfl, by decide +kernel, by decide +kernel⟩
abbrev s_l_is_uneven : Stmt := topS 45
abbrev N_l_is_uneven : List Str := ["_law_stalls_here", "_law_thing", "_law_used", "_law_pair", "_law_went", "_law_came", "_law_k", "_law_index", "_law_ware", "_law_one", "_law_other", "_law_held", "_law_beside", "_law_root"]
theorem sc_l_is_uneven : FnScope N_l_is_uneven ["_law_stalls_here", "_law_thing"] (defScope s_l_is_uneven) := ⟨rfl, rfl, rfl, by decide +kernel, rfl, by decide +kernel, by decide +kernel⟩
abbrev s_l_ring : Stmt := topS 46
abbrev N_l_ring : List Str := ["_law_hand_here", "_law_stalls_here", "_law_wares", "_law_here", "_law_path", "_law_turn", "_law_used", "_law_index", "_law_ware", "_law_ways", "_law_k", "_law_begins"]
theorem sc_l_ring : FnScope N_l_ring ["_law_hand_here", "_law_stalls_here", "_law_wares"] (defScope s_l_ring) := ⟨rfl, rfl, rfl, by decide +kernel, rfl, by decide +kernel, by decide +kernel⟩
abbrev s_l_back : Stmt := topS 47
abbrev N_l_back : List Str := ["_law_stalls_here", "_law_ring_here", "_law_found", "_law_index", "_law_ware"]
theorem sc_l_back : FnScope N_l_back ["_law_stalls_here", "_law_ring_here"] (defScope s_l_back) := ⟨rfl, rfl, rfl, by decide +kernel, rfl, by decide +kernel, by decide +kernel⟩
abbrev s_l_bent : Stmt := topS 48
abbrev N_l_bent : List Str := ["_law_hand_here", "_law_ring_here", "_law_many", "_law_wares", "_law_at", "_law_odd", "_law_index", "_law_ware", "_law_part", "_law_pairs", "_law_pair", "_law_things"]
theorem sc_l_bent : FnScope N_l_bent ["_law_hand_here", "_law_ring_here", "_law_many", "_law_wares"] (defScope s_l_bent) := ⟨rfl, rfl, rfl, by decide +kernel, rfl, by decide +kernel, by decide +kernel⟩
abbrev s_law : Stmt := topS 49
abbrev N_law : List Str := ["_law_script", "_law_hand_here", "_law_way", "_law_wares", "_law_many", "_law_stalls_here", "_law_web", "_law_turn", "_law_ring_here", "_law_due", "_law_at", "_law_thing", "_law_again"]
theorem sc_law : FnScope N_law ["_law_script"] (defScope s_law) := ⟨rfl, rfl, rfl, by decide +kernel, rfl, by decide +kernel, by decide +kernel⟩
abbrev s_Web_init : Stmt := inClass (topS 17) 0
abbrev N_Web_init : List Str := ["self", "wares", "stalls", "index", "stall"]
theorem sc_Web_init : FnScope N_Web_init ["self", "wares", "stalls"] (defScope s_Web_init) := ⟨rfl, rfl, rfl, by decide +kernel, rfl, by decide +kernel, by decide +kernel⟩
abbrev s_Web_eq : Stmt := inClass (topS 17) 1
abbrev N_Web_eq : List Str := ["self", "other"]
theorem sc_Web_eq : FnScope N_Web_eq ["self", "other"] (defScope s_Web_eq) := ⟨rfl, rfl, rfl, by decide +kernel, rfl, by decide +kernel, by decide +kernel⟩
structure Txt (K : PySem.W.Frag) (mg : Str → Option Value) (f_is_integer f_is_row f_is_fraction f_is_some f_multiplied f_squared f_is_stall f_across f_hold_of f_is_index f_is_step f_end_of f_is_walk f_is_ring f_is_uneven f_is_uneven_ring f_l_hand f_l_draw f_l_gcd f_l_frac f_l_times f_l_over f_l_some f_l_shuffled f_l_stall f_l_stalls f_l_sizes f_l_whole f_l_is_flag f_l_is_uneven f_l_ring f_l_back f_l_bent f_law f_Web_init f_Web_eq c_Web c_ONE : Addr) (d_is_integer d_is_row d_is_fraction d_is_some d_multiplied d_squared d_is_stall d_across d_hold_of d_is_index d_is_step d_end_of d_is_walk d_is_ring d_is_uneven d_is_uneven_ring d_l_hand d_l_draw d_l_gcd d_l_frac d_l_times d_l_over d_l_some d_l_shuffled d_l_stall d_l_stalls d_l_sizes d_l_whole d_l_is_flag d_l_is_uneven d_l_ring d_l_back d_l_bent d_law d_Web_init d_Web_eq : FuncData) : Prop where
  z_abs : mg "abs" = none
  z_all : mg "all" = none
  z_bool : mg "bool" = none
  z_enumerate : mg "enumerate" = none
  z_int : mg "int" = none
  z_isinstance : mg "isinstance" = none
  z_len : mg "len" = none
  z_list : mg "list" = none
  z_max : mg "max" = none
  z_range : mg "range" = none
  z_set : mg "set" = none
  z_tuple : mg "tuple" = none
  z_zip : mg "zip" = none
  m_gcd : mg "gcd" = some (.builtin "math.gcd")
  w_Web : WebC K mg "Web" c_Web f_Web_init
  n_Web_wares : NoAttr K c_Web "wares"
  n_Web_stalls : NoAttr K c_Web "stalls"
  v_ONE : mg "ONE" = some (.ref c_ONE)
  t_ONE : SqT K (fun _ => none) c_ONE [.int 1, .int 1]
  v_MOST_STALLS : ∃ u, mg "MOST_STALLS" = some u ∧ RelV (.int 16) u
  v_MOST_WARES : ∃ u, mg "MOST_WARES" = some u ∧ RelV (.int 8) u
  g_is_integer : mg "is_integer" = some (.ref f_is_integer)
  F_is_integer : Fun K "is_integer" "is_integer" s_is_integer f_is_integer d_is_integer
  k_is_integer : PySem.W.keepIn K (.ref f_is_integer) = true
  b_is_integer : Binds K d_is_integer ["thing"] []
  g_is_row : mg "is_row" = some (.ref f_is_row)
  F_is_row : Fun K "is_row" "is_row" s_is_row f_is_row d_is_row
  k_is_row : PySem.W.keepIn K (.ref f_is_row) = true
  b_is_row : Binds K d_is_row ["thing"] []
  g_is_fraction : mg "is_fraction" = some (.ref f_is_fraction)
  F_is_fraction : Fun K "is_fraction" "is_fraction" s_is_fraction f_is_fraction d_is_fraction
  k_is_fraction : PySem.W.keepIn K (.ref f_is_fraction) = true
  b_is_fraction : Binds K d_is_fraction ["thing"] []
  g_is_some : mg "is_some" = some (.ref f_is_some)
  F_is_some : Fun K "is_some" "is_some" s_is_some f_is_some d_is_some
  k_is_some : PySem.W.keepIn K (.ref f_is_some) = true
  b_is_some : Binds K d_is_some ["thing"] []
  g_multiplied : mg "multiplied" = some (.ref f_multiplied)
  F_multiplied : Fun K "multiplied" "multiplied" s_multiplied f_multiplied d_multiplied
  k_multiplied : PySem.W.keepIn K (.ref f_multiplied) = true
  b_multiplied : Binds K d_multiplied ["one", "other"] []
  g_squared : mg "squared" = some (.ref f_squared)
  F_squared : Fun K "squared" "squared" s_squared f_squared d_squared
  k_squared : PySem.W.keepIn K (.ref f_squared) = true
  b_squared : Binds K d_squared ["one"] []
  g_is_stall : mg "is_stall" = some (.ref f_is_stall)
  F_is_stall : Fun K "is_stall" "is_stall" s_is_stall f_is_stall d_is_stall
  k_is_stall : PySem.W.keepIn K (.ref f_is_stall) = true
  b_is_stall : Binds K d_is_stall ["wares", "thing"] []
  g_across : mg "across" = some (.ref f_across)
  F_across : Fun K "across" "across" s_across f_across d_across
  k_across : PySem.W.keepIn K (.ref f_across) = true
  b_across : Binds K d_across ["stall", "ware"] []
  g_hold_of : mg "hold_of" = some (.ref f_hold_of)
  F_hold_of : Fun K "hold_of" "hold_of" s_hold_of f_hold_of d_hold_of
  k_hold_of : PySem.W.keepIn K (.ref f_hold_of) = true
  b_hold_of : Binds K d_hold_of ["stall", "ware"] []
  g_is_index : mg "is_index" = some (.ref f_is_index)
  F_is_index : Fun K "is_index" "is_index" s_is_index f_is_index d_is_index
  k_is_index : PySem.W.keepIn K (.ref f_is_index) = true
  b_is_index : Binds K d_is_index ["web", "thing"] []
  g_is_step : mg "is_step" = some (.ref f_is_step)
  F_is_step : Fun K "is_step" "is_step" s_is_step f_is_step d_is_step
  k_is_step : PySem.W.keepIn K (.ref f_is_step) = true
  b_is_step : Binds K d_is_step ["web", "thing"] []
  g_end_of : mg "end_of" = some (.ref f_end_of)
  F_end_of : Fun K "end_of" "end_of" s_end_of f_end_of d_end_of
  k_end_of : PySem.W.keepIn K (.ref f_end_of) = true
  b_end_of : Binds K d_end_of ["web", "step"] []
  g_is_walk : mg "is_walk" = some (.ref f_is_walk)
  F_is_walk : Fun K "is_walk" "is_walk" s_is_walk f_is_walk d_is_walk
  k_is_walk : PySem.W.keepIn K (.ref f_is_walk) = true
  b_is_walk : Binds K d_is_walk ["web", "thing"] []
  g_is_ring : mg "is_ring" = some (.ref f_is_ring)
  F_is_ring : Fun K "is_ring" "is_ring" s_is_ring f_is_ring d_is_ring
  k_is_ring : PySem.W.keepIn K (.ref f_is_ring) = true
  b_is_ring : Binds K d_is_ring ["web", "thing"] []
  g_is_uneven : mg "is_uneven" = some (.ref f_is_uneven)
  F_is_uneven : Fun K "is_uneven" "is_uneven" s_is_uneven f_is_uneven d_is_uneven
  k_is_uneven : PySem.W.keepIn K (.ref f_is_uneven) = true
  b_is_uneven : Binds K d_is_uneven ["web", "ring"] []
  g_is_uneven_ring : mg "is_uneven_ring" = some (.ref f_is_uneven_ring)
  F_is_uneven_ring : Fun K "is_uneven_ring" "is_uneven_ring" s_is_uneven_ring f_is_uneven_ring d_is_uneven_ring
  k_is_uneven_ring : PySem.W.keepIn K (.ref f_is_uneven_ring) = true
  b_is_uneven_ring : Binds K d_is_uneven_ring ["web", "thing"] []
  g_l_hand : mg "_law_hand" = some (.ref f_l_hand)
  F_l_hand : Fun K "_law_hand" "_law_hand" s_l_hand f_l_hand d_l_hand
  k_l_hand : PySem.W.keepIn K (.ref f_l_hand) = true
  b_l_hand : Binds K d_l_hand ["_law_script"] []
  g_l_draw : mg "_law_draw" = some (.ref f_l_draw)
  F_l_draw : Fun K "_law_draw" "_law_draw" s_l_draw f_l_draw d_l_draw
  k_l_draw : PySem.W.keepIn K (.ref f_l_draw) = true
  b_l_draw : Binds K d_l_draw ["_law_hand_here", "_law_many"] []
  g_l_gcd : mg "_law_gcd" = some (.ref f_l_gcd)
  F_l_gcd : Fun K "_law_gcd" "_law_gcd" s_l_gcd f_l_gcd d_l_gcd
  k_l_gcd : PySem.W.keepIn K (.ref f_l_gcd) = true
  b_l_gcd : Binds K d_l_gcd ["_law_one", "_law_other"] []
  g_l_frac : mg "_law_frac" = some (.ref f_l_frac)
  F_l_frac : Fun K "_law_frac" "_law_frac" s_l_frac f_l_frac d_l_frac
  k_l_frac : PySem.W.keepIn K (.ref f_l_frac) = true
  b_l_frac : Binds K d_l_frac ["_law_top", "_law_bottom"] []
  g_l_times : mg "_law_times" = some (.ref f_l_times)
  F_l_times : Fun K "_law_times" "_law_times" s_l_times f_l_times d_l_times
  k_l_times : PySem.W.keepIn K (.ref f_l_times) = true
  b_l_times : Binds K d_l_times ["_law_one", "_law_other"] []
  g_l_over : mg "_law_over" = some (.ref f_l_over)
  F_l_over : Fun K "_law_over" "_law_over" s_l_over f_l_over d_l_over
  k_l_over : PySem.W.keepIn K (.ref f_l_over) = true
  b_l_over : Binds K d_l_over ["_law_one", "_law_other"] []
  g_l_some : mg "_law_some" = some (.ref f_l_some)
  F_l_some : Fun K "_law_some" "_law_some" s_l_some f_l_some d_l_some
  k_l_some : PySem.W.keepIn K (.ref f_l_some) = true
  b_l_some : Binds K d_l_some ["_law_hand_here"] []
  g_l_shuffled : mg "_law_shuffled" = some (.ref f_l_shuffled)
  F_l_shuffled : Fun K "_law_shuffled" "_law_shuffled" s_l_shuffled f_l_shuffled d_l_shuffled
  k_l_shuffled : PySem.W.keepIn K (.ref f_l_shuffled) = true
  b_l_shuffled : Binds K d_l_shuffled ["_law_hand_here", "_law_things"] []
  g_l_stall : mg "_law_stall" = some (.ref f_l_stall)
  F_l_stall : Fun K "_law_stall" "_law_stall" s_l_stall f_l_stall d_l_stall
  k_l_stall : PySem.W.keepIn K (.ref f_l_stall) = true
  b_l_stall : Binds K d_l_stall ["_law_hand_here", "_law_one", "_law_other", "_law_quotient"] []
  g_l_stalls : mg "_law_stalls" = some (.ref f_l_stalls)
  F_l_stalls : Fun K "_law_stalls" "_law_stalls" s_l_stalls f_l_stalls d_l_stalls
  k_l_stalls : PySem.W.keepIn K (.ref f_l_stalls) = true
  b_l_stalls : Binds K d_l_stalls ["_law_hand_here", "_law_wares", "_law_many", "_law_way"] []
  g_l_sizes : mg "_law_sizes" = some (.ref f_l_sizes)
  F_l_sizes : Fun K "_law_sizes" "_law_sizes" s_l_sizes f_l_sizes d_l_sizes
  k_l_sizes : PySem.W.keepIn K (.ref f_l_sizes) = true
  b_l_sizes : Binds K d_l_sizes ["_law_hand_here"] []
  g_l_whole : mg "_law_whole" = some (.ref f_l_whole)
  F_l_whole : Fun K "_law_whole" "_law_whole" s_l_whole f_l_whole d_l_whole
  k_l_whole : PySem.W.keepIn K (.ref f_l_whole) = true
  b_l_whole : Binds K d_l_whole ["_law_thing"] []
  g_l_is_flag : mg "_law_is_flag" = some (.ref f_l_is_flag)
  F_l_is_flag : Fun K "_law_is_flag" "_law_is_flag" s_l_is_flag f_l_is_flag d_l_is_flag
  k_l_is_flag : PySem.W.keepIn K (.ref f_l_is_flag) = true
  b_l_is_flag : Binds K d_l_is_flag ["_law_told", "_law_due"] []
  g_l_is_uneven : mg "_law_is_uneven" = some (.ref f_l_is_uneven)
  F_l_is_uneven : Fun K "_law_is_uneven" "_law_is_uneven" s_l_is_uneven f_l_is_uneven d_l_is_uneven
  k_l_is_uneven : PySem.W.keepIn K (.ref f_l_is_uneven) = true
  b_l_is_uneven : Binds K d_l_is_uneven ["_law_stalls_here", "_law_thing"] []
  g_l_ring : mg "_law_ring" = some (.ref f_l_ring)
  F_l_ring : Fun K "_law_ring" "_law_ring" s_l_ring f_l_ring d_l_ring
  k_l_ring : PySem.W.keepIn K (.ref f_l_ring) = true
  b_l_ring : Binds K d_l_ring ["_law_hand_here", "_law_stalls_here", "_law_wares"] []
  g_l_back : mg "_law_back" = some (.ref f_l_back)
  F_l_back : Fun K "_law_back" "_law_back" s_l_back f_l_back d_l_back
  k_l_back : PySem.W.keepIn K (.ref f_l_back) = true
  b_l_back : Binds K d_l_back ["_law_stalls_here", "_law_ring_here"] []
  g_l_bent : mg "_law_bent" = some (.ref f_l_bent)
  F_l_bent : Fun K "_law_bent" "_law_bent" s_l_bent f_l_bent d_l_bent
  k_l_bent : PySem.W.keepIn K (.ref f_l_bent) = true
  b_l_bent : Binds K d_l_bent ["_law_hand_here", "_law_ring_here", "_law_many", "_law_wares"] []
  g_law : mg "law" = some (.ref f_law)
  F_law : Fun K "law" "law" s_law f_law d_law
  k_law : PySem.W.keepIn K (.ref f_law) = true
  b_law : Binds K d_law ["_law_script"] []
  F_Web_init : Fun K "__init__" "Web.__init__" s_Web_init f_Web_init d_Web_init
  b_Web_init : Binds K d_Web_init ["self", "wares", "stalls"] []
  F_Web_eq : Fun K "__eq__" "Web.__eq__" s_Web_eq f_Web_eq d_Web_eq
  k_Web_eq : PySem.W.keepIn K (.ref f_Web_eq) = true
  b_Web_eq : Binds K d_Web_eq ["self", "other"] []
  i_Web_eq : PySem.W.findIn K (.ref c_Web) "__eq__" = some (some (.ref f_Web_eq))
  fn_Web_eq : PySem.W.isFn K (.ref f_Web_eq) = true
  ne_Web : PySem.W.findIn K (.ref c_Web) "__ne__" = some (some (.builtin "object.__ne__"))
end My
/-! the steps of a reading, one after another; side conditions come last -/
local macro_rules | `(tactic| walk_at "hp") => `(tactic| (repeat (first | (with_reducible assumption) | (with_reducible exact L2.upd_same) | (refine (L2.upd_ne (by first | assumption | (apply Ne.symm; assumption))).trans ?_))))
local macro_rules | `(tactic| walk_at "sd") => `(tactic| first | assumption | decide | omega | (exact My.cpow_of (by decide)) | (exact My.cdivx (b := 64) (by decide) (by decide) (by decide)) | (exact My.cdivx (by omega) (by assumption) (by decide)))
local macro_rules | `(tactic| walk_at "rX") => `(tactic| fail)
local macro_rules | `(tactic| walk_at "rV") => `(tactic| first
  | (with_reducible refine My.rd_C ?_)
  | ((with_reducible refine' My.rd_var ?k1 ?_); (case k1 => rfl))
  | (with_reducible refine My.rd_op ?_) | (with_reducible refine My.rd_cons ?_) | (with_reducible refine My.rd_nil ?_) | (with_reducible refine My.rd_CB ?_) | (with_reducible refine My.rd_call ?_)
  | (with_reducible refine My.rd_rI0 ?_)
  | (with_reducible refine My.rd_rI ?_ (by walk_at "sd"))
  | (with_reducible refine My.rd_rI ?_ ?_)
  | ((with_reducible refine' My.rd_ixL ?k1 ?k2 ?_); (case k1 => walk_at "hp"); (case k2 => rfl))
  | ((with_reducible refine' My.rd_ixT ?k1 ?k2 ?_); (case k1 => walk_at "hp"); (case k2 => rfl))
  | ((with_reducible refine' My.rd_ixTp ?k1 ?k3 ?k2 ?_); (case k1 => walk_at "tp"); (case k2 => rfl); (case k3 => rfl))
  | (with_reducible refine My.rd_un ?_) | (with_reducible refine My.rd_rU ?_)
  | (with_reducible refine My.rd_eqI ?_) | (with_reducible refine My.rd_neI ?_) | (with_reducible refine My.rd_eqB ?_) | (with_reducible refine My.rd_neB ?_) | (with_reducible refine My.rd_eqS ?_) | (with_reducible refine My.rd_neS ?_)
  | (with_reducible refine My.rd_gcd ?_) | (with_reducible refine My.rd_bits ?_)
  | ((with_reducible refine' My.rd_lenL ?_ ?k1); (case k1 => walk_at "hp"))
  | ((with_reducible refine' My.rd_lenT ?_ ?k1); (case k1 => walk_at "hp"))
  | ((with_reducible refine' My.rd_lenTp ?_ ?k1 ?k3); (case k1 => walk_at "tp"); (case k3 => rfl))
  | (with_reducible refine My.rd_int ?_) | (with_reducible refine My.rd_abs ?_) | (with_reducible refine My.rd_min ?_) | (with_reducible refine My.rd_intB ?_)
  | (with_reducible refine ⟨_, rfl, ?_⟩)
  | (with_reducible refine My.rd_len ?_ rfl)
  | (with_reducible refine My.rd_tup ?_) | (with_reducible refine My.rd_lst ?_)
  | (with_reducible refine My.isi_int_int ?_) | (with_reducible refine My.isi_int_bool ?_) | (with_reducible refine My.isi_bl_bool ?_)
  | ((with_reducible refine' My.isi_tup_tup ?k1 ?_); (case k1 => walk_at "hp"))
  | ((with_reducible refine' My.isi_tp ?k1 ?k3 ?_); (case k1 => walk_at "tp"); (case k3 => rfl))
  | (with_reducible refine My.rd_isBl ?_))
local macro_rules | `(tactic| walk_at "rS") => `(tactic| first
  | (with_reducible refine My.rd_seq ?_) | (with_reducible refine My.rd_next ?_) | (with_reducible refine My.rd_asg ?_) | (with_reducible refine My.rd_gName ?_) | (with_reducible refine My.rd_ret ?_)
  | (with_reducible refine My.rd_ifS ?_) | (with_reducible refine My.rd_test ?_) | (with_reducible refine My.rd_B ?_) | (with_reducible refine My.rd_not ?_) | (with_reducible refine My.rd_and ?_) | (with_reducible refine My.rd_or ?_)
  | (with_reducible refine My.rd_andV ?_) | (with_reducible refine My.rd_orV ?_) | (with_reducible refine My.rd_notV ?_) | (with_reducible refine My.rd_ifE ?_) | (with_reducible refine My.rd_chain ?_)
  | (with_reducible refine My.rd_gSub ?_) | ((with_reducible refine' My.rd_setL ?k1 ?k2 ?_); (case k1 => walk_at "hp"); (case k2 => rfl))
  | ((with_reducible refine' My.rd_gTup ?k1 ?k2 ?_); (case k1 => walk_at "hp"); (case k2 => rfl)) | ((with_reducible refine' My.rd_gTp ?k1 ?k3 ?k2 ?_); (case k1 => walk_at "tp"); (case k2 => rfl); (case k3 => rfl)) | (with_reducible refine My.rd_gCons ?_) | (with_reducible refine My.rd_gNil ?_)
  | (with_reducible refine My.rd_drop ?_) | (with_reducible refine My.rd_for ?_) | (with_reducible refine My.rd_rng1 ?_) | (with_reducible refine My.rd_itL ?_) | (with_reducible refine My.rd_itT ?_)
  | (with_reducible refine My.rd_sl ?_) | (with_reducible refine My.rd_part ?_) | (with_reducible refine My.rd_nopart ?_) | (with_reducible refine My.rd_bm ?_) | (with_reducible refine My.rd_yes ?_) | (with_reducible refine My.rd_lc ?_)
  | (with_reducible refine My.ite_nt ?_) | (with_reducible refine My.ite_nf ?_)
  | (with_reducible refine L2.iteF ?_) | (with_reducible refine L2.iteT ?_))
local macro_rules | `(tactic| walk_at "dc") => `(tactic| first | (with_reducible assumption) | ((with_reducible show _ = _); rfl) | omega | decide)
local macro_rules | `(tactic| walk_at "rI") => `(tactic| first
  | ((with_reducible refine' My.if_T ?k1 ?_); (case k1 => walk_at "dc"))
  | ((with_reducible refine' My.if_F ?k1 ?_); (case k1 => walk_at "dc"))
  | ((with_reducible refine' My.if_nF ?k1 ?_); (case k1 => walk_at "dc"))
  | ((with_reducible refine' My.if_nT ?k1 ?_); (case k1 => walk_at "dc")))
local macro_rules | `(tactic| walk_at "r") => `(tactic| (repeat (first | (walk_at "rV") | (walk_at "rS") | (walk_at "rI") | (walk_at "rX"))))
local macro_rules | `(tactic| walk_at "if") => `(tactic| first | (with_reducible refine My.if_dec (fun h => ?_) (fun h => ?_)) | (with_reducible refine My.if_ndec (fun h => ?_) (fun h => ?_)))
local macro_rules | `(tactic| walk_at "st") => `(tactic| (set_option pp.maxSteps 150 in trace_state))
local macro_rules | `(tactic| walk_at "rX") => `(tactic| first | (with_reducible refine My.rd_callS ?_) | (with_reducible refine My.rd_newK ?_) | (with_reducible refine My.rd_raise1 ?_) | (with_reducible refine My.rd_x1 ?_) | (with_reducible refine My.rd_fldS ?_) | (with_reducible refine My.rd_fld ?_) | (with_reducible refine My.rd_make ?_) | (with_reducible refine My.rd_enum ?_) | (with_reducible refine My.rd_enumX ?_) | (with_reducible refine My.rd_ost ?_) | (with_reducible refine My.rd_xf ?_) | (with_reducible refine My.isi_int_tup ?_))
local macro_rules | `(tactic| walk_at "sm") => `(tactic| first | (with_reducible assumption) | (with_reducible exact L2.Same.refl _) | ((with_reducible refine L2.Same.trans ?_ (by with_reducible assumption)); walk_at "sm"))
local macro_rules | `(tactic| walk_at "tp") => `(tactic| first | (with_reducible assumption) | ((with_reducible refine My.Tp.same ?_ (by with_reducible assumption)); walk_at "sm"))
local macro_rules | `(tactic| walk_at "hp") => `(tactic| ((with_reducible refine My.at_same ?_ (by with_reducible assumption)); walk_at "sm"))
local macro_rules | `(tactic| walk_at "kp") => `(tactic| first | (with_reducible assumption) | ((with_reducible refine My.IsF.same ?_ (by with_reducible assumption)); walk_at "sm") | ((with_reducible refine My.IsSt.same ?_ (by with_reducible assumption)); walk_at "sm") | ((with_reducible refine My.IsWeb.same ?_ (by with_reducible assumption)); walk_at "sm") | ((with_reducible refine My.IsMv.same ?_ (by with_reducible assumption)); walk_at "sm") | ((with_reducible refine My.Sts.same ?_ (by with_reducible assumption)); walk_at "sm") | ((with_reducible refine My.Tp.same ?_ (by with_reducible assumption)); walk_at "sm") | ((with_reducible refine My.at_same ?_ (by with_reducible assumption)); walk_at "sm"))
namespace My
open PySem PySem.Spec PyProof.Rows L2
variable {K : PySem.W.Frag}
section
variable {P : Program} {w : World} {K : PySem.W.Frag} {mg : Str → Option Value} {base : Heap} {f_is_integer f_is_row f_is_fraction f_is_some f_multiplied f_squared f_is_stall f_across f_hold_of f_is_index f_is_step f_end_of f_is_walk f_is_ring f_is_uneven f_is_uneven_ring f_l_hand f_l_draw f_l_gcd f_l_frac f_l_times f_l_over f_l_some f_l_shuffled f_l_stall f_l_stalls f_l_sizes f_l_whole f_l_is_flag f_l_is_uneven f_l_ring f_l_back f_l_bent f_law f_Web_init f_Web_eq c_Web c_ONE : Addr} {d_is_integer d_is_row d_is_fraction d_is_some d_multiplied d_squared d_is_stall d_across d_hold_of d_is_index d_is_step d_end_of d_is_walk d_is_ring d_is_uneven d_is_uneven_ring d_l_hand d_l_draw d_l_gcd d_l_frac d_l_times d_l_over d_l_some d_l_shuffled d_l_stall d_l_stalls d_l_sizes d_l_whole d_l_is_flag d_l_is_uneven d_l_ring d_l_back d_l_bent d_law d_Web_init d_Web_eq : FuncData}
/-- two fractions in, one out -/
def sp_two (K : PySem.W.Frag) (f : Rat → Rat → Rat) (C : Rat → Rat → Prop) : Sp := fun vs H Q _ => ∃ x y r s, vs = [x, y] ∧ IsF K H x r ∧ IsF K H y s ∧ Bd 4000 r ∧ Bd 4000 s ∧ C r s ∧ ∀ H' v, Same H H' → IsF K H' v (f r s) → Q v H'
def sp_added (K : PySem.W.Frag) : Sp := sp_two K (· + ·) fun _ _ => True
def sp_multiplied (K : PySem.W.Frag) : Sp := sp_two K (· * ·) fun _ _ => True
theorem ok_multiplied (T : Txt K mg f_is_integer f_is_row f_is_fraction f_is_some f_multiplied f_squared f_is_stall f_across f_hold_of f_is_index f_is_step f_end_of f_is_walk f_is_ring f_is_uneven f_is_uneven_ring f_l_hand f_l_draw f_l_gcd f_l_frac f_l_times f_l_over f_l_some f_l_shuffled f_l_stall f_l_stalls f_l_sizes f_l_whole f_l_is_flag f_l_is_uneven f_l_ring f_l_back f_l_bent f_law f_Web_init f_Web_eq c_Web c_ONE d_is_integer d_is_row d_is_fraction d_is_some d_multiplied d_squared d_is_stall d_across d_hold_of d_is_index d_is_step d_end_of d_is_walk d_is_ring d_is_uneven d_is_uneven_ring d_l_hand d_l_draw d_l_gcd d_l_frac d_l_times d_l_over d_l_some d_l_shuffled d_l_stall d_l_stalls d_l_sizes d_l_whole d_l_is_flag d_l_is_uneven d_l_ring d_l_back d_l_bent d_law d_Web_init d_Web_eq) : FnOk P w K mg base CX0 1 f_multiplied d_multiplied ["one", "other"] (sp_multiplied K) := by
  refine T.F_multiplied.ok sc_multiplied (fun vs H Q E h => ?_) (fun cdv A outer s H vs Q E hr h => ?_)
  · obtain ⟨x, y, r, s, rfl, _⟩ := h
    rfl
  · obtain ⟨x, y, r, s, rfl, ⟨p1, rfl, h1⟩, ⟨p2, rfl, h2⟩, b1, b2, -, q⟩ := h
    obtain ⟨m1, m2, m3, m4, m5, m6⟩ := mul_math b1 b2 _ _ rfl rfl
    refine ⟨_, (pss_cons (ps_set (i := 2) sc_multiplied.nd rfl (by first | exact Or.inl rfl | exact Or.inr rfl) (pe_callBfun cr_gcd (by rfl) T.m_gcd (pa_cons (pe_ix ix_tup (pv 0) pe_int (fun _ _ => rfl)) (pa_cons (pe_ix ix_tup (pv 1) pe_int (fun _ _ => rfl)) pa_nil))))
      (pss_cons (ps_set (i := 3) sc_multiplied.nd rfl (by first | exact Or.inl rfl | exact Or.inr rfl) (pe_callBfun cr_gcd (by rfl) T.m_gcd (pa_cons (pe_ix ix_tup (pv 1) pe_int (fun _ _ => rfl)) (pa_cons (pe_ix ix_tup (pv 0) pe_int (fun _ _ => rfl)) pa_nil))))
      (pss_one (ps_ret (pe_tup (pa_cons (pe_op op_mulX (pe_op op_fdivX (pe_ix ix_tup (pv 0) pe_int (fun _ _ => rfl)) (pv 2)) (pe_op op_fdivX (pe_ix ix_tup (pv 1) pe_int (fun _ _ => rfl)) (pv 3))) (pa_cons (pe_op op_mulX (pe_op op_fdivX (pe_ix ix_tup (pv 0) pe_int (fun _ _ => rfl)) (pv 3)) (pe_op op_fdivX (pe_ix ix_tup (pv 1) pe_int (fun _ _ => rfl)) (pv 2))) pa_nil))))))), ?_⟩
    walk_at "r"
    · intro p np
      exact q _ _ (same_upd np) (isF_new m5 m6)
    all_goals first | assumption | exact m1 _ | exact m2 _
def sp_negated (K : PySem.W.Frag) : Sp := fun vs H Q _ => ∃ x r, vs = [x] ∧ IsF K H x r ∧ ∀ H' v, Same H H' → IsF K H' v (-r) → Q v H'
def sp_lessened (K : PySem.W.Frag) : Sp := sp_two K (· - ·) fun _ _ => True
def sp_divided (K : PySem.W.Frag) : Sp := sp_two K (· / ·) fun _ s => s ≠ 0
end
end My
namespace My
open PySem PySem.Spec PyProof.Rows L2
variable {K : PySem.W.Frag}
section
variable {P : Program} {w : World} {K : PySem.W.Frag} {mg : Str → Option Value} {base : Heap} {f_is_integer f_is_row f_is_fraction f_is_some f_multiplied f_squared f_is_stall f_across f_hold_of f_is_index f_is_step f_end_of f_is_walk f_is_ring f_is_uneven f_is_uneven_ring f_l_hand f_l_draw f_l_gcd f_l_frac f_l_times f_l_over f_l_some f_l_shuffled f_l_stall f_l_stalls f_l_sizes f_l_whole f_l_is_flag f_l_is_uneven f_l_ring f_l_back f_l_bent f_law f_Web_init f_Web_eq c_Web c_ONE : Addr} {d_is_integer d_is_row d_is_fraction d_is_some d_multiplied d_squared d_is_stall d_across d_hold_of d_is_index d_is_step d_end_of d_is_walk d_is_ring d_is_uneven d_is_uneven_ring d_l_hand d_l_draw d_l_gcd d_l_frac d_l_times d_l_over d_l_some d_l_shuffled d_l_stall d_l_stalls d_l_sizes d_l_whole d_l_is_flag d_l_is_uneven d_l_ring d_l_back d_l_bent d_law d_Web_init d_Web_eq : FuncData}
def sp_is_integer : Sp := fun vs H Q _ => ∃ i : Int, vs = [.int i] ∧ Q (.bl true) H
theorem ok_is_integer (T : Txt K mg f_is_integer f_is_row f_is_fraction f_is_some f_multiplied f_squared f_is_stall f_across f_hold_of f_is_index f_is_step f_end_of f_is_walk f_is_ring f_is_uneven f_is_uneven_ring f_l_hand f_l_draw f_l_gcd f_l_frac f_l_times f_l_over f_l_some f_l_shuffled f_l_stall f_l_stalls f_l_sizes f_l_whole f_l_is_flag f_l_is_uneven f_l_ring f_l_back f_l_bent f_law f_Web_init f_Web_eq c_Web c_ONE d_is_integer d_is_row d_is_fraction d_is_some d_multiplied d_squared d_is_stall d_across d_hold_of d_is_index d_is_step d_end_of d_is_walk d_is_ring d_is_uneven d_is_uneven_ring d_l_hand d_l_draw d_l_gcd d_l_frac d_l_times d_l_over d_l_some d_l_shuffled d_l_stall d_l_stalls d_l_sizes d_l_whole d_l_is_flag d_l_is_uneven d_l_ring d_l_back d_l_bent d_law d_Web_init d_Web_eq) : FnOk P w K mg base CX0 1 f_is_integer d_is_integer ["thing"] sp_is_integer := by
  refine T.F_is_integer.ok sc_is_integer (fun vs H Q E h => ?_) (fun cdv A outer s H vs Q E hr h => ?_)
  · obtain ⟨i, rfl, _⟩ := h
    rfl
  · obtain ⟨i, rfl, q⟩ := h
    refine ⟨_, (pss_one (ps_ret (pe_and (pe_callB call_isi (by rfl) T.z_isinstance (by decide +kernel) (pa_cons (pv 0) (pa_cons (pe_bltn (v := .ty "int") (u := .type "int") (by rfl) T.z_int (by decide +kernel) rfl) pa_nil))) (pe_one (pe_not (pe_callB call_isi (by rfl) T.z_isinstance (by decide +kernel) (pa_cons (pv 0) (pa_cons (pe_bltn (v := .ty "bool") (u := .type "bool") (by rfl) T.z_bool (by decide +kernel) rfl) pa_nil)))))))), ?_⟩
    walk_at "r"
    exact q
def sp_is_fraction (K : PySem.W.Frag) : Sp := fun vs H Q _ => ∃ v r, vs = [v] ∧ IsF K H v r ∧ Q (.bl true) H
theorem ok_is_fraction (T : Txt K mg f_is_integer f_is_row f_is_fraction f_is_some f_multiplied f_squared f_is_stall f_across f_hold_of f_is_index f_is_step f_end_of f_is_walk f_is_ring f_is_uneven f_is_uneven_ring f_l_hand f_l_draw f_l_gcd f_l_frac f_l_times f_l_over f_l_some f_l_shuffled f_l_stall f_l_stalls f_l_sizes f_l_whole f_l_is_flag f_l_is_uneven f_l_ring f_l_back f_l_bent f_law f_Web_init f_Web_eq c_Web c_ONE d_is_integer d_is_row d_is_fraction d_is_some d_multiplied d_squared d_is_stall d_across d_hold_of d_is_index d_is_step d_end_of d_is_walk d_is_ring d_is_uneven d_is_uneven_ring d_l_hand d_l_draw d_l_gcd d_l_frac d_l_times d_l_over d_l_some d_l_shuffled d_l_stall d_l_stalls d_l_sizes d_l_whole d_l_is_flag d_l_is_uneven d_l_ring d_l_back d_l_bent d_law d_Web_init d_Web_eq) : FnOk P w K mg base CX0 2 f_is_fraction d_is_fraction ["thing"] (sp_is_fraction K) := by
  have G_is_integer : FnOk P w K mg base CX0 1 f_is_integer d_is_integer ["thing"] sp_is_integer := ok_is_integer T
  refine T.F_is_fraction.ok sc_is_fraction (fun vs H Q E h => ?_) (fun cdv A outer s H vs Q E hr h => ?_)
  · obtain ⟨v, r, rfl, _⟩ := h
    rfl
  · obtain ⟨v, r, rfl, ⟨p, rfl, hp⟩, q⟩ := h
    refine ⟨_, (pss_cons (ps_if (PW.pt (pw_or (pt_not (pt_val (pe_callB call_isi (by rfl) T.z_isinstance (by decide +kernel) (pa_cons (pv 0) (pa_cons (pe_bltn (v := .ty "tuple") (u := .type "tuple") (by rfl) T.z_tuple (by decide +kernel) rfl) pa_nil))))) (pw_or1 (pt_cmpR op_ne (pe_callB call_lenN (by rfl) T.z_len (by decide +kernel) (pa_cons (pv 0) pa_nil)) pe_int (nomark _)))))
        (pss_one (ps_ret pe_bl))
        pss_nil)
      (pss_cons (ps_asg (pv 0) (pg_tup rfl (pgs_cons (pg_name (i := 1) sc_is_fraction.nd rfl (by first | exact Or.inl rfl | exact Or.inr rfl)) (pgs_cons (pg_name (i := 2) sc_is_fraction.nd rfl (by first | exact Or.inl rfl | exact Or.inr rfl)) pgs_nil))))
      (pss_cons (ps_if (PW.pt (pw_or (pt_not (pt_val (pe_call G_is_integer (hr.mono (by decide)) (by rfl) T.g_is_integer T.k_is_integer T.b_is_integer .nil pass0 (pa_cons (pv 1) pa_nil)))) (pw_or1 (pt_not (pt_val (pe_call G_is_integer (hr.mono (by decide)) (by rfl) T.g_is_integer T.k_is_integer T.b_is_integer .nil pass0 (pa_cons (pv 2) pa_nil)))))))
        (pss_one (ps_ret pe_bl))
        pss_nil)
      (pss_one (ps_ret (pe_and (pe_cmpR op_ge (pv 2) pe_int (nomark _)) (pe_one (pe_cmpR op_eq (pe_callBfun cr_gcd (by rfl) T.m_gcd (pa_cons (pv 1) (pa_cons (pv 2) pa_nil))) pe_int (nomark _))))))))), ?_⟩
    walk_at "r"
    refine ⟨_, rfl, ?_⟩
    walk_at "r"
    refine ⟨_, rfl, ?_⟩
    walk_at "r"
    have h1 := den_pos r
    have h2 := gcd_den r
    walk_at "r"
    rw [Int.natAbs_natCast, h2]
    exact q
end
end My
namespace My
open PySem PySem.Spec PyProof.Rows L2
variable {K : PySem.W.Frag}
theorem num_pos' {r : Rat} (h : 0 < r) : 0 < r.num := by
  rw [Rat.lt_iff] at h
  simpa using h
theorem sq_num (s : Rat) : (s * s).num = s.num * s.num ∧ (s * s).den = s.den * s.den := by
  obtain ⟨h1, h2⟩ := mul_form s s 1 1 (gcd_den s).symm (gcd_den s).symm
  rw [h1, h2]
  simp
section
variable {P : Program} {w : World} {K : PySem.W.Frag} {mg : Str → Option Value} {base : Heap} {f_is_integer f_is_row f_is_fraction f_is_some f_multiplied f_squared f_is_stall f_across f_hold_of f_is_index f_is_step f_end_of f_is_walk f_is_ring f_is_uneven f_is_uneven_ring f_l_hand f_l_draw f_l_gcd f_l_frac f_l_times f_l_over f_l_some f_l_shuffled f_l_stall f_l_stalls f_l_sizes f_l_whole f_l_is_flag f_l_is_uneven f_l_ring f_l_back f_l_bent f_law f_Web_init f_Web_eq c_Web c_ONE : Addr} {d_is_integer d_is_row d_is_fraction d_is_some d_multiplied d_squared d_is_stall d_across d_hold_of d_is_index d_is_step d_end_of d_is_walk d_is_ring d_is_uneven d_is_uneven_ring d_l_hand d_l_draw d_l_gcd d_l_frac d_l_times d_l_over d_l_some d_l_shuffled d_l_stall d_l_stalls d_l_sizes d_l_whole d_l_is_flag d_l_is_uneven d_l_ring d_l_back d_l_bent d_law d_Web_init d_Web_eq : FuncData}
def sp_is_some (K : PySem.W.Frag) : Sp := fun vs H Q _ => ∃ v r, vs = [v] ∧ IsF K H v r ∧ 0 < r ∧ Q (.bl true) H
theorem ok_is_some (T : Txt K mg f_is_integer f_is_row f_is_fraction f_is_some f_multiplied f_squared f_is_stall f_across f_hold_of f_is_index f_is_step f_end_of f_is_walk f_is_ring f_is_uneven f_is_uneven_ring f_l_hand f_l_draw f_l_gcd f_l_frac f_l_times f_l_over f_l_some f_l_shuffled f_l_stall f_l_stalls f_l_sizes f_l_whole f_l_is_flag f_l_is_uneven f_l_ring f_l_back f_l_bent f_law f_Web_init f_Web_eq c_Web c_ONE d_is_integer d_is_row d_is_fraction d_is_some d_multiplied d_squared d_is_stall d_across d_hold_of d_is_index d_is_step d_end_of d_is_walk d_is_ring d_is_uneven d_is_uneven_ring d_l_hand d_l_draw d_l_gcd d_l_frac d_l_times d_l_over d_l_some d_l_shuffled d_l_stall d_l_stalls d_l_sizes d_l_whole d_l_is_flag d_l_is_uneven d_l_ring d_l_back d_l_bent d_law d_Web_init d_Web_eq) : FnOk P w K mg base CX0 3 f_is_some d_is_some ["thing"] (sp_is_some K) := by
  have G_is_fraction : FnOk P w K mg base CX0 2 f_is_fraction d_is_fraction ["thing"] (sp_is_fraction K) := ok_is_fraction T
  refine T.F_is_some.ok sc_is_some (fun vs H Q E h => ?_) (fun cdv A outer s H vs Q E hr h => ?_)
  · obtain ⟨v, r, rfl, _⟩ := h
    rfl
  · obtain ⟨v, r, rfl, h, r0, q⟩ := h
    obtain ⟨p, rfl, hp⟩ := id h
    have hn := num_pos' r0
    refine ⟨_, (pss_one (ps_ret (pe_and (pe_call G_is_fraction (hr.mono (by decide)) (by rfl) T.g_is_fraction T.k_is_fraction T.b_is_fraction .nil pass0 (pa_cons (pv 0) pa_nil)) (pe_one (pe_cmpR op_gt (pe_ix ix_tup (pv 0) pe_int (fun _ _ => rfl)) pe_int (nomark _)))))), ?_⟩
    walk_at "r"
    refine ⟨_, _, rfl, h, ?_⟩
    walk_at "r"
    rw [decide_eq_true hn]
    exact q
def sp_squared (K : PySem.W.Frag) : Sp := fun vs H Q _ => ∃ v r, vs = [v] ∧ IsF K H v r ∧ Bd 4000 r ∧ ∀ H' u, Same H H' → IsF K H' u (r * r) → Q u H'
theorem ok_squared (T : Txt K mg f_is_integer f_is_row f_is_fraction f_is_some f_multiplied f_squared f_is_stall f_across f_hold_of f_is_index f_is_step f_end_of f_is_walk f_is_ring f_is_uneven f_is_uneven_ring f_l_hand f_l_draw f_l_gcd f_l_frac f_l_times f_l_over f_l_some f_l_shuffled f_l_stall f_l_stalls f_l_sizes f_l_whole f_l_is_flag f_l_is_uneven f_l_ring f_l_back f_l_bent f_law f_Web_init f_Web_eq c_Web c_ONE d_is_integer d_is_row d_is_fraction d_is_some d_multiplied d_squared d_is_stall d_across d_hold_of d_is_index d_is_step d_end_of d_is_walk d_is_ring d_is_uneven d_is_uneven_ring d_l_hand d_l_draw d_l_gcd d_l_frac d_l_times d_l_over d_l_some d_l_shuffled d_l_stall d_l_stalls d_l_sizes d_l_whole d_l_is_flag d_l_is_uneven d_l_ring d_l_back d_l_bent d_law d_Web_init d_Web_eq) : FnOk P w K mg base CX0 1 f_squared d_squared ["one"] (sp_squared K) := by
  refine T.F_squared.ok sc_squared (fun vs H Q E h => ?_) (fun cdv A outer s H vs Q E hr h => ?_)
  · obtain ⟨v, r, rfl, _⟩ := h
    rfl
  · obtain ⟨v, r, rfl, ⟨p, rfl, hp⟩, b, q⟩ := h
    obtain ⟨e1, e2⟩ := sq_num r
    refine ⟨_, (pss_one (ps_ret (pe_tup (pa_cons (pe_op op_mulX (pe_ix ix_tup (pv 0) pe_int (fun _ _ => rfl)) (pe_ix ix_tup (pv 0) pe_int (fun _ _ => rfl))) (pa_cons (pe_op op_mulX (pe_ix ix_tup (pv 0) pe_int (fun _ _ => rfl)) (pe_ix ix_tup (pv 0) pe_int (fun _ _ => rfl))) pa_nil))))), ?_⟩
    walk_at "r"
    · intro p2 n2
      exact q _ _ (same_upd n2) (isF_new e1 (by rw [e2, Int.natCast_mul]))
    · exact cmx (by rw [Int.natAbs_natCast]; exact p46 b.2) (by rw [Int.natAbs_natCast]; exact p46 b.2)
    · exact cmx (p46 b.1) (p46 b.1)
def sp_is_stall (K : PySem.W.Frag) : Sp := fun vs H Q _ => ∃ (n : Nat) (x : V) (s : Stl), vs = [.int (n : Nat), x] ∧ IsSt K H x s ∧ OkSt n s ∧ BdSt 4000 s ∧ ∀ H', Same H H' → Q (.bl true) H'
theorem ok_is_stall (T : Txt K mg f_is_integer f_is_row f_is_fraction f_is_some f_multiplied f_squared f_is_stall f_across f_hold_of f_is_index f_is_step f_end_of f_is_walk f_is_ring f_is_uneven f_is_uneven_ring f_l_hand f_l_draw f_l_gcd f_l_frac f_l_times f_l_over f_l_some f_l_shuffled f_l_stall f_l_stalls f_l_sizes f_l_whole f_l_is_flag f_l_is_uneven f_l_ring f_l_back f_l_bent f_law f_Web_init f_Web_eq c_Web c_ONE d_is_integer d_is_row d_is_fraction d_is_some d_multiplied d_squared d_is_stall d_across d_hold_of d_is_index d_is_step d_end_of d_is_walk d_is_ring d_is_uneven d_is_uneven_ring d_l_hand d_l_draw d_l_gcd d_l_frac d_l_times d_l_over d_l_some d_l_shuffled d_l_stall d_l_stalls d_l_sizes d_l_whole d_l_is_flag d_l_is_uneven d_l_ring d_l_back d_l_bent d_law d_Web_init d_Web_eq) : FnOk P w K mg base CX0 4 f_is_stall d_is_stall ["wares", "thing"] (sp_is_stall K) := by
  have G_is_integer : FnOk P w K mg base CX0 1 f_is_integer d_is_integer ["thing"] sp_is_integer := ok_is_integer T
  have G_is_some : FnOk P w K mg base CX0 3 f_is_some d_is_some ["thing"] (sp_is_some K) := ok_is_some T
  have G_multiplied : FnOk P w K mg base CX0 1 f_multiplied d_multiplied ["one", "other"] (sp_multiplied K) := ok_multiplied T
  have G_squared : FnOk P w K mg base CX0 1 f_squared d_squared ["one"] (sp_squared K) := ok_squared T
  refine T.F_is_stall.ok sc_is_stall (fun vs H Q E h => ?_) (fun cdv A outer s H vs Q E hr h => ?_)
  · obtain ⟨n, x, s, rfl, _⟩ := h
    rfl
  · obtain ⟨n, x, s, rfl, ⟨p, va, vb, vr, rfl, hp, ha, hb, hr'⟩, ok, bd, q⟩ := h
    have hu := ok.u
    have hv := ok.v
    have hne := ok.ne
    refine ⟨_, (pss_cons (ps_if (PW.pt (pw_or (pt_not (pt_val (pe_callB call_isi (by rfl) T.z_isinstance (by decide +kernel) (pa_cons (pv 1) (pa_cons (pe_bltn (v := .ty "tuple") (u := .type "tuple") (by rfl) T.z_tuple (by decide +kernel) rfl) pa_nil))))) (pw_or1 (pt_cmpR op_ne (pe_callB call_lenN (by rfl) T.z_len (by decide +kernel) (pa_cons (pv 1) pa_nil)) pe_int (nomark _)))))
        (pss_one (ps_ret pe_bl))
        pss_nil)
      (pss_cons (ps_asg (pv 1) (pg_tup rfl (pgs_cons (pg_name (i := 2) sc_is_stall.nd rfl (by first | exact Or.inl rfl | exact Or.inr rfl)) (pgs_cons (pg_name (i := 3) sc_is_stall.nd rfl (by first | exact Or.inl rfl | exact Or.inr rfl)) (pgs_cons (pg_name (i := 4) sc_is_stall.nd rfl (by first | exact Or.inl rfl | exact Or.inr rfl)) (pgs_cons (pg_name (i := 5) sc_is_stall.nd rfl (by first | exact Or.inl rfl | exact Or.inr rfl)) (pgs_cons (pg_name (i := 6) sc_is_stall.nd rfl (by first | exact Or.inl rfl | exact Or.inr rfl)) pgs_nil)))))))
      (pss_cons (ps_for PassesOwn.never rfl (pi_tup (pe_tup (pa_cons (pv 2) (pa_cons (pv 3) pa_nil)))) (pg_name (i := 7) sc_is_stall.nd rfl (by first | exact Or.inl rfl | exact Or.inr rfl))
        (pss_one (ps_if (PW.pt (pw_or (pt_not (pt_val (pe_call G_is_integer (hr.mono (by decide)) (by rfl) T.g_is_integer T.k_is_integer T.b_is_integer .nil pass0 (pa_cons (pv 7) pa_nil)))) (pw_or1 (pt_not (pt_chain op_le op_lt pe_int (pv 7) (pv 0))))))
            (pss_one (ps_ret pe_bl))
            pss_nil)))
      (pss_cons (ps_if (PW.pt (pw_or (pt_cmpR op_eq (pv 2) (pv 3) (nomark _)) (pw_or1 (pt_not (PW.pt (pw_and (pt_val (pe_call G_is_some (hr.mono (by decide)) (by rfl) T.g_is_some T.k_is_some T.b_is_some .nil pass0 (pa_cons (pv 4) pa_nil))) (pw_and (pt_val (pe_call G_is_some (hr.mono (by decide)) (by rfl) T.g_is_some T.k_is_some T.b_is_some .nil pass0 (pa_cons (pv 5) pa_nil))) (pw_and1 (pt_val (pe_call G_is_some (hr.mono (by decide)) (by rfl) T.g_is_some T.k_is_some T.b_is_some .nil pass0 (pa_cons (pv 6) pa_nil)))))))))))
        (pss_one (ps_ret pe_bl))
        pss_nil)
      (pss_one (ps_ret (pe_cmpR (op_eqD hr.units) (pe_call G_multiplied (hr.mono (by decide)) (by rfl) T.g_multiplied T.k_multiplied T.b_multiplied .nil pass0 (pa_cons (pv 4) (pa_cons (pv 5) pa_nil))) (pe_call G_squared (hr.mono (by decide)) (by rfl) T.g_squared T.k_squared T.b_squared .nil pass0 (pa_cons (pv 6) pa_nil)) (nomark _)))))))), ?_⟩
    walk_at "r"
    intro t nt
    have sm := same_upd (o := .tup [V.int (s.u : Nat), .int (s.v : Nat)]) nt
    have ht : upd H t (.tup [V.int (s.u : Nat), .int (s.v : Nat)]) t = some (.tup [V.int (s.u : Nat), .int (s.v : Nat)]) := upd_same
    generalize upd H t (.tup [V.int (s.u : Nat), .int (s.v : Nat)]) = H1 at *
    have ha := ha.same sm
    have hb := hb.same sm
    have hr' := hr'.same sm
    refine ⟨_, rfl, ⟨_, .of ht⟩, ?_⟩
    refine for_tup (K := K) (a := t) (xs := [V.int (s.u : Nat), .int (s.v : Nat)]) (fun i σ H' => ∃ t7, σ = [some (.int (n : Nat)), some (.ref p), some (.int (s.u : Nat)), some (.int (s.v : Nat)), some va, some vb, some vr, t7] ∧ H' = H1) ⟨_, rfl, rfl⟩ ?_ ?_ ?_
    · rintro i σ H' _ ⟨t7, rfl, rfl⟩
      exact .of ht
    · rintro i z σ H' hz ⟨t7, rfl, rfl⟩
      obtain ⟨k, rfl, hk⟩ : ∃ k : Nat, z = .int (k : Nat) ∧ k < n := by
        match i, hz with
        | 0, hz => exact ⟨_, (Option.some.inj hz).symm, hu⟩
        | 1, hz => exact ⟨_, (Option.some.inj hz).symm, hv⟩
      walk_at "r"
      refine ⟨_, rfl, ?_⟩
      walk_at "r"
      exact rfl
    · rintro σ H' ⟨t7, rfl, rfl⟩
      walk_at "r"
      refine ⟨_, _, rfl, ha, ok.a, ?_⟩
      walk_at "r"
      refine ⟨_, _, rfl, hb, ok.b, ?_⟩
      walk_at "r"
      refine ⟨_, _, rfl, hr', ok.r, ?_⟩
      walk_at "r"
      refine ⟨_, _, _, _, rfl, ha, hb, bd.a, bd.b, trivial, fun H2 x1 s1 h1 => ?_⟩
      walk_at "r"
      refine ⟨_, _, rfl, hr'.same s1, bd.r, fun H3 x2 s2 h2 => ?_⟩
      walk_at "r"
      refine eqF (h1.same s2) h2 ?_
      rw [decide_eq_true ok.e]
      exact q _ ((sm.trans s1).trans s2)
def sp_is_row : Sp := fun vs H Q _ => ∃ L xs, vs = [.ref L] ∧ (H L = some (.lst xs) ∨ H L = some (.tup xs)) ∧ ∀ H', Same H H' → Q (.bl true) H'
theorem ok_is_row (T : Txt K mg f_is_integer f_is_row f_is_fraction f_is_some f_multiplied f_squared f_is_stall f_across f_hold_of f_is_index f_is_step f_end_of f_is_walk f_is_ring f_is_uneven f_is_uneven_ring f_l_hand f_l_draw f_l_gcd f_l_frac f_l_times f_l_over f_l_some f_l_shuffled f_l_stall f_l_stalls f_l_sizes f_l_whole f_l_is_flag f_l_is_uneven f_l_ring f_l_back f_l_bent f_law f_Web_init f_Web_eq c_Web c_ONE d_is_integer d_is_row d_is_fraction d_is_some d_multiplied d_squared d_is_stall d_across d_hold_of d_is_index d_is_step d_end_of d_is_walk d_is_ring d_is_uneven d_is_uneven_ring d_l_hand d_l_draw d_l_gcd d_l_frac d_l_times d_l_over d_l_some d_l_shuffled d_l_stall d_l_stalls d_l_sizes d_l_whole d_l_is_flag d_l_is_uneven d_l_ring d_l_back d_l_bent d_law d_Web_init d_Web_eq) : FnOk P w K mg base CX0 1 f_is_row d_is_row ["thing"] sp_is_row := by
  refine T.F_is_row.ok sc_is_row (fun vs H Q E h => ?_) (fun cdv A outer s H vs Q E hr h => ?_)
  · obtain ⟨L, xs, rfl, _⟩ := h
    rfl
  · obtain ⟨L, xs, rfl, h, q⟩ := h
    refine ⟨_, (pss_one (ps_ret (pe_callB call_isiT (by rfl) T.z_isinstance (by decide +kernel) (pa_cons (pv 0) (pa_cons (pe_tup (pa_cons (pe_bltn (v := .ty "list") (u := .type "list") (by rfl) T.z_list (by decide +kernel) rfl) (pa_cons (pe_bltn (v := .ty "tuple") (u := .type "tuple") (by rfl) T.z_tuple (by decide +kernel) rfl) pa_nil))) pa_nil))))), ?_⟩
    walk_at "r"
    intro p np
    walk_at "r"
    rcases h with h | h
    · refine ⟨_, _, _, _, _, true, rfl, upd_same, .cons (.ty _) (.cons (.ty _) .nil), .base (.lst (same_upd np _ _ h)), kitAny_cons (b := true) (kit_ty (by decide +kernel)) (fun z => Bool.noConfusion z) (fun _ => rfl), ?_⟩
      exact q _ (same_upd np)
    · refine ⟨_, _, _, _, _, true, rfl, upd_same, .cons (.ty _) (.cons (.ty _) .nil), .base (.tup (same_upd np _ _ h)), kitAny_cons (b := false) (kit_ty (by decide +kernel)) (fun _ => kitAny_cons (b := true) (kit_ty (by decide +kernel)) (fun z => Bool.noConfusion z) (fun _ => rfl)) (fun z => Bool.noConfusion z), ?_⟩
      exact q _ (same_upd np)
end
end My
namespace My
open PySem PySem.Spec PyProof.Rows L2
variable {K : PySem.W.Frag}
section
variable {P : Program} {w : World} {K : PySem.W.Frag} {mg : Str → Option Value} {base : Heap} {f_is_integer f_is_row f_is_fraction f_is_some f_multiplied f_squared f_is_stall f_across f_hold_of f_is_index f_is_step f_end_of f_is_walk f_is_ring f_is_uneven f_is_uneven_ring f_l_hand f_l_draw f_l_gcd f_l_frac f_l_times f_l_over f_l_some f_l_shuffled f_l_stall f_l_stalls f_l_sizes f_l_whole f_l_is_flag f_l_is_uneven f_l_ring f_l_back f_l_bent f_law f_Web_init f_Web_eq c_Web c_ONE : Addr} {d_is_integer d_is_row d_is_fraction d_is_some d_multiplied d_squared d_is_stall d_across d_hold_of d_is_index d_is_step d_end_of d_is_walk d_is_ring d_is_uneven d_is_uneven_ring d_l_hand d_l_draw d_l_gcd d_l_frac d_l_times d_l_over d_l_some d_l_shuffled d_l_stall d_l_stalls d_l_sizes d_l_whole d_l_is_flag d_l_is_uneven d_l_ring d_l_back d_l_bent d_law d_Web_init d_Web_eq : FuncData}
/-- what Web(n, stalls) makes of right stalls -/
def sp_web (K : PySem.W.Frag) (C : Addr) : Sp := fun vs H Q _ => ∃ (p dx L : Addr) (n : Nat) (xs : List V) (ss : List Stl), vs = [.ref p, .int (n : Nat), .ref L] ∧ H p = some (.ins C dx []) ∧ (H L = some (.lst xs) ∨ H L = some (.tup xs)) ∧ 1 ≤ n ∧ n ≤ 8 ∧ xs.length ≤ 16 ∧
  Sts K H xs ss ∧ (∀ s ∈ ss, OkSt n s ∧ BdSt 4000 s) ∧ ∀ H', IsWeb K C H' (.ref p) n ss → (∀ b o, H b = some o → b ≠ p → H' b = some o) → Q .non H'
theorem ok_Web_init (T : Txt K mg f_is_integer f_is_row f_is_fraction f_is_some f_multiplied f_squared f_is_stall f_across f_hold_of f_is_index f_is_step f_end_of f_is_walk f_is_ring f_is_uneven f_is_uneven_ring f_l_hand f_l_draw f_l_gcd f_l_frac f_l_times f_l_over f_l_some f_l_shuffled f_l_stall f_l_stalls f_l_sizes f_l_whole f_l_is_flag f_l_is_uneven f_l_ring f_l_back f_l_bent f_law f_Web_init f_Web_eq c_Web c_ONE d_is_integer d_is_row d_is_fraction d_is_some d_multiplied d_squared d_is_stall d_across d_hold_of d_is_index d_is_step d_end_of d_is_walk d_is_ring d_is_uneven d_is_uneven_ring d_l_hand d_l_draw d_l_gcd d_l_frac d_l_times d_l_over d_l_some d_l_shuffled d_l_stall d_l_stalls d_l_sizes d_l_whole d_l_is_flag d_l_is_uneven d_l_ring d_l_back d_l_bent d_law d_Web_init d_Web_eq) : FnOk P w K mg base CX0 5 f_Web_init d_Web_init ["self", "wares", "stalls"] (sp_web K c_Web) := by
  have G_is_integer : FnOk P w K mg base CX0 1 f_is_integer d_is_integer ["thing"] sp_is_integer := ok_is_integer T
  have G_is_row : FnOk P w K mg base CX0 1 f_is_row d_is_row ["thing"] sp_is_row := ok_is_row T
  have G_is_stall : FnOk P w K mg base CX0 4 f_is_stall d_is_stall ["wares", "thing"] (sp_is_stall K) := ok_is_stall T
  refine T.F_Web_init.ok sc_Web_init (fun vs H Q E h => ?_) (fun cdv A outer s H vs Q E hr h => ?_)
  · obtain ⟨p, dx, L, n, xs, ss, rfl, _⟩ := h
    rfl
  · obtain ⟨p, dx, L, n, xs, ss, rfl, hp, hL, hn1, hn8, hlen, hss, hok, q⟩ := h
    refine ⟨_, (pss_cons (ps_if (PW.pt (pw_or (pt_not (pt_val (pe_call G_is_integer (hr.mono (by decide)) (by rfl) T.g_is_integer T.k_is_integer T.b_is_integer .nil pass0 (pa_cons (pv 1) pa_nil)))) (pw_or1 (pt_not (pt_chain op_le op_le pe_int (pv 1) (C8.pe_gc (by rfl) T.v_MOST_WARES))))))
        (pss_one ps_never)
        pss_nil)
      (pss_cons (ps_if (PW.pt (pw_or (pt_not (pt_val (pe_call G_is_row (hr.mono (by decide)) (by rfl) T.g_is_row T.k_is_row T.b_is_row .nil pass0 (pa_cons (pv 2) pa_nil)))) (pw_or1 (pt_cmpR op_gt (pe_callB call_lenN (by rfl) T.z_len (by decide +kernel) (pa_cons (pv 2) pa_nil)) (C8.pe_gc (by rfl) T.v_MOST_STALLS) (nomark _)))))
        (pss_one ps_never)
        pss_nil)
      (pss_cons (ps_for PassesOwn.never rfl (pi_enumX (by rfl) T.z_enumerate (pa_cons (pv 2) pa_nil)) (pg_tup rfl (pgs_cons (pg_name (i := 3) sc_Web_init.nd rfl (by first | exact Or.inl rfl | exact Or.inr rfl)) (pgs_cons (pg_name (i := 4) sc_Web_init.nd rfl (by first | exact Or.inl rfl | exact Or.inr rfl)) pgs_nil)))
        (pss_one (ps_if (pt_not (pt_val (pe_call G_is_stall (hr.mono (by decide)) (by rfl) T.g_is_stall T.k_is_stall T.b_is_stall .nil pass0 (pa_cons (pv 1) (pa_cons (pv 4) pa_nil)))))
            (pss_one ps_never)
            pss_nil)))
      (pss_cons (ps_fld (pv 0) (pv 1) rfl)
      (pss_one (ps_fld (pv 0) (pe_callTy call_tuple_of (by rfl) T.z_tuple (by decide +kernel) (pa_cons (pv 2) pa_nil)) rfl)))))), ?_⟩
    walk_at "r"
    refine ⟨_, rfl, ?_⟩
    walk_at "r"
    refine ⟨_, _, rfl, hL, fun H1 s1 => ?_⟩
    have hL1 : H1 L = some (.lst xs) ∨ H1 L = some (.tup xs) := hL.imp (fun h => s1 _ _ h) fun h => s1 _ _ h
    have hSq : ∀ {H2 : Hp}, Same H1 H2 → SqL K H2 L xs ∨ SqT K H2 L xs := fun f => hL1.imp (fun h => .of (f _ _ h)) fun h => .of (f _ _ h)
    walk_at "r"
    refine ⟨L, xs, rfl, hSq (Same.refl _), ?_⟩
    walk_at "r"
    refine ⟨L, xs, rfl, ?_⟩
    have nL : L ≠ p := fun z => by
      rw [z, hp] at hL
      rcases hL with z | z <;> cases z
    rcases hL1 with h | h
    · refine .inl ⟨.of h, ?_⟩
      refine for_enum (K := K) (a := L) (xs := xs) (fun i σ H' => ∃ t3 t4, σ = [some (.ref p), some (.int (n : Nat)), some (.ref L), t3, t4] ∧ Same H1 H') ⟨_, _, rfl, Same.refl _⟩ ?_ ?_ ?_
      · rintro i σ H' _ ⟨t3, t4, rfl, s'⟩
        exact .of (s' _ _ h)
      · rintro i x T2 σ H' hx ⟨t3, t4, rfl, s'⟩ nT
        obtain ⟨s0, hs0, hst⟩ := hss.at hx
        have sm := same_upd (o := .tup [.int (i : Nat), x]) nT
        obtain ⟨ok0, bd0⟩ := hok _ (List.mem_of_getElem? hs0)
        walk_at "r"
        refine ⟨n, x, s0, rfl, hst.same ((s1.trans s').trans sm), ok0, bd0, fun H3 s3 => ?_⟩
        walk_at "r"
        exact ⟨_, _, rfl, (s'.trans sm).trans s3⟩
      · rintro σ H2 ⟨t3, t4, rfl, s'⟩
        have hp2 := s' _ _ (s1 _ _ hp)
        have hL2 := s' _ _ h
        have k2 := s1.trans s'
        walk_at "r"
        refine ⟨_, _, _, _, rfl, hp2, T.w_Web.it.cl, T.n_Web_wares, (by decide), ?_⟩
        walk_at "r"
        refine ⟨_, _, rfl, .inl ⟨.of ((upd_ne nL).trans hL2), fun l nl => ?_⟩⟩
        have hlp : l ≠ p := fun z => by
          rw [z, upd_same] at nl
          cases nl
        have nl2 : H2 l = none := by
          rw [upd_ne hlp] at nl
          exact nl
        walk_at "r"
        refine ⟨_, _, _, _, rfl, (upd_ne (Ne.symm hlp)).trans upd_same, T.w_Web.it.cl, T.n_Web_stalls, (by show 1 < 1000; decide), ?_⟩
        have keep : ∀ b o, H b = some o → b ≠ p → upd (upd (upd H2 p (.ins c_Web dx (putF "wares" (.int (n : Nat)) []))) l (.tup xs)) p (.ins c_Web dx (putF "stalls" (.ref l) (putF "wares" (.int (n : Nat)) []))) b = some o := fun b o hb hbp => by
          have hbl : b ≠ l := fun z => by
            rw [← z, k2 _ _ hb] at nl2
            cases nl2
          rw [upd_ne hbp, upd_ne hbl, upd_ne hbp]
          exact k2 _ _ hb
        refine q _ ⟨p, dx, l, xs, rfl, by rw [upd_same, wF_new], (upd_ne hlp).trans upd_same, hss.ts fun b ys hb => keep b _ hb ?_⟩ keep
        intro z
        rw [z, hp] at hb
        cases hb
    · refine .inr ⟨.of h, ?_⟩
      refine for_enumT (K := K) (a := L) (xs := xs) (fun i σ H' => ∃ t3 t4, σ = [some (.ref p), some (.int (n : Nat)), some (.ref L), t3, t4] ∧ Same H1 H') ⟨_, _, rfl, Same.refl _⟩ ?_ ?_ ?_
      · rintro i σ H' _ ⟨t3, t4, rfl, s'⟩
        exact .of (s' _ _ h)
      · rintro i x T2 σ H' hx ⟨t3, t4, rfl, s'⟩ nT
        obtain ⟨s0, hs0, hst⟩ := hss.at hx
        have sm := same_upd (o := .tup [.int (i : Nat), x]) nT
        obtain ⟨ok0, bd0⟩ := hok _ (List.mem_of_getElem? hs0)
        walk_at "r"
        refine ⟨n, x, s0, rfl, hst.same ((s1.trans s').trans sm), ok0, bd0, fun H3 s3 => ?_⟩
        walk_at "r"
        exact ⟨_, _, rfl, (s'.trans sm).trans s3⟩
      · rintro σ H2 ⟨t3, t4, rfl, s'⟩
        have hp2 := s' _ _ (s1 _ _ hp)
        have hL2 := s' _ _ h
        have k2 := s1.trans s'
        walk_at "r"
        refine ⟨_, _, _, _, rfl, hp2, T.w_Web.it.cl, T.n_Web_wares, (by decide), ?_⟩
        walk_at "r"
        refine ⟨_, _, rfl, .inr ⟨.of ((upd_ne nL).trans hL2), ?_⟩⟩
        walk_at "r"
        refine ⟨_, _, _, _, rfl, upd_same, T.w_Web.it.cl, T.n_Web_stalls, (by show 1 < 1000; decide), ?_⟩
        have keep : ∀ b o, H b = some o → b ≠ p → upd (upd H2 p (.ins c_Web dx (putF "wares" (.int (n : Nat)) []))) p (.ins c_Web dx (putF "stalls" (.ref L) (putF "wares" (.int (n : Nat)) []))) b = some o := fun b o hb hbp => by
          rw [upd_ne hbp, upd_ne hbp]
          exact k2 _ _ hb
        refine q _ ⟨p, dx, L, xs, rfl, by rw [upd_same, wF_new], (upd_ne nL).trans ((upd_ne nL).trans hL2), hss.ts fun b ys hb => keep b _ hb ?_⟩ keep
        intro z
        rw [z, hp] at hb
        cases hb
end
end My
namespace My
open PySem PySem.Spec PyProof.Rows L2
variable {K : PySem.W.Frag}
theorem sq_pos {r : Rat} (h : 0 < r) : 0 < r * r := Rat.mul_pos h h
theorem ne_of_pos {r : Rat} (h : 0 < r) : r ≠ 0 := fun z => by
  rw [z] at h
  exact absurd h (by decide)
section
variable {P : Program} {w : World} {K : PySem.W.Frag} {mg : Str → Option Value} {base : Heap} {f_is_integer f_is_row f_is_fraction f_is_some f_multiplied f_squared f_is_stall f_across f_hold_of f_is_index f_is_step f_end_of f_is_walk f_is_ring f_is_uneven f_is_uneven_ring f_l_hand f_l_draw f_l_gcd f_l_frac f_l_times f_l_over f_l_some f_l_shuffled f_l_stall f_l_stalls f_l_sizes f_l_whole f_l_is_flag f_l_is_uneven f_l_ring f_l_back f_l_bent f_law f_Web_init f_Web_eq c_Web c_ONE : Addr} {d_is_integer d_is_row d_is_fraction d_is_some d_multiplied d_squared d_is_stall d_across d_hold_of d_is_index d_is_step d_end_of d_is_walk d_is_ring d_is_uneven d_is_uneven_ring d_l_hand d_l_draw d_l_gcd d_l_frac d_l_times d_l_over d_l_some d_l_shuffled d_l_stall d_l_stalls d_l_sizes d_l_whole d_l_is_flag d_l_is_uneven d_l_ring d_l_back d_l_bent d_law d_Web_init d_Web_eq : FuncData}
def sp_stall_led (K : PySem.W.Frag) : Sp := fun vs H Q _ => ∃ v s vx x, vs = [v, vx] ∧ IsSt K H v s ∧ IsF K H vx x ∧ Bd 1900 s.r ∧ Bd 3900 x ∧ 0 < x ∧ ∀ H' u, Same H H' → IsSt K H' u (s.first x) → Q u H'
def sp_behind (K : PySem.W.Frag) : Sp := fun vs H Q _ => ∃ (v : V) (s : Stl) (wn : Nat) (vx : V) (x : Rat), vs = [v, .int (wn : Nat), vx] ∧ IsSt K H v s ∧ IsF K H vx x ∧ BdSt 1900 s ∧ Bd 1900 x ∧ 0 < s.a ∧ 0 < s.b ∧ 0 < x ∧ ∀ H' u, Same H H' → IsSt K H' u (s.behind wn x) → Q u H'
end
end My
namespace My
open PySem PySem.Spec PyProof.Rows L2
variable {K : PySem.W.Frag}
theorem at_some {xs : List V} {i : Nat} {x : V} (h : xs[i]? = some x) : atI xs (i : Int) = some x := atI_nat h
theorem in_pair {u v w : Nat} (h : w = u ∨ w = v) : inV (.int (w : Nat)) [V.int (u : Nat), .int (v : Nat)] = true := by
  rcases h with rfl | rfl <;> simp [inV, eqV]
section
variable {P : Program} {w : World} {K : PySem.W.Frag} {mg : Str → Option Value} {base : Heap} {f_is_integer f_is_row f_is_fraction f_is_some f_multiplied f_squared f_is_stall f_across f_hold_of f_is_index f_is_step f_end_of f_is_walk f_is_ring f_is_uneven f_is_uneven_ring f_l_hand f_l_draw f_l_gcd f_l_frac f_l_times f_l_over f_l_some f_l_shuffled f_l_stall f_l_stalls f_l_sizes f_l_whole f_l_is_flag f_l_is_uneven f_l_ring f_l_back f_l_bent f_law f_Web_init f_Web_eq c_Web c_ONE : Addr} {d_is_integer d_is_row d_is_fraction d_is_some d_multiplied d_squared d_is_stall d_across d_hold_of d_is_index d_is_step d_end_of d_is_walk d_is_ring d_is_uneven d_is_uneven_ring d_l_hand d_l_draw d_l_gcd d_l_frac d_l_times d_l_over d_l_some d_l_shuffled d_l_stall d_l_stalls d_l_sizes d_l_whole d_l_is_flag d_l_is_uneven d_l_ring d_l_back d_l_bent d_law d_Web_init d_Web_eq : FuncData}
def sp_is_index (K : PySem.W.Frag) (C : Addr) : Sp := fun vs H Q _ => ∃ (x : V) (n : Nat) (ss : List Stl) (i : Nat), vs = [x, .int (i : Nat)] ∧ IsWeb K C H x n ss ∧ i < ss.length ∧ Q (.bl true) H
theorem ok_is_index (T : Txt K mg f_is_integer f_is_row f_is_fraction f_is_some f_multiplied f_squared f_is_stall f_across f_hold_of f_is_index f_is_step f_end_of f_is_walk f_is_ring f_is_uneven f_is_uneven_ring f_l_hand f_l_draw f_l_gcd f_l_frac f_l_times f_l_over f_l_some f_l_shuffled f_l_stall f_l_stalls f_l_sizes f_l_whole f_l_is_flag f_l_is_uneven f_l_ring f_l_back f_l_bent f_law f_Web_init f_Web_eq c_Web c_ONE d_is_integer d_is_row d_is_fraction d_is_some d_multiplied d_squared d_is_stall d_across d_hold_of d_is_index d_is_step d_end_of d_is_walk d_is_ring d_is_uneven d_is_uneven_ring d_l_hand d_l_draw d_l_gcd d_l_frac d_l_times d_l_over d_l_some d_l_shuffled d_l_stall d_l_stalls d_l_sizes d_l_whole d_l_is_flag d_l_is_uneven d_l_ring d_l_back d_l_bent d_law d_Web_init d_Web_eq) : FnOk P w K mg base CX0 2 f_is_index d_is_index ["web", "thing"] (sp_is_index K c_Web) := by
  have G_is_integer : FnOk P w K mg base CX0 1 f_is_integer d_is_integer ["thing"] sp_is_integer := ok_is_integer T
  refine T.F_is_index.ok sc_is_index (fun vs H Q E h => ?_) (fun cdv A outer s H vs Q E hr h => ?_)
  · obtain ⟨x, n, ss, i, rfl, _⟩ := h
    rfl
  · obtain ⟨x, n, ss, i, rfl, ⟨p, dx, t, xs, rfl, hp, ht, hss⟩, hi, q⟩ := h
    have hl := hss.len
    refine ⟨_, (pss_one (ps_ret (pe_and (pe_call G_is_integer (hr.mono (by decide)) (by rfl) T.g_is_integer T.k_is_integer T.b_is_integer .nil pass0 (pa_cons (pv 1) pa_nil)) (pe_one (pe_chain op_le op_lt pe_int (pv 1) (pe_callB call_lenN (by rfl) T.z_len (by decide +kernel) (pa_cons (pe_fld (pv 0) rfl) pa_nil))))))), ?_⟩
    walk_at "r"
    refine ⟨_, rfl, ?_⟩
    walk_at "r"
    refine ⟨_, _, _, _, _, rfl, hp, T.w_Web.it.cl, T.n_Web_stalls, wF_stalls _ _, ?_⟩
    walk_at "r"
    rw [decide_eq_true (by omega)]
    exact q
def sp_is_move (K : PySem.W.Frag) (C : Addr) : Sp := fun vs H Q _ => ∃ (x mv : V) (n : Nat) (ss : List Stl) (i wn : Nat) (s : Stl) (y : Rat), vs = [x, mv] ∧ IsWeb K C H x n ss ∧ IsMv K H mv i wn y ∧ ss[i]? = some s ∧ (wn = s.u ∨ wn = s.v) ∧ 0 < y ∧ ∀ H', Same H H' → Q (.bl true) H'
end
end My
namespace My
open PySem PySem.Spec PyProof.Rows L2
variable {K : PySem.W.Frag}
theorem mul_div_self {k x : Rat} (h : x ≠ 0) : x * (k / x) = k := by
  rw [Rat.div_def, ← Rat.mul_assoc, Rat.mul_comm x k, Rat.mul_assoc, Rat.mul_inv_cancel x h, Rat.mul_one]
theorem div_pos' {k x : Rat} (h : 0 < k) (hx : 0 < x) : 0 < k / x := by
  rw [Rat.div_def]
  exact Rat.mul_pos h (Rat.inv_pos.mpr hx)
theorem behind_ok {n : Nat} {s : Stl} (h : OkSt n s) (wn : Nat) {y : Rat} (y0 : 0 < y) : OkSt n (s.behind wn y) := by
  have a0 := h.a
  have b0 := h.b
  have rr := sq_pos h.r
  unfold Stl.behind
  split
  · have p : 0 < s.a + y := by grind
    exact ⟨h.u, h.v, h.ne, p, div_pos' rr p, h.r, mul_div_self (ne_of_pos p)⟩
  · have p : 0 < s.b + y := by grind
    exact ⟨h.u, h.v, h.ne, div_pos' rr p, p, h.r, (Rat.mul_comm _ _).trans (mul_div_self (ne_of_pos p))⟩
theorem behind_bd {k l : Nat} {n : Nat} {s : Stl} (hs : OkSt n s) (h : BdSt k s) (wn : Nat) {y : Rat} (y0 : 0 < y) (b : Bd l y) : BdSt (3 * k + l + 1) (s.behind wn y) := by
  have a0 := hs.a
  have b0 := hs.b
  unfold Stl.behind
  split
  · have p : 0 < s.a + y := by grind
    exact ⟨(h.a.add b).mono (by omega), ((h.r.mul h.r).div (ne_of_pos p) (h.a.add b)).mono (by omega), h.r.mono (by omega)⟩
  · have p : 0 < s.b + y := by grind
    exact ⟨((h.r.mul h.r).div (ne_of_pos p) (h.b.add b)).mono (by omega), (h.b.add b).mono (by omega), h.r.mono (by omega)⟩
theorem Sts.set {H : Hp} {xs : List V} {ss : List Stl} {v : V} {s : Stl} (h : Sts K H xs ss) (hv : IsSt K H v s) (i : Nat) : Sts K H (xs.set i v) (ss.set i s) := by
  unfold Sts at *
  induction h generalizing i with
  | nil => exact .nil
  | cons h t ih =>
    cases i with
    | zero => exact .cons hv t
    | succ i => exact .cons h (ih i)
theorem set_parts {xs : List V} {i : Nat} {v : V} (h : i < xs.length) : cutV xs none (some (i : Int)) ++ [v] ++ cutV xs (some ((i : Int) + 1)) none = xs.set i v := by
  have e : ((i : Int) + 1) = ((i + 1 : Nat) : Int) := by omega
  rw [e]
  unfold cutV
  rw [HT.sIx_none, HT.sIx_none, HT.sIx_nat, HT.sIx_nat, List.set_eq_take_append_cons_drop, if_pos h]
  have m1 : min i xs.length = i := by omega
  have m2 : min (i + 1) xs.length = i + 1 := by omega
  rw [m1, m2]
  simp
  exact List.take_of_length_le (by simp)
theorem rd_catA {K : PySem.W.Frag} {H : Hp} {a b : Addr} {xs ys : List V} {Q : VK} (ha : H a = some (.tup xs)) (hb : H b = some (.tup ys)) (hl : xs.length + ys.length ≤ sizeLine)
    (q : ∀ p H', Same H H' → H' p = some (.tup (xs ++ ys)) → Q (.ref p) H') : rCatA K (.ref a) (.ref b) H Q := by
  refine ⟨a, b, xs, ys, rfl, rfl, .of ha, .of hb, hl, fun e => ?_, fun _ e => ?_, fun _ _ p np => q p _ (same_upd np) upd_same⟩
  · subst e
    exact q b H (Same.refl _) hb
  · subst e
    exact q a H (Same.refl _) (by rw [List.append_nil]; exact ha)
theorem rd_slT {K : PySem.W.Frag} {H : Hp} {a : Addr} {xs : List V} {lo hi : Option Int} {Q : VK} (ha : H a = some (.tup xs)) (hw : ¬ (HT.sIx xs.length 0 lo = 0 ∧ HT.sIx xs.length xs.length hi = xs.length))
    (q : ∀ p H', Same H H' → H' p = some (.tup (cutV xs lo hi)) → Q (.ref p) H') : rSlT K (.ref a) lo hi H Q := ⟨a, xs, rfl, .of ha, hw, fun p np => q p _ (same_upd np) upd_same⟩
/-- a web within its bounds -/
structure OkW (n k : Nat) (ss : List Stl) : Prop where
  n1 : 1 ≤ n
  n8 : n ≤ 8
  len : ss.length ≤ 16
  ok : ∀ s ∈ ss, OkSt n s ∧ BdSt k s
theorem OkW.set {n k : Nat} {ss : List Stl} (h : OkW n k ss) {s : Stl} (h1 : OkSt n s) (h2 : BdSt k s) (i : Nat) : OkW n k (ss.set i s) :=
  ⟨h.n1, h.n8, by rw [List.length_set]; exact h.len, fun t ht => by
    rcases List.mem_or_eq_of_mem_set ht with z | z
    · exact h.ok t z
    · subst z
      exact ⟨h1, h2⟩⟩
theorem BdSt.mono {k l : Nat} {s : Stl} (h : BdSt k s) (hl : k ≤ l) : BdSt l s := ⟨h.a.mono hl, h.b.mono hl, h.r.mono hl⟩
theorem OkW.mono {n k l : Nat} {ss : List Stl} (h : OkW n k ss) (hl : k ≤ l) : OkW n l ss := ⟨h.n1, h.n8, h.len, fun s hs => ⟨(h.ok s hs).1, (h.ok s hs).2.mono hl⟩⟩
end My
namespace My
open PySem PySem.Spec PyProof.Rows L2
variable {K : PySem.W.Frag}
def Stl.hold (s : Stl) (w : Nat) : Rat := if w = s.u then s.a else s.b
def Stl.at (s : Stl) (w : Nat) : Bool := decide (w = s.u) || decide (w = s.v)
def at_ (ss : List Stl) (w : Nat) : List Stl := ss.filter (·.at w)
def sumR (l : List Rat) : Rat := l.foldl (· + ·) 0
def heldAt (ss : List Stl) (w : Nat) : Rat := sumR ((at_ ss w).map (·.hold w))
def heldAll (n : Nat) (ss : List Stl) : List Rat := (List.range n).map (heldAt ss)
def Fs (K : PySem.W.Frag) (H : Hp) (ys : List V) (rs : List Rat) : Prop := Paired (IsF K H) ys rs
def IsFs (K : PySem.W.Frag) (H : Hp) (x : V) (rs : List Rat) : Prop := ∃ t ys, x = .ref t ∧ H t = some (.tup ys) ∧ Fs K H ys rs
theorem Fs.same {H H' : Hp} {ys : List V} {rs : List Rat} (s : Same H H') (h : Fs K H ys rs) : Fs K H' ys rs := Paired.mapP h fun _ _ h => h.same s
theorem IsFs.same {H H' : Hp} {x : V} {rs : List Rat} (s : Same H H') (h : IsFs K H x rs) : IsFs K H' x rs := by
  obtain ⟨t, ys, e, h1, h2⟩ := h
  exact ⟨t, ys, e, s _ _ h1, h2.same s⟩
theorem Fs.len {H : Hp} {ys : List V} {rs : List Rat} (h : Fs K H ys rs) : ys.length = rs.length := Paired.length h
theorem Paired.at {α : Type} {F : V → α → Prop} {xs : List V} {as : List α} (h : Paired F xs as) : ∀ {i : Nat} {x : V}, xs[i]? = some x → ∃ a, as[i]? = some a ∧ F x a := by
  induction h with
  | nil =>
    intro i x e
    simp at e
  | cons h t ih =>
    intro i x e
    match i with
    | 0 =>
      simp at e
      subst e
      exact ⟨_, rfl, h⟩
    | i + 1 => exact ih (by simpa using e)
theorem Paired.get' {α : Type} {F : V → α → Prop} {xs : List V} {as : List α} (h : Paired F xs as) : ∀ {i : Nat} {a : α}, as[i]? = some a → ∃ x, xs[i]? = some x ∧ F x a := by
  induction h with
  | nil =>
    intro i x e
    simp at e
  | cons h t ih =>
    intro i x e
    match i with
    | 0 =>
      simp at e
      subst e
      exact ⟨_, rfl, h⟩
    | i + 1 => exact ih (by simpa using e)
theorem stl_at_in (s : Stl) (w : Nat) : inV (.int (w : Nat)) [V.int (s.u : Nat), .int (s.v : Nat)] = s.at w := by
  have e : ∀ k : Nat, eqV (.int (k : Nat)) (.int (w : Nat)) = decide (w = k) := fun k => by
    rw [Bool.eq_iff_iff]
    simp [eqV]
    omega
  show (eqV _ _ || (eqV _ _ || false)) = _
  rw [e, e, Bool.or_false]
  rfl
/-- bounds of sums -/
theorem sumR_snoc (l : List Rat) (r : Rat) : sumR (l ++ [r]) = sumR l + r := by
  unfold sumR
  rw [List.foldl_append]
  rfl
theorem bd_zero {k : Nat} (h : 0 < k) : Bd k 0 := ⟨Nat.two_pow_pos k, Nat.one_lt_two_pow (by omega)⟩
/-- sizes of sums, each item with its own bits -/
def BR (rs : List Rat) (M : Nat) : Prop := ∃ ks : List Nat, Paired (fun r k => Bd k r) rs ks ∧ 1 + (ks.map (· + 1)).sum ≤ M
theorem fold_bd {rs : List Rat} {ks : List Nat} (h : Paired (fun r k => Bd k r) rs ks) : ∀ (a : Rat) (A : Nat), Bd A a → Bd (A + (ks.map (· + 1)).sum) (rs.foldl (· + ·) a) := by
  induction h with
  | nil =>
    intro a A ha
    exact ha
  | cons h t ih =>
    intro a A ha
    refine (ih _ _ (ha.add h)).mono ?_
    rw [List.map_cons, List.sum_cons]
    omega
theorem BR.sum {rs : List Rat} {M : Nat} (h : BR rs M) : Bd M (sumR rs) := by
  obtain ⟨ks, h, hm⟩ := h
  exact (fold_bd h 0 1 (bd_zero (by decide))).mono hm
theorem BR.take {rs : List Rat} {M : Nat} (h : BR rs M) (i : Nat) : BR (rs.take i) M := by
  obtain ⟨ks, h, hm⟩ := h
  refine ⟨ks.take i, ?_, Nat.le_trans (Nat.add_le_add_left ?_ 1) hm⟩
  · clear hm
    induction h generalizing i with
    | nil => cases i <;> exact .nil
    | cons h t ih =>
      cases i with
      | zero => exact .nil
      | succ i => exact .cons h (ih i)
  · clear hm h
    induction ks generalizing i with
    | nil => simp
    | cons k ks ih =>
      cases i with
      | zero => simp
      | succ i =>
        rw [List.take_succ_cons, List.map_cons, List.map_cons, List.sum_cons, List.sum_cons]
        have := ih i
        omega
theorem BR.mem {rs : List Rat} {M : Nat} (h : BR rs M) {r : Rat} (hr : r ∈ rs) : Bd M r := by
  obtain ⟨ks, h, hm⟩ := h
  induction h generalizing M with
  | nil => simp at hr
  | cons h t ih =>
    rw [List.map_cons, List.sum_cons] at hm
    rcases List.mem_cons.mp hr with rfl | hr
    · exact h.mono (by omega)
    · exact ih hr (by omega)
theorem take_at {α : Type} {l : List α} {i : Nat} {a : α} (h : l[i]? = some a) : l.take (i + 1) = l.take i ++ [a] := by
  rw [List.take_add_one, h]
  rfl
theorem IsF.c0 {p : Addr} {H : Hp} (h : SqT K (fun _ => none) p [.int 0, .int 1]) : IsF K H (.ref p) 0 := ⟨p, rfl, .inr h⟩
theorem hold_bd {k : Nat} {s : Stl} (h : BdSt k s) (w : Nat) : Bd k (s.hold w) := by
  unfold Stl.hold
  split
  · exact h.a
  · exact h.b
/-- sizes of stalls, each with its own bits -/
def BL (ss : List Stl) (M : Nat) : Prop := ∃ ks : List Nat, Paired (fun s k => BdSt k s) ss ks ∧ 1 + (ks.map (· + 1)).sum ≤ M
theorem BL.mono {ss : List Stl} {M N : Nat} (h : BL ss M) (l : M ≤ N) : BL ss N := h.imp fun _ h => ⟨h.1, Nat.le_trans h.2 l⟩
theorem bl_of {k : Nat} {ss : List Stl} (h16 : ss.length ≤ 16) (h : ∀ s ∈ ss, BdSt k s) : BL ss (16 * (k + 1) + 1) := by
  refine ⟨ss.map fun _ => k, ?_, ?_⟩
  · clear h16
    induction ss with
    | nil => exact .nil
    | cons s ss ih => exact .cons (h s (by simp)) (ih fun t ht => h t (by simp [ht]))
  · have e : ((ss.map fun _ => k).map (· + 1)).sum = ss.length * (k + 1) := by
      clear h h16
      induction ss with
      | nil => simp
      | cons s ss ih =>
        rw [List.map_cons, List.map_cons, List.sum_cons, ih, List.length_cons, Nat.add_mul]
        omega
    rw [e]
    have := Nat.mul_le_mul_right (k + 1) h16
    omega
theorem BL.at {ss : List Stl} {M : Nat} (h : BL ss M) (w : Nat) : BR ((at_ ss w).map (·.hold w)) M := by
  obtain ⟨ks, h, hm⟩ := h
  have key : ∃ js : List Nat, Paired (fun r k => Bd k r) ((at_ ss w).map (·.hold w)) js ∧ (js.map (· + 1)).sum ≤ (ks.map (· + 1)).sum := by
    clear hm
    induction h with
    | nil => exact ⟨[], .nil, Nat.le_refl _⟩
    | @cons s k ss ks h t ih =>
      obtain ⟨js, h1, h2⟩ := ih
      unfold at_ at *
      rw [List.filter_cons]
      split
      · refine ⟨k :: js, .cons (hold_bd h w) h1, ?_⟩
        rw [List.map_cons, List.map_cons, List.sum_cons, List.sum_cons]
        omega
      · refine ⟨js, h1, ?_⟩
        rw [List.map_cons, List.sum_cons]
        omega
  obtain ⟨js, h1, h2⟩ := key
  exact ⟨js, h1, by omega⟩
theorem BL.held {ss : List Stl} {M : Nat} (h : BL ss M) (w : Nat) : Bd M (heldAt ss w) := (h.at w).sum
theorem upTo_bind {α β : Type} (g : α → Option β) : ∀ l : List α, upTo (fun i => (l[i]?).bind g) l.length = l.filterMap g
  | [] => rfl
  | a :: l => by
    have ih := upTo_bind g l
    unfold upTo at *
    rw [List.length_cons, List.range_succ_eq_map, List.filterMap_cons, List.filterMap_map]
    have e : ((fun i => ((a :: l)[i]?).bind g) ∘ Nat.succ) = fun i => (l[i]?).bind g := rfl
    rw [e, ih, List.filterMap_cons]
    rfl
theorem upTo_filter (p : Stl → Bool) (ss : List Stl) : upTo (fun i => (ss[i]?).filter p) ss.length = ss.filter p := by
  have e : (fun i : Nat => (ss[i]?).filter p) = fun i : Nat => (ss[i]?).bind (Option.guard p) := by
    funext i
    cases ss[i]? <;> simp [Option.filter, Option.guard]
  rw [e, upTo_bind, List.filterMap_eq_filter]
theorem upTo_map {α : Type} {n : Nat} (g : Nat → α) : upTo (fun i => some (g i)) n = (List.range n).map g := by
  unfold upTo
  induction List.range n with
  | nil => rfl
  | cons x l ih => simp [ih]
theorem upTo_list {α β : Type} (l : List α) (g : α → β) : upTo (fun i => (l[i]?).map g) l.length = l.map g := by
  have e : (fun i : Nat => (l[i]?).map g) = fun i : Nat => (l[i]?).bind (fun a => some (g a)) := by
    funext i
    cases l[i]? <;> rfl
  rw [e, upTo_bind]
  exact congrFun (List.filterMap_eq_map (f := g)) l
section
variable {P : Program} {w : World} {K : PySem.W.Frag} {mg : Str → Option Value} {base : Heap} {f_is_integer f_is_row f_is_fraction f_is_some f_multiplied f_squared f_is_stall f_across f_hold_of f_is_index f_is_step f_end_of f_is_walk f_is_ring f_is_uneven f_is_uneven_ring f_l_hand f_l_draw f_l_gcd f_l_frac f_l_times f_l_over f_l_some f_l_shuffled f_l_stall f_l_stalls f_l_sizes f_l_whole f_l_is_flag f_l_is_uneven f_l_ring f_l_back f_l_bent f_law f_Web_init f_Web_eq c_Web c_ONE : Addr} {d_is_integer d_is_row d_is_fraction d_is_some d_multiplied d_squared d_is_stall d_across d_hold_of d_is_index d_is_step d_end_of d_is_walk d_is_ring d_is_uneven d_is_uneven_ring d_l_hand d_l_draw d_l_gcd d_l_frac d_l_times d_l_over d_l_some d_l_shuffled d_l_stall d_l_stalls d_l_sizes d_l_whole d_l_is_flag d_l_is_uneven d_l_ring d_l_back d_l_bent d_law d_Web_init d_Web_eq : FuncData}
def sp_summed (K : PySem.W.Frag) : Sp := fun vs H Q _ => ∃ (L : Addr) (ys : List V) (rs : List Rat) (M : Nat), vs = [.ref L] ∧ H L = some (.lst ys) ∧ Fs K H ys rs ∧ BR rs M ∧ M ≤ 4000 ∧ ∀ H' v, Same H H' → IsF K H' v (sumR rs) → Q v H'
def sp_hold_of (K : PySem.W.Frag) : Sp := fun vs H Q _ => ∃ (v : V) (s : Stl) (wn : Nat), vs = [v, .int (wn : Nat)] ∧ IsSt K H v s ∧ ∀ x, IsF K H x (s.hold wn) → Q x H
theorem ok_hold_of (T : Txt K mg f_is_integer f_is_row f_is_fraction f_is_some f_multiplied f_squared f_is_stall f_across f_hold_of f_is_index f_is_step f_end_of f_is_walk f_is_ring f_is_uneven f_is_uneven_ring f_l_hand f_l_draw f_l_gcd f_l_frac f_l_times f_l_over f_l_some f_l_shuffled f_l_stall f_l_stalls f_l_sizes f_l_whole f_l_is_flag f_l_is_uneven f_l_ring f_l_back f_l_bent f_law f_Web_init f_Web_eq c_Web c_ONE d_is_integer d_is_row d_is_fraction d_is_some d_multiplied d_squared d_is_stall d_across d_hold_of d_is_index d_is_step d_end_of d_is_walk d_is_ring d_is_uneven d_is_uneven_ring d_l_hand d_l_draw d_l_gcd d_l_frac d_l_times d_l_over d_l_some d_l_shuffled d_l_stall d_l_stalls d_l_sizes d_l_whole d_l_is_flag d_l_is_uneven d_l_ring d_l_back d_l_bent d_law d_Web_init d_Web_eq) : FnOk P w K mg base CX0 1 f_hold_of d_hold_of ["stall", "ware"] (sp_hold_of K) := by
  refine T.F_hold_of.ok sc_hold_of (fun vs H Q E h => ?_) (fun cdv A outer s H vs Q E hr h => ?_)
  · obtain ⟨v, s, wn, rfl, _⟩ := h
    rfl
  · obtain ⟨v, s, wn, rfl, ⟨p, va, vb, vr, rfl, hp, ha, hb, hr'⟩, q⟩ := h
    refine ⟨_, (pss_cons (ps_if (pt_cmpR op_eq (pv 1) (pe_ix ix_tup (pv 0) pe_int (fun _ _ => rfl)) (nomark _))
        (pss_one (ps_ret (pe_ix ix_tup (pv 0) pe_int (fun _ _ => rfl))))
        pss_nil)
      (pss_one (ps_ret (pe_ix ix_tup (pv 0) pe_int (fun _ _ => rfl))))), ?_⟩
    walk_at "r"
    walk_at "if"
    · rename_i e
      rw [show s.hold wn = s.a from if_pos (by omega)] at q
      walk_at "r"
      exact q _ ha
    · rename_i e
      rw [show s.hold wn = s.b from if_neg (by omega)] at q
      walk_at "r"
      exact q _ hb
def sp_stalls_of (K : PySem.W.Frag) : Sp := fun vs H Q _ => ∃ (t : Addr) (xs : List V) (ss : List Stl) (wn : Nat), vs = [.int (wn : Nat), .ref t] ∧ H t = some (.tup xs) ∧ Sts K H xs ss ∧ ss.length ≤ 16 ∧
  ∀ H' L ys, Same H H' → H' L = some (.lst ys) → Sts K H' ys (at_ ss wn) → Q (.ref L) H'
def sp_kept_of (K : PySem.W.Frag) : Sp := fun vs H Q _ => ∃ (t : Addr) (xs : List V) (ss : List Stl) (wn M : Nat), vs = [.int (wn : Nat), .ref t] ∧ H t = some (.tup xs) ∧ Sts K H xs ss ∧ ss.length ≤ 16 ∧ BL ss M ∧ M ≤ 4000 ∧
  ∀ H' v, Same H H' → IsF K H' v (heldAt ss wn) → Q v H'
def sp_held (K : PySem.W.Frag) (C : Addr) : Sp := fun vs H Q _ => ∃ (x : V) (n : Nat) (ss : List Stl) (M : Nat), vs = [x] ∧ IsWeb K C H x n ss ∧ n ≤ 8 ∧ ss.length ≤ 16 ∧ BL ss M ∧ M ≤ 4000 ∧ ∀ H' v, Same H H' → IsFs K H' v (heldAll n ss) → Q v H'
end
end My
namespace My
open PySem PySem.Spec PyProof.Rows L2
variable {K : PySem.W.Frag}
/-! ### webs compared -/
instance decStl : DecidableEq Stl := fun s t => decidable_of_decidable_of_iff (p := s.u = t.u ∧ s.v = t.v ∧ s.a = t.a ∧ s.b = t.b ∧ s.r = t.r) (by
  obtain ⟨u, v, a, b, r⟩ := s
  obtain ⟨u', v', a', b', r'⟩ := t
  simp only [Stl.mk.injEq])
def stD (s : Stl) : PyData := .tuple [.int (s.u : Nat), .int (s.v : Nat), frD s.a, frD s.b, frD s.r]
theorem stD_eqv (s t : Stl) : PyData.eqv (stD s) (stD t) = decide (s = t) := by
  have e : PyData.eqv (stD s) (stD t) = (decide ((s.u : Int) = t.u) && (decide ((s.v : Int) = t.v) && (decide (s.a = t.a) && (decide (s.b = t.b) && decide (s.r = t.r))))) := by
    unfold stD
    rw [PyData.eqv, PyData.eqvAll, PyData.eqvAll, PyData.eqvAll, PyData.eqvAll, PyData.eqvAll, PyData.eqvAll, frD_eqv, frD_eqv, frD_eqv]
    simp only [PyData.eqv, Bool.and_true, Bool.beq_eq_decide_eq]
  rw [e, Bool.eq_iff_iff]
  simp only [Bool.and_eq_true, decide_eq_true_eq]
  obtain ⟨u, v, a, b, r⟩ := s
  obtain ⟨u', v', a', b', r'⟩ := t
  simp only [Stl.mk.injEq]
  constructor <;> rintro ⟨h1, h2, h3, h4, h5⟩ <;> exact ⟨by omega, by omega, h3, h4, h5⟩
theorem sts_eqv : ∀ ss tt : List Stl, PyData.eqvAll (ss.map stD) (tt.map stD) = decide (ss = tt)
  | [], [] => rfl
  | [], _ :: _ => rfl
  | _ :: _, [] => rfl
  | s :: ss, t :: tt => by
    show (PyData.eqv (stD s) (stD t) && PyData.eqvAll (ss.map stD) (tt.map stD)) = _
    rw [stD_eqv, sts_eqv ss tt, Bool.eq_iff_iff]
    simp
theorem sts_lay : ∀ ss : List Stl, PyData.canLayAll0 (ss.map stD) = true ∧ PyData.depthAll (ss.map stD) ≤ 2
  | [] => ⟨rfl, by decide⟩
  | s :: ss => by
    obtain ⟨h1, h2⟩ := sts_lay ss
    refine ⟨?_, ?_⟩
    · show (PyData.canLay0 (stD s) && PyData.canLayAll0 (ss.map stD)) = true
      rw [h1]
      rfl
    · show max (PyData.depth (stD s)) (PyData.depthAll (ss.map stD)) ≤ 2
      have : PyData.depth (stD s) = 2 := rfl
      omega
theorem sts_shaped (ss : List Stl) : SeqAt.shaped (.tuple (ss.map stD)) = true := by
  obtain ⟨h1, h2⟩ := sts_lay ss
  unfold SeqAt.shaped
  rw [Bool.and_eq_true]
  refine ⟨h1, decide_eq_true ?_⟩
  show PyData.depthAll (ss.map stD) + 1 ≤ 64
  omega
theorem IsSt.dp {K : PySem.W.Frag} {H : Hp} {x : V} {s : Stl} (h : IsSt K H x s) : Dp K H x (stD s) := by
  obtain ⟨p, va, vb, vr, rfl, h, a, b, r⟩ := h
  exact .tup (.of h) (.cons (.int _) (.cons (.int _) (.cons a.dp (.cons b.dp (.cons r.dp .nil)))))
theorem Sts.dp {K : PySem.W.Frag} {H : Hp} {t : Addr} {xs : List V} {ss : List Stl} (h : Sts K H xs ss) (ht : H t = some (.tup xs)) : Dp K H (.ref t) (.tuple (ss.map stD)) := by
  refine .tup (.of ht) ?_
  clear ht
  unfold Sts at h
  induction h with
  | nil => exact .nil
  | cons h t ih => exact .cons h.dp ih
end My
namespace My
open PySem PySem.Spec PyProof.Rows L2
/-! ### x != y of instances with an own == and no own != -/
section
variable {prog : Program} {w : World} {A : Around} {E : Value → Shared → Prop} {s : Shared} {K : PySem.W.Frag} {x y C f : Addr} {ox : Obj} {od : Option Obj}
theorem boundB {name : Str} {id B : String} {args : List Value} {Q : Option Value → Shared → Prop} (X : K.In s.heap) (I : PySem.W.InstAt s.heap x ox C od) (hs : PySem.W.findIn K (.ref C) name = some (some (.builtin id))) (S : Slot B name id)
    (h : wpAny (model prog w) A (call (.builtin id) (.ref x :: args)) (fun v => Q (some v)) E s) : wpAny (model prog w) A (callSpecialIfBound? (.ref x) name args) Q E s := by
  have fin : wpAny (model prog w) A (do let v ← call (.builtin id) ([.ref x] ++ args); pure (some v)) Q E s := wpAny_bind (wpAny_mono h (fun v s' q => wpAny_pure q) fun _ _ q => q)
  simp only [callSpecialIfBound?, bindSpecialIfBound?]
  refine wpAny_holding (wpAny_bind (wpAny_bind (wpAny_bind (I.type.here ((PySem.W.looks_findIn X hs).here ?_)))))
  simp only [S.bind]
  refine wpAny_bind (wpAny_askSetting (wpAny_ite ?_))
  split
  · exact wpAny_bind (wpAny_pure (wpAny_pure fin))
  · exact wpAny_tryCatch (wpAny_bind (wpAny_pure (wpAny_pure fin)))
theorem neBody {Q : Fin → Shared → Prop} (hu : A.units < cLine) (X : K.In s.heap) (I : PySem.W.InstAt s.heap x ox C od) (hs : PySem.W.findIn K (.ref C) "__eq__" = some (some (.ref f))) (hf : PySem.W.isFn K (.ref f) = true)
    (h : wpAny (model prog w) A (call (.ref f) [.ref x, .ref y]) (fun v s' => ∃ b, v = .bool b ∧ Q (.done (.ret (.bool (!b)))) s') E s) : wpAny (model prog w) A (Builtin.«object.__ne__» ⟨[.ref x, .ref y], []⟩) Q E s := by
  unfold Builtin.«object.__ne__»
  have step : wpAny (model prog w) A (callSpecialIfBound? (.ref x) (Str.ofString "__eq__") [.ref y]) (fun r s' => ∃ b, r = some (.bool b) ∧ Q (.done (.ret (.bool (!b)))) s') E s :=
    PySem.W.ifBound_K X I hs hf (wpAny_mono h (fun v s' q => by obtain ⟨b, rfl, q⟩ := q; exact ⟨b, rfl, q⟩) fun _ _ q => q)
  repeat (first
    | with_reducible refine wpAny_cRoomFor hu ?_
    | (refine wpAny_bind (m := callSpecialIfBound? (.ref x) (Str.ofString "__eq__") [.ref y]) (wpAny_mono step (fun r s' q => ?_) fun _ _ q => q); obtain ⟨b, rfl, q⟩ := q)
    | exact q
    | (refine wpAny_bind (m := truthy (.bool _)) (wpAny_truthy_bool ?_))
    | wp_step)
theorem tryNe {Q : Option Value → Shared → Prop} (hu : A.units + 1 < cLine) (X : K.In s.heap) (I : PySem.W.InstAt s.heap x ox C od) (hne : PySem.W.findIn K (.ref C) "__ne__" = some (some (.builtin "object.__ne__"))) (hm : PySem.W.mroIn K C (.type "object") = some true)
    (hs : PySem.W.findIn K (.ref C) "__eq__" = some (some (.ref f))) (hf : PySem.W.isFn K (.ref f) = true)
    (h : wpAny (model prog w) A.in1 (call (.ref f) [.ref x, .ref y]) (fun v s' => ∃ b, v = .bool b ∧ Q (some (.bool (!b))) s') E s) : wpAny (model prog w) A (tryCompare (.ref x) "__ne__" (.ref y)) Q E s := by
  simp only [tryCompare]
  refine wpAny_bind (boundB X I hne F.cmp_object.ne (wpAny_call (codeAny_call_builtin F.cmp_object.ne.plain F.cmpEntry_ne (PySem.W.check_slot F.cmpKind_ne F.cmpSplit_ne (I.type.andThen (PySem.W.looks_mroIn X hm)) (F.cmpArgs_ne _ _) (neBody (A := A.in1) (by
    show A.units + 1 < cLine
    exact hu) X I hs hf (wpAny_mono h (fun v s' q => ?_) fun _ _ q => q))))))
  obtain ⟨b, rfl, q⟩ := q
  first
    | exact ⟨b, rfl, ⟨_, rfl, wpAny_pure q⟩⟩
    | exact ⟨b, rfl, wpAny_pure q⟩
    | exact ⟨b, rfl, wpAny_pure (wpAny_pure q)⟩
theorem richNe {oy : Obj} {ody : Option Obj} {Q : Value → Shared → Prop} (hu : A.units + 1 < cLine) (X : K.In s.heap) (I : PySem.W.InstAt s.heap x ox C od) (J : PySem.W.InstAt s.heap y oy C ody) (hne : PySem.W.findIn K (.ref C) "__ne__" = some (some (.builtin "object.__ne__"))) (hm : PySem.W.mroIn K C (.type "object") = some true)
    (hs : PySem.W.findIn K (.ref C) "__eq__" = some (some (.ref f))) (hf : PySem.W.isFn K (.ref f) = true)
    (h : wpAny (model prog w) A.in1 (call (.ref f) [.ref x, .ref y]) (fun v s' => ∃ b, v = .bool b ∧ Q (.bool (!b)) s') E s) : wpAny (model prog w) A (richCompare .NotEq (.ref x) (.ref y)) Q E s := by
  unfold richCompare
  simp only [oneThing_ref]
  refine wpAny_holding (wpAny_bind (wpAny_cRoomFor (Nat.lt_of_succ_lt hu) ?_))
  rw [cmpInfo_NotEq]
  refine wpAny_bind (I.type.here (wpAny_bind (J.type.here ?_)))
  rw [show (Value.ref C != Value.ref C) = false by simp]
  simp only [Bool.false_eq_true, if_false]
  refine wpAny_bind (wpAny_pure ?_)
  refine wpAny_bind (tryNe hu X I hne hm hs hf (wpAny_mono h (fun v s' q => ?_) fun _ _ q => q))
  obtain ⟨b, rfl, q⟩ := q
  exact ⟨b, rfl, wpAny_pure q⟩
end
/-- x != y, both instances of C; R what the two must be, for any answer of the own == -/
def spEqB (R : Addr → Addr → Hp → Bool → Prop) : Sp := fun vs H Q _ => ∃ a b r, vs = [.ref a, .ref b] ∧ R a b H r ∧ Q (.bl r) H
def rNeI (C : Addr) (R : Addr → Addr → Hp → Bool → Prop) : R2 := fun x y H Q => ∃ a b dx dy fs gs r, x = .ref a ∧ y = .ref b ∧ H a = some (.ins C dx fs) ∧ H b = some (.ins C dy gs) ∧ R a b H r ∧ Q (.bl (!r)) H
theorem op_neI {X : Cx} {n : Nat} {C f : Addr} {fd : FuncData} {ps : List Str} {R : Addr → Addr → Hp → Bool → Prop} (F : FnOk X.prog X.w X.K X.mg X.base CX0 n f fd ps (spEqB R)) (hr : Room (n + 1) X.A)
    (hne : PySem.W.findIn X.K (.ref C) "__ne__" = some (some (.builtin "object.__ne__"))) (hm : PySem.W.mroIn X.K C (.type "object") = some true) (hs : PySem.W.findIn X.K (.ref C) "__eq__" = some (some (.ref f))) (hf : PySem.W.isFn X.K (.ref f) = true) (hb : Binds X.K fd ps []) :
    OpR X (compareOp .NotEq) (rNeI C R) := by
  intro pins s σ H x y v u Q I rx ry hq
  obtain ⟨a, b, dx, dy, fs, gs, r, rfl, rfl, ha, hb', hR, q⟩ := hq
  cases rx
  cases ry
  obtain ⟨mA, J, _⟩ := ins_get I.hok ha
  obtain ⟨mB, J', _⟩ := ins_get I.hok hb'
  obtain ⟨od, J, _⟩ := J.look
  obtain ⟨od', J', _⟩ := J'.look
  show wpAny (model X.prog X.w) X.A (richCompare .NotEq (.ref a) (.ref b)) (EP X pins σ Q) X.xe s
  refine richNe ?_ I.kIn J J' hne hm hs hf ?_
  · have := hr.un
    omega
  have hsp : spEqB R [.ref a, .ref b] H (fun v H' => v = .bl r ∧ H' = H) E0 := ⟨a, b, r, rfl, hR, rfl, rfl⟩
  have e0 : Env0 X.prog X.w X.K X.mg X.base X.A.in1 X.stack s H := I.env0.in1
  have hl := F.len _ _ _ _ hsp
  have r2 : Vals [V.ref a, V.ref b] [Value.ref a, Value.ref b] := .cons rfl (.cons rfl .nil)
  refine wpAny_call (codeAny_mono (F.run X.A.in1 X.stack s H ⟨[.ref a, .ref b], []⟩ [.ref a, .ref b] [.ref a, .ref b] _ E0 hr.in1 e0 (by
    have := hb s [.ref a, .ref b] I.kIn (by simpa using hl)
    simpa using this) r2 hsp) fun z s' hz => ?_)
  cases z with
  | error e => exact False.elim hz
  | ok fl =>
    cases fl with
    | ret w' =>
      obtain ⟨z, H', I', rz, ez, ex⟩ := I.after hz
      subst ez
      subst ex
      cases rz
      exact ⟨r, rfl, .bl (!r), H', I', rfl, q⟩
    | next => exact False.elim hz
    | brk => exact False.elim hz
    | cont => exact False.elim hz
/-- x == y of such instances, for any answer of the own == -/
def rEqI (C : Addr) (R : Addr → Addr → Hp → Bool → Prop) : R2 := fun x y H Q => ∃ a b dx dy fs gs r, x = .ref a ∧ y = .ref b ∧ H a = some (.ins C dx fs) ∧ H b = some (.ins C dy gs) ∧ R a b H r ∧ Q (.bl r) H
theorem op_eqI {X : Cx} {n : Nat} {C f : Addr} {fd : FuncData} {ps : List Str} {R : Addr → Addr → Hp → Bool → Prop} (F : FnOk X.prog X.w X.K X.mg X.base CX0 n f fd ps (spEqB R)) (hr : Room (n + 1) X.A)
    (hs : PySem.W.findIn X.K (.ref C) "__eq__" = some (some (.ref f))) (hf : PySem.W.isFn X.K (.ref f) = true) (hb : Binds X.K fd ps []) : OpR X (compareOp .Eq) (rEqI C R) := by
  intro pins s σ H x y v u Q I rx ry hq
  obtain ⟨a, b, dx, dy, fs, gs, r, rfl, rfl, ha, hb', hR, q⟩ := hq
  cases rx
  cases ry
  obtain ⟨mA, J, _⟩ := ins_get I.hok ha
  obtain ⟨mB, J', _⟩ := ins_get I.hok hb'
  obtain ⟨od, J, _⟩ := J.look
  obtain ⟨od', J', _⟩ := J'.look
  obtain ⟨m, hF⟩ := I.fr
  show wpAny (model X.prog X.w) X.A (richCompare .Eq (.ref a) (.ref b)) (EP X pins σ Q) X.xe s
  refine PySem.W.cmp_K (op := .Eq) (tb := .ref C) hr.units0 hF I.ok.mod.kin J J'.type (by simp [PySem.W.notFirst]) hs hf ?_
  have hsp : spEqB R [.ref a, .ref b] H (fun v H' => v = .bl r ∧ H' = H) E0 := ⟨a, b, r, rfl, hR, rfl, rfl⟩
  have hl := F.len _ _ _ _ hsp
  have r2 : Vals [V.ref a, V.ref b] [Value.ref a, Value.ref b] := .cons rfl (.cons rfl .nil)
  refine wpAny_call (codeAny_mono (F.run X.A X.stack s H ⟨[.ref a, .ref b], []⟩ [.ref a, .ref b] [.ref a, .ref b] _ E0 (hr.mono (Nat.le_succ n)) I.env0 (by
    have := hb s [.ref a, .ref b] I.kIn (by simpa using hl)
    simpa using this) r2 hsp) fun z s' hz => ?_)
  cases z with
  | error e => exact False.elim hz
  | ok fl =>
    cases fl with
    | ret w' =>
      obtain ⟨z, H', I', rz, ez, ex⟩ := I.after hz
      subst ez
      subst ex
      cases rz
      exact ⟨.bl r, H', I', rfl, q⟩
    | next => exact False.elim hz
    | brk => exact False.elim hz
    | cont => exact False.elim hz
end My
namespace My
open PySem PySem.Spec PyProof.Rows L2
variable {K : PySem.W.Frag}
theorem kit_self {K : PySem.W.Frag} {t : Value} : PySem.W.kitOne K t t = some true := by
  unfold PySem.W.kitOne
  simp
section
variable {P : Program} {w : World} {K : PySem.W.Frag} {mg : Str → Option Value} {base : Heap} {f_is_integer f_is_row f_is_fraction f_is_some f_multiplied f_squared f_is_stall f_across f_hold_of f_is_index f_is_step f_end_of f_is_walk f_is_ring f_is_uneven f_is_uneven_ring f_l_hand f_l_draw f_l_gcd f_l_frac f_l_times f_l_over f_l_some f_l_shuffled f_l_stall f_l_stalls f_l_sizes f_l_whole f_l_is_flag f_l_is_uneven f_l_ring f_l_back f_l_bent f_law f_Web_init f_Web_eq c_Web c_ONE : Addr} {d_is_integer d_is_row d_is_fraction d_is_some d_multiplied d_squared d_is_stall d_across d_hold_of d_is_index d_is_step d_end_of d_is_walk d_is_ring d_is_uneven d_is_uneven_ring d_l_hand d_l_draw d_l_gcd d_l_frac d_l_times d_l_over d_l_some d_l_shuffled d_l_stall d_l_stalls d_l_sizes d_l_whole d_l_is_flag d_l_is_uneven d_l_ring d_l_back d_l_bent d_law d_Web_init d_Web_eq : FuncData}
def sp_weq (K : PySem.W.Frag) (C : Addr) : Sp := fun vs H Q _ => ∃ (x y : V) (n m : Nat) (ss tt : List Stl), vs = [x, y] ∧ IsWeb K C H x n ss ∧ IsWeb K C H y m tt ∧ Q (.bl (decide (n = m) && decide (ss = tt))) H
theorem ok_Web_eq (T : Txt K mg f_is_integer f_is_row f_is_fraction f_is_some f_multiplied f_squared f_is_stall f_across f_hold_of f_is_index f_is_step f_end_of f_is_walk f_is_ring f_is_uneven f_is_uneven_ring f_l_hand f_l_draw f_l_gcd f_l_frac f_l_times f_l_over f_l_some f_l_shuffled f_l_stall f_l_stalls f_l_sizes f_l_whole f_l_is_flag f_l_is_uneven f_l_ring f_l_back f_l_bent f_law f_Web_init f_Web_eq c_Web c_ONE d_is_integer d_is_row d_is_fraction d_is_some d_multiplied d_squared d_is_stall d_across d_hold_of d_is_index d_is_step d_end_of d_is_walk d_is_ring d_is_uneven d_is_uneven_ring d_l_hand d_l_draw d_l_gcd d_l_frac d_l_times d_l_over d_l_some d_l_shuffled d_l_stall d_l_stalls d_l_sizes d_l_whole d_l_is_flag d_l_is_uneven d_l_ring d_l_back d_l_bent d_law d_Web_init d_Web_eq) : FnOk P w K mg base CX0 1 f_Web_eq d_Web_eq ["self", "other"] (sp_weq K c_Web) := by
  refine T.F_Web_eq.ok sc_Web_eq (fun vs H Q E h => ?_) (fun cdv A outer s H vs Q E hr h => ?_)
  · obtain ⟨x, y, n, m, ss, tt, rfl, _⟩ := h
    rfl
  · obtain ⟨x, y, n, m, ss, tt, rfl, ⟨p, dx, t, xs, rfl, hp, ht, hss⟩, ⟨p2, dx2, t2, xs2, rfl, hp2, ht2, hss2⟩, q⟩ := h
    refine ⟨_, (pss_one (ps_ret (pe_and (pe_callB call_isi (by rfl) T.z_isinstance (by decide +kernel) (pa_cons (pv 1) (pa_cons (pe_glob (v := .ref c_Web) (by rfl) T.w_Web.g rfl) pa_nil))) (pe_and (pe_cmpR op_eq (pe_fld (pv 0) rfl) (pe_fld (pv 1) rfl) (nomark _)) (pe_one (pe_cmpR (op_eqD hr.units) (pe_fld (pv 0) rfl) (pe_fld (pv 1) rfl) (nomark _))))))), ?_⟩
    walk_at "r"
    refine ⟨_, _, _, _, _, rfl, .own _, .base (.ins hp2 T.w_Web.it.cl T.w_Web.it.ha T.w_Web.it.hn T.w_Web.it.ht T.w_Web.it.mo), kit_self, ?_⟩
    walk_at "r"
    refine ⟨_, _, _, _, _, rfl, hp, T.w_Web.it.cl, T.n_Web_wares, wF_wares _ _, ?_⟩
    walk_at "r"
    refine ⟨_, _, _, _, _, rfl, hp2, T.w_Web.it.cl, T.n_Web_wares, wF_wares _ _, ?_⟩
    walk_at "r"
    have e1 : decide (((n : Nat) : Int) = (m : Nat)) = decide (n = m) := by
      rw [Bool.eq_iff_iff, decide_eq_true_eq, decide_eq_true_eq]
      omega
    by_cases e : n = m
    · have e2 : ((n : Nat) : Int) = (m : Nat) := by omega
      rw [decide_eq_true e, Bool.true_and] at q
      rw [decide_eq_true e2]
      walk_at "r"
      refine ⟨_, _, _, _, _, rfl, hp, T.w_Web.it.cl, T.n_Web_stalls, wF_stalls _ _, ?_⟩
      walk_at "r"
      refine ⟨_, _, _, _, _, rfl, hp2, T.w_Web.it.cl, T.n_Web_stalls, wF_stalls _ _, ?_⟩
      refine ⟨_, _, hss.dp ht, hss2.dp ht2, sts_shaped _, sts_shaped _, ?_⟩
      rw [show PyData.eqv (.tuple (ss.map stD)) (.tuple (tt.map stD)) = decide (ss = tt) from sts_eqv ss tt]
      exact q
    · have e2 : ¬ ((n : Nat) : Int) = (m : Nat) := by omega
      rw [decide_eq_false e, Bool.false_and] at q
      rw [decide_eq_false e2]
      walk_at "r"
      exact q
/-- two webs that are equal -/
def RWeb (K : PySem.W.Frag) (C : Addr) : Addr → Addr → Hp → Prop := fun a b H => ∃ n ss, IsWeb K C H (.ref a) n ss ∧ IsWeb K C H (.ref b) n ss
theorem ok_Web_eqR (T : Txt K mg f_is_integer f_is_row f_is_fraction f_is_some f_multiplied f_squared f_is_stall f_across f_hold_of f_is_index f_is_step f_end_of f_is_walk f_is_ring f_is_uneven f_is_uneven_ring f_l_hand f_l_draw f_l_gcd f_l_frac f_l_times f_l_over f_l_some f_l_shuffled f_l_stall f_l_stalls f_l_sizes f_l_whole f_l_is_flag f_l_is_uneven f_l_ring f_l_back f_l_bent f_law f_Web_init f_Web_eq c_Web c_ONE d_is_integer d_is_row d_is_fraction d_is_some d_multiplied d_squared d_is_stall d_across d_hold_of d_is_index d_is_step d_end_of d_is_walk d_is_ring d_is_uneven d_is_uneven_ring d_l_hand d_l_draw d_l_gcd d_l_frac d_l_times d_l_over d_l_some d_l_shuffled d_l_stall d_l_stalls d_l_sizes d_l_whole d_l_is_flag d_l_is_uneven d_l_ring d_l_back d_l_bent d_law d_Web_init d_Web_eq) : FnOk P w K mg base CX0 1 f_Web_eq d_Web_eq ["self", "other"] (spEq (RWeb K c_Web)) :=
  (ok_Web_eq T).imp fun vs H Q E h => by
    obtain ⟨a, b, rfl, ⟨n, ss, h1, h2⟩, q⟩ := h
    refine ⟨_, _, n, n, ss, ss, rfl, h1, h2, ?_⟩
    rw [decide_eq_true rfl, decide_eq_true rfl]
    exact q H Ext.rfl'
theorem rc_web {X : Cx} (T : Txt X.K X.mg f_is_integer f_is_row f_is_fraction f_is_some f_multiplied f_squared f_is_stall f_across f_hold_of f_is_index f_is_step f_end_of f_is_walk f_is_ring f_is_uneven f_is_uneven_ring f_l_hand f_l_draw f_l_gcd f_l_frac f_l_times f_l_over f_l_some f_l_shuffled f_l_stall f_l_stalls f_l_sizes f_l_whole f_l_is_flag f_l_is_uneven f_l_ring f_l_back f_l_bent f_law f_Web_init f_Web_eq c_Web c_ONE d_is_integer d_is_row d_is_fraction d_is_some d_multiplied d_squared d_is_stall d_across d_hold_of d_is_index d_is_step d_end_of d_is_walk d_is_ring d_is_uneven d_is_uneven_ring d_l_hand d_l_draw d_l_gcd d_l_frac d_l_times d_l_over d_l_some d_l_shuffled d_l_stall d_l_stalls d_l_sizes d_l_whole d_l_is_flag d_l_is_uneven d_l_ring d_l_back d_l_bent d_law d_Web_init d_Web_eq) : RcG X 1 (DIns c_Web (RWeb X.K c_Web)) :=
  rcG_ins (E := E0) (ok_Web_eqR T) T.i_Web_eq T.fn_Web_eq T.b_Web_eq pass0
/-- what the own == answers of two webs -/
def BWeb (K : PySem.W.Frag) (C : Addr) : Addr → Addr → Hp → Bool → Prop := fun a b H r => ∃ n m ss tt, IsWeb K C H (.ref a) n ss ∧ IsWeb K C H (.ref b) m tt ∧ r = (decide (n = m) && decide (ss = tt))
theorem ok_Web_eq_B (T : Txt K mg f_is_integer f_is_row f_is_fraction f_is_some f_multiplied f_squared f_is_stall f_across f_hold_of f_is_index f_is_step f_end_of f_is_walk f_is_ring f_is_uneven f_is_uneven_ring f_l_hand f_l_draw f_l_gcd f_l_frac f_l_times f_l_over f_l_some f_l_shuffled f_l_stall f_l_stalls f_l_sizes f_l_whole f_l_is_flag f_l_is_uneven f_l_ring f_l_back f_l_bent f_law f_Web_init f_Web_eq c_Web c_ONE d_is_integer d_is_row d_is_fraction d_is_some d_multiplied d_squared d_is_stall d_across d_hold_of d_is_index d_is_step d_end_of d_is_walk d_is_ring d_is_uneven d_is_uneven_ring d_l_hand d_l_draw d_l_gcd d_l_frac d_l_times d_l_over d_l_some d_l_shuffled d_l_stall d_l_stalls d_l_sizes d_l_whole d_l_is_flag d_l_is_uneven d_l_ring d_l_back d_l_bent d_law d_Web_init d_Web_eq) : FnOk P w K mg base CX0 1 f_Web_eq d_Web_eq ["self", "other"] (spEqB (BWeb K c_Web)) :=
  (ok_Web_eq T).imp fun vs H Q E h => by
    obtain ⟨a, b, r, rfl, ⟨n, m, ss, tt, h1, h2, rfl⟩, q⟩ := h
    exact ⟨_, _, n, m, ss, tt, rfl, h1, h2, q⟩
end
end My
namespace My
open PySem PySem.Spec PyProof.Rows L2
variable {K : PySem.W.Frag}
theorem ten6e : (10 : Int) ^ (6 : Int).toNat = 1000000 := by decide
theorem rat_pos {r : Rat} (h : 0 < r.num) : 0 < r := by
  rw [Rat.lt_iff]
  simpa using h
theorem divInt_pos {t b : Int} (ht : 0 < t) (hb : 0 < b) : 0 < Rat.divInt t b := by
  have h := (rat_cross (n := t) (d := b) (r := Rat.divInt t b) (by omega)).mp rfl
  have hd := den_pos (Rat.divInt t b)
  have h2 : 0 < t * ((Rat.divInt t b).den : Int) := Int.mul_pos ht hd
  rw [h] at h2
  refine rat_pos ?_
  exact Int.pos_of_mul_pos_left h2 hb
theorem divInt_mul' (r t : Rat) : Rat.divInt (r.num * t.num) ((r.den : Int) * t.den) = r * t := by
  rw [← Rat.divInt_mul_divInt, Rat.num_divInt_den, Rat.num_divInt_den]
theorem mul_lt' {a b : Int} {k l : Nat} (h1 : a.natAbs < 2 ^ k) (h2 : b.natAbs < 2 ^ l) : (a * b).natAbs < 2 ^ (k + l) := by
  rw [Int.natAbs_mul]
  exact nat_mul_lt h1 h2
theorem back_root (r f : Rat) (hf : 0 < f) : r * f * Rat.divInt (r.num * f.den) (r.den * f.num) = r * r := by
  have h0 : f.num * f.den ≠ 0 := Int.ne_of_gt (Int.mul_pos (num_pos' hf) (den_pos f))
  rw [← divInt_mul' r f, ← divInt_mul' r r, Rat.divInt_mul_divInt]
  rw [show r.num * f.num * (r.num * f.den) = r.num * r.num * (f.num * f.den) by grind, show (r.den : Int) * f.den * (r.den * f.num) = (r.den : Int) * r.den * (f.num * f.den) by grind]
  exact Rat.divInt_mul_right h0
theorem add_divInt (r t : Rat) : Rat.divInt (r.num * t.den + t.num * r.den) ((r.den : Int) * t.den) = r + t := by
  have h1 := den_pos r
  have h2 := den_pos t
  rw [← Rat.divInt_add_divInt r.num t.num (by omega) (by omega), Rat.num_divInt_den, Rat.num_divInt_den]
theorem sub_divInt (r t : Rat) : Rat.divInt (r.num * t.den - t.num * r.den) ((r.den : Int) * t.den) = r - t := by
  have h1 := den_pos r
  have h2 := den_pos t
  rw [Rat.sub_eq_add_neg, ← add_divInt r (-t)]
  show _ = Rat.divInt (r.num * t.den + -t.num * r.den) _
  rw [Int.neg_mul, ← Int.sub_eq_add_neg]
  rfl
end My
namespace My
open PySem PySem.Spec PyProof.Rows L2
variable {K : PySem.W.Frag}
/-! ### the hand: the source of numbers of k28 to k51 -/
def Hnd (M : Nat) (D C : Addr) (H : Hp) (c : Nat) : Prop := ∃ (cells : List Int) (pos rest acc cnt : Int), C ≠ D ∧ H D = some (.lst [.ref C, .int pos, .int rest, .int acc, .int cnt]) ∧ H C = some (.lst (cells.map V.int)) ∧
  cells.length ≤ 63 ∧ (∀ z ∈ cells, 0 ≤ z ∧ z.natAbs < 2 ^ M) ∧ 0 ≤ pos ∧ (0 ≤ rest ∧ rest.natAbs < 2 ^ M) ∧ (0 ≤ acc ∧ acc < 2147483648) ∧ 0 ≤ cnt ∧ cnt ≤ c
theorem Hnd.same {M c : Nat} {D C : Addr} {H H' : Hp} (d : Hnd M D C H c) (s : Same H H') : Hnd M D C H' c := by
  obtain ⟨cells, pos, rest, acc, cnt, n, h1, h2, r⟩ := d
  exact ⟨cells, pos, rest, acc, cnt, n, s _ _ h1, s _ _ h2, r⟩
theorem Hnd.mono {M c c' : Nat} {D C : Addr} {H : Hp} (d : Hnd M D C H c) (h : c ≤ c') : Hnd M D C H c' := by
  obtain ⟨cells, pos, rest, acc, cnt, n, h1, h2, h3, h4, h5, h6, h7, h8, h9⟩ := d
  exact ⟨cells, pos, rest, acc, cnt, n, h1, h2, h3, h4, h5, h6, h7, h8, by omega⟩
theorem Hnd.ne {M c : Nat} {D C p : Addr} {H : Hp} (d : Hnd M D C H c) (h : H p = none) : p ≠ D := by
  obtain ⟨cells, pos, rest, acc, cnt, n, h1, _⟩ := d
  exact (ne_of_none h1 h).symm
theorem Hnd.neC {M c : Nat} {D C p : Addr} {H : Hp} (d : Hnd M D C H c) (h : H p = none) : p ≠ C := by
  obtain ⟨cells, pos, rest, acc, cnt, n, h1, h2, _⟩ := d
  exact (ne_of_none h2 h).symm
theorem Hnd.put {M c : Nat} {D C p : Addr} {H : Hp} {o : HO} (d : Hnd M D C H c) (n1 : p ≠ D) (n2 : p ≠ C) : Hnd M D C (upd H p o) c := by
  obtain ⟨cells, pos, rest, acc, cnt, n, h1, h2, r⟩ := d
  exact ⟨cells, pos, rest, acc, cnt, n, (upd_ne (Ne.symm n1)).trans h1, (upd_ne (Ne.symm n2)).trans h2, r⟩
theorem Hnd.tps {M c : Nat} {D C : Addr} {H H' : Hp} (d : Hnd M D C H c) (f : Fw D H H') : Tps H H' := fun b xs h => by
  obtain ⟨cells, pos, rest, acc, cnt, n, h1, r⟩ := d
  exact f _ _ (fun z => by
    rw [z, h1] at h
    cases h) h
theorem rd_parH {i j : Nat} {ta : TA} {D : Ends} {σ : L2.St} {H : Hp} (h : ta σ H fun vs H1 => ∃ v w, vs = [v, w] ∧ D.nx ((σ.set i (some v)).set j (some w)) H1) : tPar i j ta D σ H := h
section
variable {P : Program} {w : World} {K : PySem.W.Frag} {mg : Str → Option Value} {base : Heap} {f_is_integer f_is_row f_is_fraction f_is_some f_multiplied f_squared f_is_stall f_across f_hold_of f_is_index f_is_step f_end_of f_is_walk f_is_ring f_is_uneven f_is_uneven_ring f_l_hand f_l_draw f_l_gcd f_l_frac f_l_times f_l_over f_l_some f_l_shuffled f_l_stall f_l_stalls f_l_sizes f_l_whole f_l_is_flag f_l_is_uneven f_l_ring f_l_back f_l_bent f_law f_Web_init f_Web_eq c_Web c_ONE : Addr} {d_is_integer d_is_row d_is_fraction d_is_some d_multiplied d_squared d_is_stall d_across d_hold_of d_is_index d_is_step d_end_of d_is_walk d_is_ring d_is_uneven d_is_uneven_ring d_l_hand d_l_draw d_l_gcd d_l_frac d_l_times d_l_over d_l_some d_l_shuffled d_l_stall d_l_stalls d_l_sizes d_l_whole d_l_is_flag d_l_is_uneven d_l_ring d_l_back d_l_bent d_law d_Web_init d_Web_eq : FuncData}
def sp_hand (K : PySem.W.Frag) : Sp := fun vs H Q _ => ∃ (a : Addr) (ns : List Int), vs = [.ref a] ∧ SqL K H a (ns.map V.int) ∧ ns.length ≤ 63 ∧ (∀ z ∈ ns, Builtin.Int.intBits z ≤ 1048576) ∧
  ∀ H' D C, Same H H' → Hnd 1048576 D C H' 0 → Q (.ref D) H'
theorem ok_l_hand (T : Txt K mg f_is_integer f_is_row f_is_fraction f_is_some f_multiplied f_squared f_is_stall f_across f_hold_of f_is_index f_is_step f_end_of f_is_walk f_is_ring f_is_uneven f_is_uneven_ring f_l_hand f_l_draw f_l_gcd f_l_frac f_l_times f_l_over f_l_some f_l_shuffled f_l_stall f_l_stalls f_l_sizes f_l_whole f_l_is_flag f_l_is_uneven f_l_ring f_l_back f_l_bent f_law f_Web_init f_Web_eq c_Web c_ONE d_is_integer d_is_row d_is_fraction d_is_some d_multiplied d_squared d_is_stall d_across d_hold_of d_is_index d_is_step d_end_of d_is_walk d_is_ring d_is_uneven d_is_uneven_ring d_l_hand d_l_draw d_l_gcd d_l_frac d_l_times d_l_over d_l_some d_l_shuffled d_l_stall d_l_stalls d_l_sizes d_l_whole d_l_is_flag d_l_is_uneven d_l_ring d_l_back d_l_bent d_law d_Web_init d_Web_eq) : FnOk P w K mg base CX0 1 f_l_hand d_l_hand ["_law_script"] (sp_hand K) := by
  refine T.F_l_hand.ok sc_l_hand (fun vs H Q E h => ?_) (fun cdv A outer s H vs Q E hr h => ?_)
  · obtain ⟨a, ns, rfl, _⟩ := h
    rfl
  · obtain ⟨a, ns, rfl, hS, hl, hb, q⟩ := h
    refine ⟨_, (pss_cons (ps_setLc (i := 1) (own := [("_law_cell", 2)]) (g := gName 2) rfl sc_l_hand.nd rfl rfl (sw_true rfl rfl rfl (by decide +kernel)) (pi_list (pe_slice sl_list (pv 0) po_none (po_some pe_int))) (blkOk_by (own := [("_law_cell", 2)]) (N := N_l_hand) (sc := defScope s_l_hand) (by decide +kernel)) (fun _ _ _ _ _ => (pg_name (i := 2) sc_l_hand.nd rfl (by first | exact Or.inl rfl | exact Or.inr rfl))) (fun _ _ _ _ _ => pts_nil) (fun _ _ _ _ _ => (pe_callB call_absN (by rfl) T.z_abs (by decide +kernel) (pa_cons (pe_callTy call_intN (by rfl) T.z_int (by decide +kernel) (pa_cons (pv 2) pa_nil)) pa_nil))))
      (pss_one (ps_ret (pe_lst (pa_cons (pv 1) (pa_cons pe_int (pa_cons pe_int (pa_cons (pe_op op_add pe_int (pe_callB call_lenN (by rfl) T.z_len (by decide +kernel) (pa_cons (pv 1) pa_nil))) (pa_cons pe_int pa_nil))))))))), ?_⟩
    walk_at "r"
    refine rd_slL hS (fun p np => ?_)
    have hcut : cutV (ns.map V.int) none (some 63) = ns.map V.int := cut_all (n := 63) (by rw [List.length_map]; exact hl)
    rw [hcut]
    have s1 := same_upd (o := .lst (ns.map V.int)) np
    have hp : upd H p (.lst (ns.map V.int)) p = some (.lst (ns.map V.int)) := upd_same
    generalize upd H p (.lst (ns.map V.int)) = H1 at *
    refine ⟨_, rfl, ⟨_, .of hp⟩, fun D nD => ?_⟩
    refine lc_listP (R := fun H v (b : Int) => v = .int b) (fun _ _ _ _ _ h => h) (f := fun i => (ns[i]?).map fun z => ((z.natAbs : Nat) : Int)) nD (by rw [List.length_map]; omega) (.of hp) (fun i v hx H' Q' N' s2 hyy _ => ?_) fun H2 hl2 => ?_
    · obtain ⟨z, rfl, hz⟩ : ∃ z, v = .int z ∧ ns[i]? = some z := by
        rw [List.getElem?_map] at hx
        cases e : ns[i]? with
        | none =>
          rw [e] at hx
          cases hx
        | some z =>
          rw [e] at hx
          exact ⟨z, (Option.some.inj hx).symm, rfl⟩
      walk_at "r"
      refine ⟨rfl, ?_⟩
      walk_at "r"
      exact hyy _ _ _ (by simp [hz]) (Same.refl _) rfl
    obtain ⟨s2, cs, hD, hcs⟩ := hl2
    rw [List.length_map, upTo_list] at hcs
    have e : cs = (ns.map fun z : Int => ((z.natAbs : Nat) : Int)).map V.int := by
      clear hD hcut hp hS hl hb
      generalize (ns.map fun z : Int => ((z.natAbs : Nat) : Int)) = us at hcs
      induction hcs with
      | nil => rfl
      | cons h t ih => rw [h, ih]; rfl
    subst e
    walk_at "r"
    intro D2 nD2
    have h2 : D ≠ D2 := ne_of_none hD nD2
    refine q _ D2 D ((s1.trans s2).trans (same_upd nD2)) ⟨ns.map fun z : Int => ((z.natAbs : Nat) : Int), 0, 0, _, 0, h2, upd_same, (upd_ne h2).trans hD, by rw [List.length_map]; exact hl, fun z hz => ?_, by omega, ⟨by omega, Nat.two_pow_pos _⟩, ⟨by omega, by rw [List.length_map, List.length_map]; omega⟩, by omega, by omega⟩
    obtain ⟨y, hy, rfl⟩ := List.mem_map.mp hz
    have := bits_lt (hb y hy)
    exact ⟨by omega, by rw [Int.natAbs_natCast]; exact this⟩
def sp_hdraw (M : Nat) : Sp := fun vs H Q _ => ∃ (D C : Addr) (many : Int) (c : Nat), vs = [.ref D, .int many] ∧ (0 < many ∧ many.natAbs < 2 ^ 64) ∧ Hnd M D C H c ∧ c ≤ 2 ^ 40 ∧
  ∀ H' r, Fw D H H' → Hnd M D C H' (c + 1) → 0 ≤ r → r < many → Q (.int r) H'
theorem ok_l_hdraw {M : Nat} (hM : 64 ≤ M) (hM2 : M ≤ 1048576) (T : Txt K mg f_is_integer f_is_row f_is_fraction f_is_some f_multiplied f_squared f_is_stall f_across f_hold_of f_is_index f_is_step f_end_of f_is_walk f_is_ring f_is_uneven f_is_uneven_ring f_l_hand f_l_draw f_l_gcd f_l_frac f_l_times f_l_over f_l_some f_l_shuffled f_l_stall f_l_stalls f_l_sizes f_l_whole f_l_is_flag f_l_is_uneven f_l_ring f_l_back f_l_bent f_law f_Web_init f_Web_eq c_Web c_ONE d_is_integer d_is_row d_is_fraction d_is_some d_multiplied d_squared d_is_stall d_across d_hold_of d_is_index d_is_step d_end_of d_is_walk d_is_ring d_is_uneven d_is_uneven_ring d_l_hand d_l_draw d_l_gcd d_l_frac d_l_times d_l_over d_l_some d_l_shuffled d_l_stall d_l_stalls d_l_sizes d_l_whole d_l_is_flag d_l_is_uneven d_l_ring d_l_back d_l_bent d_law d_Web_init d_Web_eq) : FnOk P w K mg base CX0 1 f_l_draw d_l_draw ["_law_hand_here", "_law_many"] (sp_hdraw M) := by
  refine T.F_l_draw.ok sc_l_draw (fun vs H Q E h => ?_) (fun cdv A outer sh H vs Q E hr h => ?_)
  · obtain ⟨D, C, many, c, rfl, _⟩ := h
    rfl
  · obtain ⟨D, C, many, c, rfl, ⟨hm0, hm1⟩, hk, hc, q⟩ := h
    have cd : ∀ i : Int, CDivX i many := fun i => cdivx (by omega) hm1 (by decide)
    have hk0 := hk
    obtain ⟨cells, pos, rest, acc, cnt, hCD, hD, hC, hlen, hb, hp0, ⟨hr0, hr1⟩, ⟨ha0, ha1⟩, hc0, hc1⟩ := hk
    refine ⟨_, (C8.pss_cut (ps_if (PW.pt (pw_and (pt_cmpR op_eq (pe_ix ix_list (pv 0) pe_int (fun _ _ => rfl)) pe_int (nomark _)) (pw_and1 (pt_cmpR op_lt (pe_ix ix_list (pv 0) pe_int (fun _ _ => rfl)) (pe_callB call_lenN (by rfl) T.z_len (by decide +kernel) (pa_cons (pe_ix ix_list (pv 0) pe_int (fun _ _ => rfl)) pa_nil)) (nomark _)))))
        (pss_cons (ps_set (i := 2) sc_l_draw.nd rfl (by first | exact Or.inl rfl | exact Or.inr rfl) (pe_ix ix_list (pe_ix ix_list (pv 0) pe_int (fun _ _ => rfl)) (pe_ix ix_list (pv 0) pe_int (fun _ _ => rfl)) (fun _ _ => rfl)))
          (pss_cons (ps_asg (pe_op op_add (pe_ix ix_list (pv 0) pe_int (fun _ _ => rfl)) pe_int) (pg_sub (pv 0) pe_int set_list))
          (pss_cons (ps_asg (pe_op op_mod (pe_callTy call_intN (by rfl) T.z_int (by decide +kernel) (pa_cons (pe_op op_add (pe_op op_add (pe_op op_mulX (pe_ix ix_list (pv 0) pe_int (fun _ _ => rfl)) pe_int) (pv 2)) pe_int) pa_nil)) pe_int) (pg_sub (pv 0) pe_int set_list))
          (pss_one (ps_if (pt_cmpR op_ge (pv 2) (pe_op op_pow pe_int pe_int) (nomark _))
            (pss_one (ps_asg (pv 2) (pg_sub (pv 0) pe_int set_list)))
            pss_nil)))))
        pss_nil)
      (pss_cons (ps_if (pt_cmpR op_gt (pe_ix ix_list (pv 0) pe_int (fun _ _ => rfl)) pe_int (nomark _))
        (pss_cons (ps_set (i := 3) sc_l_draw.nd rfl (by first | exact Or.inl rfl | exact Or.inr rfl) (pe_op op_mod (pe_callTy call_intN (by rfl) T.z_int (by decide +kernel) (pa_cons (pe_ix ix_list (pv 0) pe_int (fun _ _ => rfl)) pa_nil)) (pv 1)))
          (pss_cons (ps_asg (pe_op op_fdivX (pe_ix ix_list (pv 0) pe_int (fun _ _ => rfl)) (pv 1)) (pg_sub (pv 0) pe_int set_list))
          (pss_one (ps_ret (pv 3)))))
        pss_nil)
      (pss_cons (ps_asg (pe_op op_add (pe_ix ix_list (pv 0) pe_int (fun _ _ => rfl)) pe_int) (pg_sub (pv 0) pe_int set_list))
      (pss_cons (ps_set (i := 4) sc_l_draw.nd rfl (by first | exact Or.inl rfl | exact Or.inr rfl) (pe_op op_mod (pe_callTy call_intN (by rfl) T.z_int (by decide +kernel) (pa_cons (pe_op op_mulX (pe_callTy call_intN (by rfl) T.z_int (by decide +kernel) (pa_cons (pe_op op_add (pe_ix ix_list (pv 0) pe_int (fun _ _ => rfl)) (pe_op op_mulX pe_int (pe_ix ix_list (pv 0) pe_int (fun _ _ => rfl)))) pa_nil)) pe_int) pa_nil)) pe_int))
      (pss_cons (ps_set (i := 4) sc_l_draw.nd rfl (by first | exact Or.inl rfl | exact Or.inr rfl) (pe_op op_mod (pe_callTy call_intN (by rfl) T.z_int (by decide +kernel) (pa_cons (pe_op op_mulX (pv 4) (pe_op op_add (pe_op op_fdivX (pv 4) pe_int) pe_int)) pa_nil)) pe_int))
      (pss_cons (ps_set (i := 4) sc_l_draw.nd rfl (by first | exact Or.inl rfl | exact Or.inr rfl) (pe_op op_mod (pe_callTy call_intN (by rfl) T.z_int (by decide +kernel) (pa_cons (pe_op op_mulX (pv 4) (pe_op op_add (pe_op op_fdivX (pv 4) pe_int) pe_int)) pa_nil)) pe_int))
      (pss_one (ps_ret (pe_op op_mod (pe_callTy call_intN (by rfl) T.z_int (by decide +kernel) (pa_cons (pe_op op_fdivX (pv 4) pe_int) pa_nil)) (pv 1)))))))))), ?_⟩
    walk_at "r"
    refine ⟨fun σ H' => ∃ t : Option V, σ = [some (.ref D), some (.int many), t, none, none] ∧ Fw D H H' ∧ Hnd M D C H' c, ?_, ?_⟩
    · have fin0 : Fw D H H := Same.fw (Same.refl _)
      walk_at "r"
      walk_at "if"
      · rename_i h0
        walk_at "r"
        walk_at "if"
        · rename_i h1
          obtain ⟨z, hz, ez⟩ := at_ints (cells := cells) (i := pos) hp0 h1
          obtain ⟨z0, z1⟩ := hb z hz
          walk_at "r"
          refine ⟨_, _, _, .int z, rfl, rfl, SqL.of hC, ez, ?_⟩
          walk_at "r"
          · have m := mod_rng (acc * 69621 + z + 11) (m := 2147483629) (by decide)
            have t18 := ten18
            walk_at "if"
            · walk_at "r"
              exact ⟨(fw_upd.trans fw_upd).trans fw_upd, cells, pos + 1, z, _, cnt, hCD, upd_same, by walk_at "hp", hlen, hb, by omega, ⟨z0, z1⟩, ⟨m.1, by omega⟩, hc0, hc1⟩
            · walk_at "r"
              exact ⟨fw_upd.trans fw_upd, cells, pos + 1, rest, _, cnt, hCD, upd_same, by walk_at "hp", hlen, hb, by omega, ⟨hr0, hr1⟩, ⟨m.1, by omega⟩, hc0, hc1⟩
          · exact cmul_small (by omega) (by decide)
        · walk_at "r"
          exact ⟨fin0, hk0⟩
      · walk_at "r"
        exact ⟨fin0, hk0⟩
    · rintro σ H' ⟨t, rfl, f1, cells, pos, rest, acc, cnt, hCD, hD, hC, hlen, hb, hp0, ⟨hr0, hr1⟩, ⟨ha0, ha1⟩, hc0, hc1⟩
      walk_at "r"
      walk_at "if"
      · walk_at "r"
        refine q _ _ (f1.trans fw_upd) ?_ (mod_rng _ hm0).1 (mod_rng _ hm0).2
        exact ⟨cells, pos, rest.fdiv many, acc, cnt, hCD, upd_same, (upd_ne hCD).trans hC, hlen, hb, hp0, div_small hr0 hr1 hm0, ⟨ha0, ha1⟩, hc0, by omega⟩
      · walk_at "r"
        · refine q _ _ (f1.trans fw_upd) ?_ (mod_rng _ hm0).1 (mod_rng _ hm0).2
          exact ⟨cells, pos, rest, acc, cnt + 1, hCD, upd_same, (upd_ne hCD).trans hC, hlen, hb, hp0, ⟨hr0, hr1⟩, ⟨ha0, ha1⟩, by omega, by omega⟩
        · exact pick_mul2 _ (by decide) (by decide) (by decide) (by decide)
        · exact pick_mul2 _ (by decide) (by decide) (by decide) (by decide)
        · exact cmul_small (by omega) (by decide)
        · exact cmul_small (by decide) (by omega)
def sp_hgcd : Sp := fun vs H Q _ => ∃ n d : Int, vs = [.int n, .int d] ∧ 0 ≤ d ∧ d.natAbs < 2 ^ 8000 ∧ Q (.int (n.natAbs.gcd d.natAbs : Nat)) H
theorem ok_l_gcd (T : Txt K mg f_is_integer f_is_row f_is_fraction f_is_some f_multiplied f_squared f_is_stall f_across f_hold_of f_is_index f_is_step f_end_of f_is_walk f_is_ring f_is_uneven f_is_uneven_ring f_l_hand f_l_draw f_l_gcd f_l_frac f_l_times f_l_over f_l_some f_l_shuffled f_l_stall f_l_stalls f_l_sizes f_l_whole f_l_is_flag f_l_is_uneven f_l_ring f_l_back f_l_bent f_law f_Web_init f_Web_eq c_Web c_ONE d_is_integer d_is_row d_is_fraction d_is_some d_multiplied d_squared d_is_stall d_across d_hold_of d_is_index d_is_step d_end_of d_is_walk d_is_ring d_is_uneven d_is_uneven_ring d_l_hand d_l_draw d_l_gcd d_l_frac d_l_times d_l_over d_l_some d_l_shuffled d_l_stall d_l_stalls d_l_sizes d_l_whole d_l_is_flag d_l_is_uneven d_l_ring d_l_back d_l_bent d_law d_Web_init d_Web_eq) : FnOk P w K mg base CX0 1 f_l_gcd d_l_gcd ["_law_one", "_law_other"] sp_hgcd := by
  refine T.F_l_gcd.ok sc_l_gcd (fun vs H Q E h => ?_) (fun cdv A outer sh H vs Q E hr h => ?_)
  · obtain ⟨n, d, rfl, _⟩ := h
    rfl
  · obtain ⟨n, d, rfl, hd, hb, q⟩ := h
    refine ⟨_, (pss_cons (ps_while PassesOwn.never (pt_cmpR op_ne (pv 1) pe_int (nomark _))
        (pss_one (ps_par (i := 0) (j := 1) rfl sc_l_gcd.nd rfl rfl (by decide) rfl rfl (pa_cons (pv 1) (pa_cons (pe_op op_mod (pe_callTy call_intN (by rfl) T.z_int (by decide +kernel) (pa_cons (pv 0) pa_nil)) (pv 1)) pa_nil)) rfl)))
      (pss_one (ps_ret (pe_callB call_absN (by rfl) T.z_abs (by decide +kernel) (pa_cons (pv 0) pa_nil))))), ?_⟩
    walk_at "r"
    refine ⟨fun m σ H' => ∃ (x : Int) (y : Nat), σ = [some (.int x), some (.int (y : Nat))] ∧ H' = H ∧ x.natAbs.gcd y = n.natAbs.gcd d.natAbs ∧ m = y, ⟨d.natAbs, n, d.natAbs, ?_, rfl, rfl, rfl⟩, ?_⟩
    · rw [show ((d.natAbs : Nat) : Int) = d by omega]
      rfl
    rintro m σ H1 ⟨x, y, rfl, rfl, hg, em⟩
    walk_at "r"
    walk_at "if"
    · rename_i hy
      have hy : 0 < y := by omega
      refine ⟨fun σ H' => ∃ (x' : Int) (y' : Nat), σ = [some (.int x'), some (.int (y' : Nat))] ∧ H' = H1 ∧ x'.natAbs.gcd y' = n.natAbs.gcd d.natAbs ∧ y' < y, ?_, ?_⟩
      · rintro σ' H' ⟨x', y', rfl, rfl, hg2, hlt⟩
        exact ⟨y', by omega, x', y', rfl, rfl, hg2, rfl⟩
      · walk_at "r"
        refine rd_parH ?_
        walk_at "r"
        have m := mod_rng x (m := (y : Nat)) (by omega)
        obtain ⟨z, hz⟩ := Int.eq_ofNat_of_zero_le m.1
        refine ⟨_, _, rfl, (y : Nat), z, ?_, rfl, ?_, by omega⟩
        · rw [hz]
          rfl
        · rw [← hg, Int.natAbs_natCast]
          have e : Int.gcd x (y : Nat) = Int.gcd (y : Nat) (x % (y : Nat)) := by
            have h := Int.gcd_add_mul_right_right (y : Nat) (x % (y : Nat)) (x / (y : Nat))
            rw [show x % (y : Nat) + x / (y : Nat) * (y : Nat) = x by rw [Int.emod_def, Int.mul_comm (x / (y : Nat))]; exact Int.sub_add_cancel _ _] at h
            rw [Int.gcd_comm x]
            exact h
          rw [hz] at e
          exact e.symm
    · rename_i hy
      have hy : y = 0 := by omega
      subst hy
      rw [Nat.gcd_zero_right] at hg
      walk_at "r"
      rw [hg]
      exact q
def sp_frac (K : PySem.W.Frag) : Sp := fun vs H Q _ => ∃ n d : Int, vs = [.int n, .int d] ∧ 0 < d ∧ d.natAbs < 2 ^ 8000 ∧ ∀ H' v, Same H H' → IsF K H' v (Rat.divInt n d) → Q v H'
theorem ok_l_frac (T : Txt K mg f_is_integer f_is_row f_is_fraction f_is_some f_multiplied f_squared f_is_stall f_across f_hold_of f_is_index f_is_step f_end_of f_is_walk f_is_ring f_is_uneven f_is_uneven_ring f_l_hand f_l_draw f_l_gcd f_l_frac f_l_times f_l_over f_l_some f_l_shuffled f_l_stall f_l_stalls f_l_sizes f_l_whole f_l_is_flag f_l_is_uneven f_l_ring f_l_back f_l_bent f_law f_Web_init f_Web_eq c_Web c_ONE d_is_integer d_is_row d_is_fraction d_is_some d_multiplied d_squared d_is_stall d_across d_hold_of d_is_index d_is_step d_end_of d_is_walk d_is_ring d_is_uneven d_is_uneven_ring d_l_hand d_l_draw d_l_gcd d_l_frac d_l_times d_l_over d_l_some d_l_shuffled d_l_stall d_l_stalls d_l_sizes d_l_whole d_l_is_flag d_l_is_uneven d_l_ring d_l_back d_l_bent d_law d_Web_init d_Web_eq) : FnOk P w K mg base CX0 2 f_l_frac d_l_frac ["_law_top", "_law_bottom"] (sp_frac K) := by
  have G_l_gcd : FnOk P w K mg base CX0 1 f_l_gcd d_l_gcd ["_law_one", "_law_other"] sp_hgcd := ok_l_gcd T
  refine T.F_l_frac.ok sc_l_frac (fun vs H Q E h => ?_) (fun cdv A outer sh H vs Q E hr h => ?_)
  · obtain ⟨n, d, rfl, _⟩ := h
    rfl
  · obtain ⟨n, d, rfl, hd, hb, q⟩ := h
    obtain ⟨m1, m2, m3⟩ := low_math (n := n) hd hb _ rfl
    refine ⟨_, (pss_cons (ps_set (i := 2) sc_l_frac.nd rfl (by first | exact Or.inl rfl | exact Or.inr rfl) (pe_call G_l_gcd (hr.mono (by decide)) (by rfl) T.g_l_gcd T.k_l_gcd T.b_l_gcd .nil pass0 (pa_cons (pv 0) (pa_cons (pv 1) pa_nil))))
      (C8.pss_cut (ps_if (pt_cmpR op_lt (pv 1) pe_int (nomark _))
        (pss_one (ps_set (i := 2) sc_l_frac.nd rfl (by first | exact Or.inl rfl | exact Or.inr rfl) (pe_un un_neg (pv 2))))
        pss_nil)
      (pss_one (ps_ret (pe_tup (pa_cons (pe_op op_fdivX (pv 0) (pv 2)) (pa_cons (pe_op op_fdivX (pv 1) (pv 2)) pa_nil))))))), ?_⟩
    walk_at "r"
    refine ⟨_, _, rfl, by omega, hb, ?_⟩
    walk_at "r"
    refine ⟨fun σ H' => σ = [some (.int n), some (.int d), some (.int (n.natAbs.gcd d.natAbs : Nat))] ∧ H' = H, ?_, ?_⟩
    · walk_at "r"
      exact ⟨rfl, rfl⟩
    · rintro σ H' ⟨rfl, rfl⟩
      walk_at "r"
      · intro p np
        exact q _ _ (same_upd np) (isF_new m2 m3)
      all_goals exact m1 _
end
end My
namespace My
open PySem PySem.Spec PyProof.Rows L2
variable {K : PySem.W.Frag}
theorem p20k {n : Nat} (h : n < 2 ^ 3900) : n < 2 ^ 20000 := Nat.lt_of_lt_of_le h (pow_le (by decide))
def sp_two9 (K : PySem.W.Frag) (f : Rat → Rat → Rat) : Sp := fun vs H Q _ => ∃ x y r s, vs = [x, y] ∧ IsF K H x r ∧ IsF K H y s ∧ Bd 3900 r ∧ Bd 3900 s ∧ ∀ H' v, Same H H' → IsF K H' v (f r s) → Q v H'
theorem eq_div_of' {h x k : Rat} (hz : h ≠ 0) (e : h * x = k) : x = k / h := by
  rw [← e, Rat.div_def, Rat.mul_comm h x, Rat.mul_assoc, Rat.mul_inv_cancel h hz, Rat.mul_one]
theorem over_is (r t : Rat) (h : 0 < t) : Rat.divInt (r.num * t.den) ((r.den : Int) * t.num) = r / t := by
  have ht := num_pos' h
  refine eq_div_of' (ne_of_pos h) ?_
  have e : t * Rat.divInt (r.num * t.den) ((r.den : Int) * t.num) = Rat.divInt t.num t.den * Rat.divInt (r.num * t.den) ((r.den : Int) * t.num) := by rw [Rat.num_divInt_den]
  rw [e, Rat.divInt_mul_divInt]
  have hz : t.num * t.den ≠ 0 := Int.ne_of_gt (Int.mul_pos ht (den_pos t))
  rw [show t.num * (r.num * t.den) = r.num * (t.num * t.den) by grind, show (t.den : Int) * ((r.den : Int) * t.num) = (r.den : Int) * (t.num * t.den) by grind, Rat.divInt_mul_right hz, Rat.num_divInt_den]
section
variable {P : Program} {w : World} {K : PySem.W.Frag} {mg : Str → Option Value} {base : Heap} {f_is_integer f_is_row f_is_fraction f_is_some f_multiplied f_squared f_is_stall f_across f_hold_of f_is_index f_is_step f_end_of f_is_walk f_is_ring f_is_uneven f_is_uneven_ring f_l_hand f_l_draw f_l_gcd f_l_frac f_l_times f_l_over f_l_some f_l_shuffled f_l_stall f_l_stalls f_l_sizes f_l_whole f_l_is_flag f_l_is_uneven f_l_ring f_l_back f_l_bent f_law f_Web_init f_Web_eq c_Web c_ONE : Addr} {d_is_integer d_is_row d_is_fraction d_is_some d_multiplied d_squared d_is_stall d_across d_hold_of d_is_index d_is_step d_end_of d_is_walk d_is_ring d_is_uneven d_is_uneven_ring d_l_hand d_l_draw d_l_gcd d_l_frac d_l_times d_l_over d_l_some d_l_shuffled d_l_stall d_l_stalls d_l_sizes d_l_whole d_l_is_flag d_l_is_uneven d_l_ring d_l_back d_l_bent d_law d_Web_init d_Web_eq : FuncData}
theorem ok_l_times (T : Txt K mg f_is_integer f_is_row f_is_fraction f_is_some f_multiplied f_squared f_is_stall f_across f_hold_of f_is_index f_is_step f_end_of f_is_walk f_is_ring f_is_uneven f_is_uneven_ring f_l_hand f_l_draw f_l_gcd f_l_frac f_l_times f_l_over f_l_some f_l_shuffled f_l_stall f_l_stalls f_l_sizes f_l_whole f_l_is_flag f_l_is_uneven f_l_ring f_l_back f_l_bent f_law f_Web_init f_Web_eq c_Web c_ONE d_is_integer d_is_row d_is_fraction d_is_some d_multiplied d_squared d_is_stall d_across d_hold_of d_is_index d_is_step d_end_of d_is_walk d_is_ring d_is_uneven d_is_uneven_ring d_l_hand d_l_draw d_l_gcd d_l_frac d_l_times d_l_over d_l_some d_l_shuffled d_l_stall d_l_stalls d_l_sizes d_l_whole d_l_is_flag d_l_is_uneven d_l_ring d_l_back d_l_bent d_law d_Web_init d_Web_eq) : FnOk P w K mg base CX0 3 f_l_times d_l_times ["_law_one", "_law_other"] (sp_two9 K (· * ·)) := by
  have G_l_frac : FnOk P w K mg base CX0 2 f_l_frac d_l_frac ["_law_top", "_law_bottom"] (sp_frac K) := ok_l_frac T
  refine T.F_l_times.ok sc_l_times (fun vs H Q E h => ?_) (fun cdv A outer s H vs Q E hr h => ?_)
  · obtain ⟨x, y, r, t, rfl, _⟩ := h
    rfl
  · obtain ⟨x, y, r, t, rfl, ⟨p1, rfl, hp1⟩, ⟨p2, rfl, hp2⟩, b1, b2, q⟩ := h
    have c1 : ((r.den : Int)).natAbs < 2 ^ 3900 := by rw [Int.natAbs_natCast]; exact b1.2
    have c2 : ((t.den : Int)).natAbs < 2 ^ 3900 := by rw [Int.natAbs_natCast]; exact b2.2
    refine ⟨_, (pss_one (ps_ret (pe_call G_l_frac (hr.mono (by decide)) (by rfl) T.g_l_frac T.k_l_frac T.b_l_frac .nil pass0 (pa_cons (pe_op op_mulX (pe_ix ix_tup (pv 0) pe_int (fun _ _ => rfl)) (pe_ix ix_tup (pv 1) pe_int (fun _ _ => rfl))) (pa_cons (pe_op op_mulX (pe_ix ix_tup (pv 0) pe_int (fun _ _ => rfl)) (pe_ix ix_tup (pv 1) pe_int (fun _ _ => rfl))) pa_nil))))), ?_⟩
    walk_at "r"
    · refine ⟨_, _, rfl, Int.mul_pos (den_pos r) (den_pos t), Nat.lt_of_lt_of_le (mul_lt' c1 c2) (pow_le (by decide)), fun H1 v s1 hv => ?_⟩
      rw [divInt_mul'] at hv
      exact q _ _ s1 hv
    · exact cmx (p20k c1) (p20k c2)
    · exact cmx (p20k b1.1) (p20k b2.1)
def sp_over (K : PySem.W.Frag) : Sp := fun vs H Q _ => ∃ x y r s, vs = [x, y] ∧ IsF K H x r ∧ IsF K H y s ∧ 0 < s ∧ Bd 3900 r ∧ Bd 3900 s ∧ ∀ H' v, Same H H' → IsF K H' v (r / s) → Q v H'
theorem ok_l_over (T : Txt K mg f_is_integer f_is_row f_is_fraction f_is_some f_multiplied f_squared f_is_stall f_across f_hold_of f_is_index f_is_step f_end_of f_is_walk f_is_ring f_is_uneven f_is_uneven_ring f_l_hand f_l_draw f_l_gcd f_l_frac f_l_times f_l_over f_l_some f_l_shuffled f_l_stall f_l_stalls f_l_sizes f_l_whole f_l_is_flag f_l_is_uneven f_l_ring f_l_back f_l_bent f_law f_Web_init f_Web_eq c_Web c_ONE d_is_integer d_is_row d_is_fraction d_is_some d_multiplied d_squared d_is_stall d_across d_hold_of d_is_index d_is_step d_end_of d_is_walk d_is_ring d_is_uneven d_is_uneven_ring d_l_hand d_l_draw d_l_gcd d_l_frac d_l_times d_l_over d_l_some d_l_shuffled d_l_stall d_l_stalls d_l_sizes d_l_whole d_l_is_flag d_l_is_uneven d_l_ring d_l_back d_l_bent d_law d_Web_init d_Web_eq) : FnOk P w K mg base CX0 3 f_l_over d_l_over ["_law_one", "_law_other"] (sp_over K) := by
  have G_l_frac : FnOk P w K mg base CX0 2 f_l_frac d_l_frac ["_law_top", "_law_bottom"] (sp_frac K) := ok_l_frac T
  refine T.F_l_over.ok sc_l_over (fun vs H Q E h => ?_) (fun cdv A outer s H vs Q E hr h => ?_)
  · obtain ⟨x, y, r, t, rfl, _⟩ := h
    rfl
  · obtain ⟨x, y, r, t, rfl, ⟨p1, rfl, hp1⟩, ⟨p2, rfl, hp2⟩, t0, b1, b2, q⟩ := h
    have c1 : ((r.den : Int)).natAbs < 2 ^ 3900 := by rw [Int.natAbs_natCast]; exact b1.2
    have c2 : ((t.den : Int)).natAbs < 2 ^ 3900 := by rw [Int.natAbs_natCast]; exact b2.2
    have tn := num_pos' t0
    refine ⟨_, (pss_one (ps_ret (pe_call G_l_frac (hr.mono (by decide)) (by rfl) T.g_l_frac T.k_l_frac T.b_l_frac .nil pass0 (pa_cons (pe_op op_mulX (pe_ix ix_tup (pv 0) pe_int (fun _ _ => rfl)) (pe_ix ix_tup (pv 1) pe_int (fun _ _ => rfl))) (pa_cons (pe_op op_mulX (pe_ix ix_tup (pv 0) pe_int (fun _ _ => rfl)) (pe_ix ix_tup (pv 1) pe_int (fun _ _ => rfl))) pa_nil))))), ?_⟩
    walk_at "r"
    · refine ⟨_, _, rfl, Int.mul_pos (den_pos r) tn, Nat.lt_of_lt_of_le (mul_lt' c1 b2.1) (pow_le (by decide)), fun H1 v s1 hv => ?_⟩
      rw [over_is r t t0] at hv
      exact q _ _ s1 hv
    · exact cmx (p20k c1) (p20k b2.1)
    · exact cmx (p20k b1.1) (p20k c2)
def sp_lbelow (K : PySem.W.Frag) : Sp := fun vs H Q _ => ∃ x y r t, vs = [x, y] ∧ IsF K H x r ∧ IsF K H y t ∧ Bd 3900 r ∧ Bd 3900 t ∧ Q (.bl (decide (r < t))) H
/-- sums over a list or a tuple -/
def sp_ltotal (K : PySem.W.Frag) : Sp := fun vs H Q _ => ∃ (L : Addr) (ys : List V) (rs : List Rat) (M : Nat), vs = [.ref L] ∧ H L = some (.lst ys) ∧ Fs K H ys rs ∧ BR rs M ∧ M ≤ 3900 ∧ rs.length ≤ 900 ∧ ∀ H' v, Same H H' → IsF K H' v (sumR rs) → Q v H'
end
end My
namespace My
open PySem PySem.Spec PyProof.Rows L2
variable {K : PySem.W.Frag}
theorem Paired.perm {α : Type} {R : V → α → Prop} {xs ys : List V} (p : ys.Perm xs) : ∀ {us : List α}, Paired R xs us → ∃ ws, ws.Perm us ∧ Paired R ys ws := by
  induction p with
  | nil => exact fun {us} h => ⟨us, .refl _, h⟩
  | cons x p ih =>
    intro us h
    cases h with
    | cons h t =>
      obtain ⟨ws, pw, hw⟩ := ih t
      exact ⟨_, .cons _ pw, .cons h hw⟩
  | swap x y l =>
    intro us h
    cases h with
    | cons h t =>
      cases t with
      | cons h2 t => exact ⟨_, .swap _ _ _, .cons h2 (.cons h t)⟩
  | trans p1 p2 ih1 ih2 =>
    intro us h
    obtain ⟨ws, pw, hw⟩ := ih2 h
    obtain ⟨zs, pz, hz⟩ := ih1 hw
    exact ⟨zs, pz.trans pw, hz⟩
theorem erase_permV {x : V} : ∀ {l : List V} {k : Nat}, l[k]? = some x → (x :: l.eraseIdx k).Perm l
  | [], k, h => by cases h
  | a :: l, 0, h => by
    cases h
    exact .refl _
  | a :: l, k + 1, h => by
    have h : l[k]? = some x := h
    exact (List.Perm.swap a x (l.eraseIdx k)).trans (.cons a (erase_permV h))
theorem seq_ixH {r n : Nat} (h : r < n) : seqIndex? (r : Int) n = some r := by
  unfold seqIndex?
  have h1 : ¬ (r : Int) < 0 := by omega
  simp only [if_neg h1]
  rw [if_pos]
  · rfl
  · simp [h]
section
variable {P : Program} {w : World} {K : PySem.W.Frag} {mg : Str → Option Value} {base : Heap} {f_is_integer f_is_row f_is_fraction f_is_some f_multiplied f_squared f_is_stall f_across f_hold_of f_is_index f_is_step f_end_of f_is_walk f_is_ring f_is_uneven f_is_uneven_ring f_l_hand f_l_draw f_l_gcd f_l_frac f_l_times f_l_over f_l_some f_l_shuffled f_l_stall f_l_stalls f_l_sizes f_l_whole f_l_is_flag f_l_is_uneven f_l_ring f_l_back f_l_bent f_law f_Web_init f_Web_eq c_Web c_ONE : Addr} {d_is_integer d_is_row d_is_fraction d_is_some d_multiplied d_squared d_is_stall d_across d_hold_of d_is_index d_is_step d_end_of d_is_walk d_is_ring d_is_uneven d_is_uneven_ring d_l_hand d_l_draw d_l_gcd d_l_frac d_l_times d_l_over d_l_some d_l_shuffled d_l_stall d_l_stalls d_l_sizes d_l_whole d_l_is_flag d_l_is_uneven d_l_ring d_l_back d_l_bent d_law d_Web_init d_Web_eq : FuncData}
def sp_hsome (K : PySem.W.Frag) (M : Nat) : Sp := fun vs H Q _ => ∃ (D C : Addr) (c : Nat), vs = [.ref D] ∧ Hnd M D C H c ∧ c ≤ 2 ^ 39 ∧ ∀ H' v r, Fw D H H' → Hnd M D C H' (c + 2) → IsF K H' v r → Bd 3 r → 0 < r → Q v H'
theorem ok_l_hsome {M : Nat} (hM : 64 ≤ M) (hM2 : M ≤ 1048576) (T : Txt K mg f_is_integer f_is_row f_is_fraction f_is_some f_multiplied f_squared f_is_stall f_across f_hold_of f_is_index f_is_step f_end_of f_is_walk f_is_ring f_is_uneven f_is_uneven_ring f_l_hand f_l_draw f_l_gcd f_l_frac f_l_times f_l_over f_l_some f_l_shuffled f_l_stall f_l_stalls f_l_sizes f_l_whole f_l_is_flag f_l_is_uneven f_l_ring f_l_back f_l_bent f_law f_Web_init f_Web_eq c_Web c_ONE d_is_integer d_is_row d_is_fraction d_is_some d_multiplied d_squared d_is_stall d_across d_hold_of d_is_index d_is_step d_end_of d_is_walk d_is_ring d_is_uneven d_is_uneven_ring d_l_hand d_l_draw d_l_gcd d_l_frac d_l_times d_l_over d_l_some d_l_shuffled d_l_stall d_l_stalls d_l_sizes d_l_whole d_l_is_flag d_l_is_uneven d_l_ring d_l_back d_l_bent d_law d_Web_init d_Web_eq) : FnOk P w K mg base CX0 3 f_l_some d_l_some ["_law_hand_here"] (sp_hsome K M) := by
  have G_l_draw : FnOk P w K mg base CX0 1 f_l_draw d_l_draw ["_law_hand_here", "_law_many"] (sp_hdraw M) := ok_l_hdraw hM hM2 T
  have G_l_frac : FnOk P w K mg base CX0 2 f_l_frac d_l_frac ["_law_top", "_law_bottom"] (sp_frac K) := ok_l_frac T
  refine T.F_l_some.ok sc_l_some (fun vs H Q E h => ?_) (fun cdv A outer sh H vs Q E hr h => ?_)
  · obtain ⟨D, C, c, rfl, _⟩ := h
    rfl
  · obtain ⟨D, C, c, rfl, k0, hc, q⟩ := h
    refine ⟨_, (pss_one (ps_ret (pe_call G_l_frac (hr.mono (by decide)) (by rfl) T.g_l_frac T.k_l_frac T.b_l_frac .nil pass0 (pa_cons (pe_op op_add pe_int (pe_call G_l_draw (hr.mono (by decide)) (by rfl) T.g_l_draw T.k_l_draw T.b_l_draw .nil pass0 (pa_cons (pv 0) (pa_cons pe_int pa_nil)))) (pa_cons (pe_op op_add pe_int (pe_call G_l_draw (hr.mono (by decide)) (by rfl) T.g_l_draw T.k_l_draw T.b_l_draw .nil pass0 (pa_cons (pv 0) (pa_cons pe_int pa_nil)))) pa_nil))))), ?_⟩
    walk_at "r"
    refine ⟨_, _, _, _, rfl, ⟨by decide, by decide⟩, k0, by omega, fun H2 r2 w2 k2 a2 b2 => ?_⟩
    walk_at "r"
    refine ⟨_, _, _, _, rfl, ⟨by decide, by decide⟩, k2, by omega, fun H3 r3 w3 k3 a3 b3 => ?_⟩
    walk_at "r"
    have hb : (1 + r3).natAbs < 2 ^ 3 := by omega
    refine ⟨_, _, rfl, by omega, Nat.lt_of_lt_of_le hb (pow_le (by decide)), fun H4 v s4 hv => ?_⟩
    exact q _ _ _ ((w2.trans w3).trans (Same.fw s4)) (k3.same s4) hv (Bd.divInt (by omega) (by omega) hb) (divInt_pos (by omega) (by omega))
def sp_hstall (K : PySem.W.Frag) (M : Nat) : Sp := fun vs H Q _ => ∃ (D C : Addr) (c n u v : Nat) (vx : V) (x : Rat), vs = [.ref D, .int (u : Nat), .int (v : Nat), vx] ∧ Hnd M D C H c ∧ c ≤ 2 ^ 38 ∧ IsF K H vx x ∧ Bd 6 x ∧ 0 < x ∧ u < n ∧ v < n ∧ u ≠ v ∧
  ∀ H' z r, Fw D H H' → Hnd M D C H' (c + 2) → IsSt K H' z ⟨u, v, r * x, r / x, r⟩ → OkSt n ⟨u, v, r * x, r / x, r⟩ → BdSt 9 ⟨u, v, r * x, r / x, r⟩ → Bd 3 r → Q z H'
theorem ok_l_hstall {M : Nat} (hM : 64 ≤ M) (hM2 : M ≤ 1048576) (T : Txt K mg f_is_integer f_is_row f_is_fraction f_is_some f_multiplied f_squared f_is_stall f_across f_hold_of f_is_index f_is_step f_end_of f_is_walk f_is_ring f_is_uneven f_is_uneven_ring f_l_hand f_l_draw f_l_gcd f_l_frac f_l_times f_l_over f_l_some f_l_shuffled f_l_stall f_l_stalls f_l_sizes f_l_whole f_l_is_flag f_l_is_uneven f_l_ring f_l_back f_l_bent f_law f_Web_init f_Web_eq c_Web c_ONE d_is_integer d_is_row d_is_fraction d_is_some d_multiplied d_squared d_is_stall d_across d_hold_of d_is_index d_is_step d_end_of d_is_walk d_is_ring d_is_uneven d_is_uneven_ring d_l_hand d_l_draw d_l_gcd d_l_frac d_l_times d_l_over d_l_some d_l_shuffled d_l_stall d_l_stalls d_l_sizes d_l_whole d_l_is_flag d_l_is_uneven d_l_ring d_l_back d_l_bent d_law d_Web_init d_Web_eq) : FnOk P w K mg base CX0 4 f_l_stall d_l_stall ["_law_hand_here", "_law_one", "_law_other", "_law_quotient"] (sp_hstall K M) := by
  have G_l_some : FnOk P w K mg base CX0 3 f_l_some d_l_some ["_law_hand_here"] (sp_hsome K M) := ok_l_hsome hM hM2 T
  have G_l_times : FnOk P w K mg base CX0 3 f_l_times d_l_times ["_law_one", "_law_other"] (sp_two9 K (· * ·)) := ok_l_times T
  have G_l_over : FnOk P w K mg base CX0 3 f_l_over d_l_over ["_law_one", "_law_other"] (sp_over K) := ok_l_over T
  refine T.F_l_stall.ok sc_l_stall (fun vs H Q E h => ?_) (fun cdv A outer sh H vs Q E hr h => ?_)
  · obtain ⟨D, C, c, n, u, v, vx, x, rfl, _⟩ := h
    rfl
  · obtain ⟨D, C, c, n, u, v, vx, x, rfl, dk, hc, ix, bx, x0, hu, hv, huv, q⟩ := h
    refine ⟨_, (pss_cons (ps_set (i := 4) sc_l_stall.nd rfl (by first | exact Or.inl rfl | exact Or.inr rfl) (pe_call G_l_some (hr.mono (by decide)) (by rfl) T.g_l_some T.k_l_some T.b_l_some .nil pass0 (pa_cons (pv 0) pa_nil)))
      (pss_one (ps_ret (pe_tup (pa_cons (pv 1) (pa_cons (pv 2) (pa_cons (pe_call G_l_times (hr.mono (by decide)) (by rfl) T.g_l_times T.k_l_times T.b_l_times .nil pass0 (pa_cons (pv 4) (pa_cons (pv 3) pa_nil))) (pa_cons (pe_call G_l_over (hr.mono (by decide)) (by rfl) T.g_l_over T.k_l_over T.b_l_over .nil pass0 (pa_cons (pv 4) (pa_cons (pv 3) pa_nil))) (pa_cons (pv 4) pa_nil))))))))), ?_⟩
    walk_at "r"
    refine ⟨_, _, _, rfl, dk, by omega, fun H1 vr r w1 k1 ir br r0 => ?_⟩
    have ix1 := ix.ts (dk.tps w1)
    walk_at "r"
    refine ⟨_, _, _, _, rfl, ir, ix1, br.mono (by decide), bx.mono (by decide), fun H2 va s2 ia => ?_⟩
    have ia : IsF K H2 va (r * x) := ia
    walk_at "r"
    refine ⟨_, _, _, _, rfl, ir.same s2, ix1.same s2, x0, br.mono (by decide), bx.mono (by decide), fun H3 vb s3 ib => ?_⟩
    walk_at "r"
    intro p np
    have s4 := same_upd (o := .tup [V.int (u : Nat), .int (v : Nat), va, vb, vr]) np
    refine q _ _ r (w1.trans (Same.fw ((s2.trans s3).trans s4))) (k1.same ((s2.trans s3).trans s4)) ⟨p, va, vb, vr, rfl, upd_same, (ia.same s3).same s4, ib.same s4, ((ir.same s2).same s3).same s4⟩ ?_ ?_ br
    · refine ⟨hu, hv, huv, Rat.mul_pos r0 x0, div_pos' r0 x0, r0, ?_⟩
      show r * x * (r / x) = r * r
      rw [Rat.mul_assoc, mul_div_self (ne_of_pos x0)]
    · exact ⟨(br.mul bx).mono (by decide), (br.div (ne_of_pos x0) bx).mono (by decide), br.mono (by decide)⟩
def sp_hshuf (M : Nat) : Sp := fun vs H Q _ => ∃ (D C S : Addr) (c : Nat) (xs : List V), vs = [.ref D, .ref S] ∧ Hnd M D C H c ∧ c ≤ 2 ^ 38 ∧ H S = some (.lst xs) ∧ xs.length ≤ 64 ∧
  ∀ H' F zs, Fw D H H' → Hnd M D C H' (c + xs.length) → H F = none → H' F = some (.lst zs) → zs.Perm xs → Q (.ref F) H'
theorem ok_l_hshuf {M : Nat} (hM : 64 ≤ M) (hM2 : M ≤ 1048576) (T : Txt K mg f_is_integer f_is_row f_is_fraction f_is_some f_multiplied f_squared f_is_stall f_across f_hold_of f_is_index f_is_step f_end_of f_is_walk f_is_ring f_is_uneven f_is_uneven_ring f_l_hand f_l_draw f_l_gcd f_l_frac f_l_times f_l_over f_l_some f_l_shuffled f_l_stall f_l_stalls f_l_sizes f_l_whole f_l_is_flag f_l_is_uneven f_l_ring f_l_back f_l_bent f_law f_Web_init f_Web_eq c_Web c_ONE d_is_integer d_is_row d_is_fraction d_is_some d_multiplied d_squared d_is_stall d_across d_hold_of d_is_index d_is_step d_end_of d_is_walk d_is_ring d_is_uneven d_is_uneven_ring d_l_hand d_l_draw d_l_gcd d_l_frac d_l_times d_l_over d_l_some d_l_shuffled d_l_stall d_l_stalls d_l_sizes d_l_whole d_l_is_flag d_l_is_uneven d_l_ring d_l_back d_l_bent d_law d_Web_init d_Web_eq) : FnOk P w K mg base CX0 2 f_l_shuffled d_l_shuffled ["_law_hand_here", "_law_things"] (sp_hshuf M) := by
  have G_l_draw : FnOk P w K mg base CX0 1 f_l_draw d_l_draw ["_law_hand_here", "_law_many"] (sp_hdraw M) := ok_l_hdraw hM hM2 T
  refine T.F_l_shuffled.ok sc_l_shuffled (fun vs H Q E h => ?_) (fun cdv A outer sh H vs Q E hr h => ?_)
  · obtain ⟨D, C, S, c, xs, rfl, _⟩ := h
    rfl
  · obtain ⟨D, C, S, c, xs, rfl, dk, hc, hS, hl, q⟩ := h
    refine ⟨_, (pss_cons (ps_set (i := 2) sc_l_shuffled.nd rfl (by first | exact Or.inl rfl | exact Or.inr rfl) (pe_callTy call_list_of (by rfl) T.z_list (by decide +kernel) (pa_cons (pv 1) pa_nil)))
      (pss_cons (ps_set (i := 3) sc_l_shuffled.nd rfl (by first | exact Or.inl rfl | exact Or.inr rfl) (pe_lst pa_nil))
      (pss_cons (ps_while PassesOwn.never (pt_cmpR op_gt (pe_callB call_lenN (by rfl) T.z_len (by decide +kernel) (pa_cons (pv 2) pa_nil)) pe_int (nomark _))
        (pss_one (ps_expr (pe_bm PySem.F.plainAttrs_list PySem.F.slot_list_append PySem.F.type_list_append mt_append (pv 3) (pa_cons (pe_bm PySem.F.plainAttrs_list PySem.F.slot_list_pop PySem.F.type_list_pop mt_popAt (pv 2) (pa_cons (pe_call G_l_draw (hr.mono (by decide)) (by rfl) T.g_l_draw T.k_l_draw T.b_l_draw .nil pass0 (pa_cons (pv 0) (pa_cons (pe_callB call_lenN (by rfl) T.z_len (by decide +kernel) (pa_cons (pv 2) pa_nil)) pa_nil))) pa_nil)) pa_nil)))))
      (pss_one (ps_ret (pv 3)))))), ?_⟩
    walk_at "r"
    refine ⟨_, xs, rfl, .inl (.of hS), fun L nL => ?_⟩
    have s1 := same_upd (o := .lst xs) nL
    have hL : upd H L (.lst xs) L = some (.lst xs) := upd_same
    generalize upd H L (.lst xs) = H1 at *
    walk_at "r"
    intro F nF
    have s2 := same_upd (o := .lst ([] : List V)) nF
    have hF : upd H1 F (.lst []) F = some (.lst []) := upd_same
    generalize upd H1 F (.lst []) = H2 at *
    have LD : L ≠ D := dk.ne nL
    have LC : L ≠ C := dk.neC nL
    have FD : F ≠ D := (dk.same s1).ne nF
    have FC : F ≠ C := (dk.same s1).neC nF
    have LF : L ≠ F := ne_of_none hL nF
    have nF0 : H F = none := s1.free nF
    walk_at "r"
    refine ⟨fun m σ H' => ∃ ls fs : List V, σ = [some (.ref D), some (.ref S), some (.ref L), some (.ref F)] ∧ Fw D H H' ∧ Hnd M D C H' (c + fs.length) ∧ H' L = some (.lst ls) ∧ H' F = some (.lst fs) ∧ (fs ++ ls).Perm xs ∧ m = ls.length, ⟨xs.length, xs, [], rfl, Same.fw (s1.trans s2), dk.same (s1.trans s2), s2 _ _ hL, hF, .refl _, rfl⟩, ?_⟩
    rintro m σ H3 ⟨ls, fs, rfl, f3, k3, hL3, hF3, pm, em⟩
    have lp : fs.length + ls.length = xs.length := by rw [← pm.length_eq, List.length_append]
    walk_at "r"
    walk_at "if"
    · rename_i hpos
      refine ⟨fun σ H' => ∃ ls' fs' : List V, σ = [some (.ref D), some (.ref S), some (.ref L), some (.ref F)] ∧ Fw D H H' ∧ Hnd M D C H' (c + fs'.length) ∧ H' L = some (.lst ls') ∧ H' F = some (.lst fs') ∧ (fs' ++ ls').Perm xs ∧ ls'.length < m, ?_, ?_⟩
      · rintro σ' H' ⟨ls', fs', e1, e2, e3, e4, e5, e6, e7⟩
        exact ⟨_, e7, ls', fs', e1, e2, e3, e4, e5, e6, rfl⟩
      walk_at "r"
      refine ⟨Or.inl ⟨rfl, _, Or.inl (Or.inl hF3)⟩, ?_⟩
      walk_at "r"
      refine ⟨Or.inl ⟨rfl, _, Or.inl (Or.inl hL3)⟩, ?_⟩
      walk_at "r"
      refine ⟨_, _, _, _, rfl, ⟨by omega, by omega⟩, k3, by omega, fun H4 r4 w4 k4 a4 b4 => ?_⟩
      obtain ⟨r, rfl⟩ := Int.eq_ofNat_of_zero_le a4
      have hr4 : r < ls.length := by omega
      have hx : ls[r]? = some (ls[r]'(by omega)) := List.getElem?_eq_getElem (by omega)
      generalize ls[r]'(by omega) = x at *
      have hL4 := w4 _ _ LD hL3
      have hF4 := w4 _ _ FD hF3
      walk_at "r"
      refine ⟨L, _, (r : Nat), r, _, rfl, rfl, hL4, by omega, by omega, seq_ixH hr4, hx, ?_⟩
      walk_at "r"
      have hF5 : upd H4 L (.lst (ls.eraseIdx r)) F = some (.lst fs) := (upd_ne (Ne.symm LF)).trans hF4
      have hL5 : upd H4 L (.lst (ls.eraseIdx r)) L = some (.lst (ls.eraseIdx r)) := upd_same
      have k5 := k4.put (o := .lst (ls.eraseIdx r)) LD LC
      have f5 : Fw D H (upd H4 L (.lst (ls.eraseIdx r))) := fun b o hb h => (upd_ne (ne_of_none h nL)).trans (w4 _ _ hb (f3 _ _ hb h))
      generalize upd H4 L (.lst (ls.eraseIdx r)) = H5 at *
      refine ⟨F, _, _, rfl, rfl, hF5, small1000 (by omega), ?_⟩
      have pm2 : ((fs ++ [x]) ++ ls.eraseIdx r).Perm (fs ++ ls) := by
        rw [List.append_assoc]
        exact List.Perm.append_left fs (erase_permV hx)
      refine ⟨ls.eraseIdx r, fs ++ [x], rfl, fun b o hb h => (upd_ne (ne_of_none h nF0)).trans (f5 _ _ hb h), (k5.put FD FC).mono (by simp; omega), (upd_ne LF).trans hL5, upd_same, pm2.trans pm, ?_⟩
      rw [List.length_eraseIdx_of_lt (by omega)]
      omega
    · rename_i hpos
      have e0 : ls = [] := List.eq_nil_of_length_eq_zero (by omega)
      subst e0
      rw [List.append_nil] at pm
      walk_at "r"
      exact q _ F fs f3 (k3.mono (by omega)) nF0 hF3 pm
def sp_hsizes (M : Nat) : Sp := fun vs H Q _ => ∃ (D C : Addr) (c : Nat), vs = [.ref D] ∧ Hnd M D C H c ∧ c ≤ 2 ^ 38 ∧
  ∀ H' p (n m : Nat), Fw D H H' → Hnd M D C H' (c + 3) → H' p = some (.tup [V.int (n : Nat), .int (m : Nat)]) → 1 ≤ n → n ≤ 8 → m ≤ 16 → Q (.ref p) H'
theorem ok_l_sizes {M : Nat} (hM : 64 ≤ M) (hM2 : M ≤ 1048576) (T : Txt K mg f_is_integer f_is_row f_is_fraction f_is_some f_multiplied f_squared f_is_stall f_across f_hold_of f_is_index f_is_step f_end_of f_is_walk f_is_ring f_is_uneven f_is_uneven_ring f_l_hand f_l_draw f_l_gcd f_l_frac f_l_times f_l_over f_l_some f_l_shuffled f_l_stall f_l_stalls f_l_sizes f_l_whole f_l_is_flag f_l_is_uneven f_l_ring f_l_back f_l_bent f_law f_Web_init f_Web_eq c_Web c_ONE d_is_integer d_is_row d_is_fraction d_is_some d_multiplied d_squared d_is_stall d_across d_hold_of d_is_index d_is_step d_end_of d_is_walk d_is_ring d_is_uneven d_is_uneven_ring d_l_hand d_l_draw d_l_gcd d_l_frac d_l_times d_l_over d_l_some d_l_shuffled d_l_stall d_l_stalls d_l_sizes d_l_whole d_l_is_flag d_l_is_uneven d_l_ring d_l_back d_l_bent d_law d_Web_init d_Web_eq) : FnOk P w K mg base CX0 2 f_l_sizes d_l_sizes ["_law_hand_here"] (sp_hsizes M) := by
  have G_l_draw : FnOk P w K mg base CX0 1 f_l_draw d_l_draw ["_law_hand_here", "_law_many"] (sp_hdraw M) := ok_l_hdraw hM hM2 T
  refine T.F_l_sizes.ok sc_l_sizes (fun vs H Q E h => ?_) (fun cdv A outer sh H vs Q E hr h => ?_)
  · obtain ⟨D, C, c, rfl, _⟩ := h
    rfl
  · obtain ⟨D, C, c, rfl, dk, hc, q⟩ := h
    refine ⟨_, (pss_cons (ps_if (pt_cmpR op_eq (pe_call G_l_draw (hr.mono (by decide)) (by rfl) T.g_l_draw T.k_l_draw T.b_l_draw .nil pass0 (pa_cons (pv 0) (pa_cons pe_int pa_nil))) pe_int (nomark _))
        (pss_one (ps_ret (pe_tup (pa_cons (pe_op op_add pe_int (pe_call G_l_draw (hr.mono (by decide)) (by rfl) T.g_l_draw T.k_l_draw T.b_l_draw .nil pass0 (pa_cons (pv 0) (pa_cons pe_int pa_nil)))) (pa_cons (pe_op op_add pe_int (pe_call G_l_draw (hr.mono (by decide)) (by rfl) T.g_l_draw T.k_l_draw T.b_l_draw .nil pass0 (pa_cons (pv 0) (pa_cons pe_int pa_nil)))) pa_nil)))))
        pss_nil)
      (pss_cons (ps_set (i := 1) sc_l_sizes.nd rfl (by first | exact Or.inl rfl | exact Or.inr rfl) (pe_op op_add pe_int (pe_call G_l_draw (hr.mono (by decide)) (by rfl) T.g_l_draw T.k_l_draw T.b_l_draw .nil pass0 (pa_cons (pv 0) (pa_cons pe_int pa_nil)))))
      (pss_one (ps_ret (pe_tup (pa_cons (pv 1) (pa_cons (pe_call G_l_draw (hr.mono (by decide)) (by rfl) T.g_l_draw T.k_l_draw T.b_l_draw .nil pass0 (pa_cons (pv 0) (pa_cons (pe_op op_add pe_int (pv 1)) pa_nil))) pa_nil))))))), ?_⟩
    walk_at "r"
    refine ⟨_, _, _, _, rfl, ⟨by decide, by decide⟩, dk, by omega, fun H2 r2 w2 k2 a2 b2 => ?_⟩
    walk_at "r"
    walk_at "if"
    · walk_at "r"
      refine ⟨_, _, _, _, rfl, ⟨by decide, by decide⟩, k2, by omega, fun H3 r3 w3 k3 a3 b3 => ?_⟩
      walk_at "r"
      refine ⟨_, _, _, _, rfl, ⟨by decide, by decide⟩, k3, by omega, fun H4 r4 w4 k4 a4 b4 => ?_⟩
      walk_at "r"
      intro p np
      have s5 := same_upd (o := .tup [V.int (6 + r3), .int (6 + r4)]) np
      refine q _ p (6 + r3).toNat (6 + r4).toNat (((w2.trans w3).trans w4).trans (Same.fw s5)) (k4.same s5) ?_ (by omega) (by omega) (by omega)
      rw [upd_same, show (((6 + r3).toNat : Nat) : Int) = 6 + r3 by omega, show (((6 + r4).toNat : Nat) : Int) = 6 + r4 by omega]
    · walk_at "r"
      refine ⟨_, _, _, _, rfl, ⟨by decide, by decide⟩, k2, by omega, fun H3 r3 w3 k3 a3 b3 => ?_⟩
      walk_at "r"
      refine ⟨_, _, _, _, rfl, ⟨by omega, by omega⟩, k3, by omega, fun H4 r4 w4 k4 a4 b4 => ?_⟩
      walk_at "r"
      intro p np
      have s5 := same_upd (o := .tup [V.int (1 + r3), .int r4]) np
      refine q _ p (1 + r3).toNat r4.toNat (((w2.trans w3).trans w4).trans (Same.fw s5)) (k4.same s5) ?_ (by omega) (by omega) (by omega)
      rw [upd_same, show (((1 + r3).toNat : Nat) : Int) = 1 + r3 by omega, show ((r4.toNat : Nat) : Int) = r4 by omega]
end
end My
namespace My
open PySem PySem.Spec PyProof.Rows L2
variable {K : PySem.W.Frag}
theorem Fs.ts {H H' : Hp} {ys : List V} {rs : List Rat} (f : Tps H H') (h : Fs K H ys rs) : Fs K H' ys rs := Paired.mapP h fun _ _ h => h.ts f
end My
namespace My
open PySem PySem.Spec PyProof.Rows L2
variable {K : PySem.W.Frag}
theorem Fs.getD' {H : Hp} {ys : List V} {rs : List Rat} (h : Fs K H ys rs) {i : Nat} (hi : i < rs.length) : ∃ v, ys[i]? = some v ∧ IsF K H v (rs.getD i 0) := by
  refine Paired.get' h ?_
  rw [List.getD_eq_getElem?_getD, List.getElem?_eq_getElem hi]
  rfl
end My
namespace My
open PySem PySem.Spec PyProof.Rows L2
variable {K : PySem.W.Frag}
theorem Sts.snocH {H : Hp} {xs : List V} {ss : List Stl} {v : V} {s : Stl} (h : Sts K H xs ss) (hv : IsSt K H v s) : Sts K H (xs ++ [v]) (ss ++ [s]) := by
  unfold Sts at *
  induction h with
  | nil => exact .cons hv .nil
  | cons h t ih => exact .cons h ih
theorem other_neH {a d n : Int} (a0 : 0 ≤ a) (a1 : a < n) (d0 : 0 ≤ d) (d1 : d < n - 1) : 0 ≤ (a + 1 + d) % n ∧ (a + 1 + d) % n < n ∧ (a + 1 + d) % n ≠ a := by
  have m := mod_rng (a + 1 + d) (m := n) (by omega)
  refine ⟨m.1, m.2, ?_⟩
  by_cases h : a + 1 + d < n
  · rw [Int.emod_eq_of_lt (by omega) h]
    omega
  · have e : (a + 1 + d) % n = (a + 1 + d - n) % n := (Int.sub_emod_right _ _).symm
    rw [e, Int.emod_eq_of_lt (by omega) (by omega)]
    omega
theorem Fs.getD1 {H : Hp} {ys : List V} {rs : List Rat} (h : Fs K H ys rs) {i : Nat} (hi : i < rs.length) : ∃ v, ys[i]? = some v ∧ IsF K H v (rs.getD i 1) := by
  obtain ⟨v, h1, h2⟩ := h.getD' hi
  refine ⟨v, h1, ?_⟩
  rw [List.getD_eq_getElem?_getD, List.getElem?_eq_getElem hi] at h2 ⊢
  exact h2
theorem getD_pos {rs : List Rat} (h : ∀ r ∈ rs, 0 < r ∧ Bd 3 r) (i : Nat) : 0 < rs.getD i 1 ∧ Bd 3 (rs.getD i 1) := by
  rw [List.getD_eq_getElem?_getD]
  cases e : rs[i]? with
  | none => exact ⟨by decide, by decide, by decide⟩
  | some r => exact h r (List.mem_of_getElem? e)
/-- the stalls hold what these scales ask -/
def FitSc (sc : Nat → Rat) (s : Stl) : Prop := s.a = s.r * (sc s.v / sc s.u) ∧ s.b = s.r / (sc s.v / sc s.u)
section
variable {P : Program} {w : World} {K : PySem.W.Frag} {mg : Str → Option Value} {base : Heap} {f_is_integer f_is_row f_is_fraction f_is_some f_multiplied f_squared f_is_stall f_across f_hold_of f_is_index f_is_step f_end_of f_is_walk f_is_ring f_is_uneven f_is_uneven_ring f_l_hand f_l_draw f_l_gcd f_l_frac f_l_times f_l_over f_l_some f_l_shuffled f_l_stall f_l_stalls f_l_sizes f_l_whole f_l_is_flag f_l_is_uneven f_l_ring f_l_back f_l_bent f_law f_Web_init f_Web_eq c_Web c_ONE : Addr} {d_is_integer d_is_row d_is_fraction d_is_some d_multiplied d_squared d_is_stall d_across d_hold_of d_is_index d_is_step d_end_of d_is_walk d_is_ring d_is_uneven d_is_uneven_ring d_l_hand d_l_draw d_l_gcd d_l_frac d_l_times d_l_over d_l_some d_l_shuffled d_l_stall d_l_stalls d_l_sizes d_l_whole d_l_is_flag d_l_is_uneven d_l_ring d_l_back d_l_bent d_law d_Web_init d_Web_eq : FuncData}
def sp_hstalls (K : PySem.W.Frag) (M : Nat) : Sp := fun vs H Q _ => ∃ (D C : Addr) (c n m : Nat) (way : Int), vs = [.ref D, .int (n : Nat), .int (m : Nat), .int way] ∧ Hnd M D C H c ∧ c ≤ 2 ^ 37 ∧ 1 ≤ n ∧ n ≤ 8 ∧ m ≤ 18 ∧
  ∀ H' F zs ss, Fw D H H' → Hnd M D C H' (c + 200) → H F = none → H' F = some (.lst zs) → Sts K H' zs ss → ss.length = (if 1 < n then m else 0) → (∀ s ∈ ss, OkSt n s ∧ BdSt 9 s ∧ Bd 3 s.r) →
    (way = 1 → ∃ sc : Nat → Rat, (∀ i, 0 < sc i) ∧ ∀ s ∈ ss, FitSc sc s) → Q (.ref F) H'
theorem ok_l_hstalls {M : Nat} (hM : 64 ≤ M) (hM2 : M ≤ 1048576) (T : Txt K mg f_is_integer f_is_row f_is_fraction f_is_some f_multiplied f_squared f_is_stall f_across f_hold_of f_is_index f_is_step f_end_of f_is_walk f_is_ring f_is_uneven f_is_uneven_ring f_l_hand f_l_draw f_l_gcd f_l_frac f_l_times f_l_over f_l_some f_l_shuffled f_l_stall f_l_stalls f_l_sizes f_l_whole f_l_is_flag f_l_is_uneven f_l_ring f_l_back f_l_bent f_law f_Web_init f_Web_eq c_Web c_ONE d_is_integer d_is_row d_is_fraction d_is_some d_multiplied d_squared d_is_stall d_across d_hold_of d_is_index d_is_step d_end_of d_is_walk d_is_ring d_is_uneven d_is_uneven_ring d_l_hand d_l_draw d_l_gcd d_l_frac d_l_times d_l_over d_l_some d_l_shuffled d_l_stall d_l_stalls d_l_sizes d_l_whole d_l_is_flag d_l_is_uneven d_l_ring d_l_back d_l_bent d_law d_Web_init d_Web_eq) : FnOk P w K mg base CX0 5 f_l_stalls d_l_stalls ["_law_hand_here", "_law_wares", "_law_many", "_law_way"] (sp_hstalls K M) := by
  have G_l_draw : FnOk P w K mg base CX0 1 f_l_draw d_l_draw ["_law_hand_here", "_law_many"] (sp_hdraw M) := ok_l_hdraw hM hM2 T
  have G_l_some : FnOk P w K mg base CX0 3 f_l_some d_l_some ["_law_hand_here"] (sp_hsome K M) := ok_l_hsome hM hM2 T
  have G_l_over : FnOk P w K mg base CX0 3 f_l_over d_l_over ["_law_one", "_law_other"] (sp_over K) := ok_l_over T
  have G_l_stall : FnOk P w K mg base CX0 4 f_l_stall d_l_stall ["_law_hand_here", "_law_one", "_law_other", "_law_quotient"] (sp_hstall K M) := ok_l_hstall hM hM2 T
  have G_l_shuffled : FnOk P w K mg base CX0 2 f_l_shuffled d_l_shuffled ["_law_hand_here", "_law_things"] (sp_hshuf M) := ok_l_hshuf hM hM2 T
  refine T.F_l_stalls.ok sc_l_stalls (fun vs H Q E h => ?_) (fun cdv A outer sh H vs Q E hr h => ?_)
  · obtain ⟨D, C, c, n, m, way, rfl, _⟩ := h
    rfl
  · obtain ⟨D, C, c, n, m, way, rfl, dk, hc, n1, n8, hm, q⟩ := h
    refine ⟨_, (pss_cons (ps_setLc (i := 4) (own := [("_law_ware", 5)]) (g := gName 5) rfl sc_l_stalls.nd rfl rfl (sw_true rfl rfl rfl (by decide +kernel)) (pi_range1 (by rfl) T.z_range (pa_cons (pv 1) pa_nil)) (blkOk_by (own := [("_law_ware", 5)]) (N := N_l_stalls) (sc := defScope s_l_stalls) (by decide +kernel)) (fun _ _ _ _ _ => (pg_name (i := 5) sc_l_stalls.nd rfl (by first | exact Or.inl rfl | exact Or.inr rfl))) (fun _ _ _ _ _ => pts_nil) (fun _ _ _ _ _ => (pe_call G_l_some (hr.mono (by decide)) (by rfl) T.g_l_some T.k_l_some T.b_l_some .nil pass0 (pa_cons (pv 0) pa_nil))))
      (pss_cons (ps_set (i := 6) sc_l_stalls.nd rfl (by first | exact Or.inl rfl | exact Or.inr rfl) (pe_cmpR op_gt (pe_call G_l_draw (hr.mono (by decide)) (by rfl) T.g_l_draw T.k_l_draw T.b_l_draw .nil pass0 (pa_cons (pv 0) (pa_cons pe_int pa_nil))) pe_int (nomark _)))
      (pss_cons (ps_set (i := 7) sc_l_stalls.nd rfl (by first | exact Or.inl rfl | exact Or.inr rfl) (pe_call G_l_draw (hr.mono (by decide)) (by rfl) T.g_l_draw T.k_l_draw T.b_l_draw .nil pass0 (pa_cons (pv 0) (pa_cons (pe_op op_add (pv 2) pe_int) pa_nil))))
      (pss_cons (ps_set (i := 8) sc_l_stalls.nd rfl (by first | exact Or.inl rfl | exact Or.inr rfl) (pe_lst pa_nil))
      (pss_cons (ps_for PassesOwn.never rfl (pi_range1 (by rfl) T.z_range (pa_cons (pe_op op_mulX (pv 2) (pe_callTy call_intN (by rfl) T.z_int (by decide +kernel) (pa_cons (pe_cmpR op_gt (pv 1) pe_int (nomark _)) pa_nil))) pa_nil)) (pg_name (i := 9) sc_l_stalls.nd rfl (by first | exact Or.inl rfl | exact Or.inr rfl))
        (pss_cons (ps_set (i := 10) sc_l_stalls.nd rfl (by first | exact Or.inl rfl | exact Or.inr rfl) (pe_call G_l_draw (hr.mono (by decide)) (by rfl) T.g_l_draw T.k_l_draw T.b_l_draw .nil pass0 (pa_cons (pv 0) (pa_cons (pv 1) pa_nil))))
          (pss_cons (ps_set (i := 11) sc_l_stalls.nd rfl (by first | exact Or.inl rfl | exact Or.inr rfl) (pe_op op_mod (pe_callTy call_intN (by rfl) T.z_int (by decide +kernel) (pa_cons (pe_op op_add (pe_op op_add (pv 10) pe_int) (pe_call G_l_draw (hr.mono (by decide)) (by rfl) T.g_l_draw T.k_l_draw T.b_l_draw .nil pass0 (pa_cons (pv 0) (pa_cons (pe_op op_sub (pv 1) pe_int) pa_nil)))) pa_nil)) (pv 1)))
          (C8.pss_cut (ps_if (PW.pt (pw_and (pt_val (pv 6)) (pw_and1 (pt_cmpR op_lt (pe_op op_add (pv 9) pe_int) (pv 1) (nomark _)))))
            (pss_cons (ps_asg (pe_ix ix_list (pe_lst (pa_cons (pe_tup (pa_cons (pe_op op_add (pv 9) pe_int) (pa_cons (pe_call G_l_draw (hr.mono (by decide)) (by rfl) T.g_l_draw T.k_l_draw T.b_l_draw .nil pass0 (pa_cons (pv 0) (pa_cons (pe_op op_add (pv 9) pe_int) pa_nil))) pa_nil))) (pa_cons (pe_tup (pa_cons (pe_op op_add (pv 9) pe_int) (pa_cons (pv 9) pa_nil))) pa_nil))) (pe_call G_l_draw (hr.mono (by decide)) (by rfl) T.g_l_draw T.k_l_draw T.b_l_draw .nil pass0 (pa_cons (pv 0) (pa_cons pe_int pa_nil))) (fun _ _ => rfl)) (pg_tup rfl (pgs_cons (pg_name (i := 10) sc_l_stalls.nd rfl (by first | exact Or.inl rfl | exact Or.inr rfl)) (pgs_cons (pg_name (i := 11) sc_l_stalls.nd rfl (by first | exact Or.inl rfl | exact Or.inr rfl)) pgs_nil))))
              (pss_one (ps_if (pt_cmpR op_eq (pe_call G_l_draw (hr.mono (by decide)) (by rfl) T.g_l_draw T.k_l_draw T.b_l_draw .nil pass0 (pa_cons (pv 0) (pa_cons pe_int pa_nil))) pe_int (nomark _))
                (pss_one (ps_par (i := 10) (j := 11) rfl sc_l_stalls.nd rfl rfl (by decide) rfl rfl (pa_cons (pv 11) (pa_cons (pv 10) pa_nil)) rfl))
                pss_nil)))
            pss_nil)
          (pss_cons (ps_set (i := 12) sc_l_stalls.nd rfl (by first | exact Or.inl rfl | exact Or.inr rfl) (pe_call G_l_over (hr.mono (by decide)) (by rfl) T.g_l_over T.k_l_over T.b_l_over .nil pass0 (pa_cons (pe_ix ix_list (pv 4) (pv 11) (fun _ _ => rfl)) (pa_cons (pe_ix ix_list (pv 4) (pv 10) (fun _ _ => rfl)) pa_nil))))
          (C8.pss_cut (ps_if (PW.pt (pw_or (pt_cmpR op_eq (pv 3) pe_int (nomark _)) (pw_or1 (PW.pt (pw_and (pt_cmpR op_eq (pv 3) pe_int (nomark _)) (pw_and1 (pt_cmpR op_eq (pv 9) (pv 7) (nomark _))))))))
            (pss_one (ps_set (i := 12) sc_l_stalls.nd rfl (by first | exact Or.inl rfl | exact Or.inr rfl) (pe_call G_l_some (hr.mono (by decide)) (by rfl) T.g_l_some T.k_l_some T.b_l_some .nil pass0 (pa_cons (pv 0) pa_nil))))
            pss_nil)
          (pss_one (ps_expr (pe_bm PySem.F.plainAttrs_list PySem.F.slot_list_append PySem.F.type_list_append mt_append (pv 8) (pa_cons (pe_call G_l_stall (hr.mono (by decide)) (by rfl) T.g_l_stall T.k_l_stall T.b_l_stall .nil pass0 (pa_cons (pv 0) (pa_cons (pv 10) (pa_cons (pv 11) (pa_cons (pv 12) pa_nil))))) pa_nil))))))))))
      (pss_one (ps_ret (pe_call G_l_shuffled (hr.mono (by decide)) (by rfl) T.g_l_shuffled T.k_l_shuffled T.b_l_shuffled .nil pass0 (pa_cons (pv 0) (pa_cons (pv 8) pa_nil)))))))))), ?_⟩
    walk_at "r"
    refine ⟨by omega, by omega, fun Sc nSc => ?_⟩
    have nScD := dk.ne nSc
    have nScC := dk.neC nSc
    refine lc_range (lo := 0) (n := n) (fun j H' => ∃ ys rs, Fw D H H' ∧ H' Sc = some (.lst ys) ∧ Fs K H' ys rs ∧ rs.length = j ∧ (∀ r ∈ rs, 0 < r ∧ Bd 3 r) ∧ Hnd M D C H' (c + 2 * j)) ?_ ?_ ?_
    · exact ⟨[], [], Same.fw (same_upd nSc), upd_same, .nil, rfl, by simp, dk.same (same_upd nSc)⟩
    · rintro j H' hj ⟨ys, rs, f1, hSc, hfs, hlr, hrs, k⟩
      have hly := hfs.len
      walk_at "r"
      refine ⟨rfl, ?_⟩
      walk_at "r"
      refine ⟨_, _, _, rfl, k, by omega, fun H2 v r w2 k2 ir br r0 => ?_⟩
      walk_at "r"
      have hSc2 := w2 _ _ nScD hSc
      have tp := tps_put (H1 := H2) (o := .lst (ys ++ [v])) hSc2
      refine ⟨ys, hSc2, small1000 (by omega), ys ++ [v], rs ++ [r], fun b o hb' h => (upd_ne (ne_of_none h nSc)).trans (w2 _ _ hb' (f1 _ _ hb' h)), upd_same, ?_, by simp [hlr], ?_, (k2.put nScD nScC).mono (by omega)⟩
      · exact Paired.snoc ((hfs.ts (k.tps w2)).ts tp) (ir.ts tp)
      · intro z hz
        rcases List.mem_append.mp hz with h | h
        · exact hrs z h
        · rw [List.mem_singleton.mp h]
          exact ⟨r0, br⟩
    rintro H1 ⟨ys, rs, f1, hSc, hfs, hlr, hrs, k1⟩
    have hly := hfs.len
    walk_at "r"
    refine ⟨_, _, _, _, rfl, ⟨by decide, by decide⟩, k1, by omega, fun H2 r2 w2 k2 a2 b2 => ?_⟩
    have f2 := f1.trans w2
    have hSc2 := w2 _ _ nScD hSc
    have hfs2 := hfs.ts (k1.tps w2)
    walk_at "r"
    generalize decide (0 < r2) = hung
    refine ⟨_, _, _, _, rfl, ⟨by omega, by omega⟩, k2, by omega, fun H3 r3 w3 k3 a3 b3 => ?_⟩
    have f3 := f2.trans w3
    have hSc3 := w3 _ _ nScD hSc2
    have hfs3 := hfs2.ts (k2.tps w3)
    walk_at "r"
    intro S nS
    have s4 := same_upd (o := .lst ([] : List V)) nS
    have hS4 : upd H3 S (.lst []) S = some (.lst []) := upd_same
    have nSD := k3.ne nS
    have nSC := k3.neC nS
    have nSa : H S = none := by
      cases e : H S with
      | none => rfl
      | some o => exact absurd ((f3 _ _ nSD e).symm.trans nS) (by simp)
    generalize upd H3 S (.lst []) = H4 at *
    have k4 := k3.same s4
    have f4 := f3.trans (Same.fw s4)
    have hSc4 := s4 _ _ hSc3
    have hfs4 := hfs3.same s4
    have hScS : Sc ≠ S := ne_of_none hSc3 nS
    clear f1 hSc hfs k1 w2 f2 hSc2 hfs2 k2 w3 f3 hSc3 hfs3 k3 s4
    have e18 : ((m : Nat) : Int) * (if decide (1 < ((n : Nat) : Int)) = true then 1 else 0) = ((if 1 < n then m else 0 : Nat) : Int) := by
      by_cases h : 1 < n
      · rw [if_pos h, if_pos (by simp; omega), Int.mul_one]
      · rw [if_neg h, if_neg (by simp; omega), Int.mul_zero]
        rfl
    walk_at "r"
    rotate_left
    · exact cmul_small (by omega) (by split <;> decide)
    rw [e18]
    have hmm : (if 1 < n then m else 0) ≤ 18 ∧ (0 < (if 1 < n then m else 0) → 1 < n) := by
      by_cases h : 1 < n
      · rw [if_pos h]
        exact ⟨hm, fun _ => h⟩
      · rw [if_neg h]
        exact ⟨by omega, fun z => absurd z (by omega)⟩
    generalize (if 1 < n then m else 0) = mm at *
    obtain ⟨hm1, hm2⟩ := hmm
    refine ⟨by omega, by omega, ?_⟩
    rw [Int.toNat_natCast]
    refine for_range (lo := 0) (n := mm) (fun i σ H' => ∃ (t9 t10 t11 t12 : Option V) (xs : List V) (ss : List Stl), σ = [some (.ref D), some (.int (n : Nat)), some (.int (m : Nat)), some (.int way), some (.ref Sc), none, some (.bl hung), some (.int r3), some (.ref S), t9, t10, t11, t12] ∧ Fw D H H' ∧ Hnd M D C H' (c + 18 + 9 * i) ∧ H' Sc = some (.lst ys) ∧ Fs K H' ys rs ∧
      H' S = some (.lst xs) ∧ Sts K H' xs ss ∧ ss.length = i ∧ (∀ s ∈ ss, OkSt n s ∧ BdSt 9 s ∧ Bd 3 s.r) ∧ (way = 1 → ∀ s ∈ ss, FitSc (fun i => rs.getD i 1) s)) ?_ ?_ ?_
    · exact ⟨_, _, _, _, [], [], rfl, f4, k4.mono (by omega), hSc4, hfs4, hS4, .nil, rfl, by simp, by simp⟩
    · rintro i σ H5 hi ⟨t9, t10, t11, t12, xs, ss, rfl, f5, k5, hSc5, hfs5, hS5, hst5, hls, hok, hfit⟩
      have hn1 := hm2 (by omega)
      have hlx := hst5.len
      walk_at "r"
      refine ⟨_, _, _, _, rfl, ⟨by omega, by omega⟩, k5, by omega, fun H6 r6 w6 k6 a6 b6 => ?_⟩
      walk_at "r"
      refine ⟨_, _, _, _, rfl, ⟨by omega, by omega⟩, k6, by omega, fun H7 r7 w7 k7 a7 b7 => ?_⟩
      obtain ⟨m1, m2, m3⟩ := other_neH a6 b6 a7 (show r7 < (n : Nat) - 1 by omega)
      obtain ⟨u, rfl⟩ := Int.eq_ofNat_of_zero_le a6
      obtain ⟨v, hv⟩ := Int.eq_ofNat_of_zero_le m1
      have w67 := w6.trans w7
      have t67 : Tps H5 H7 := fun b xs h => k6.tps w7 _ _ (k5.tps w6 _ _ h)
      have hSc7 := w67 _ _ nScD hSc5
      have hS7 := w67 _ _ nSD hS5
      have hfs7 := hfs5.ts t67
      have hst7 := hst5.ts t67
      have f7 := f5.trans w67
      rw [hv] at m2 m3
      clear f5 k5 hSc5 hfs5 hS5 hst5 w6 w7 k6 w67 t67
      walk_at "r"
      rw [hv]
      walk_at "r"
      refine ⟨fun σ H' => ∃ u v : Nat, σ = [some (.ref D), some (.int (n : Nat)), some (.int (m : Nat)), some (.int way), some (.ref Sc), none, some (.bl hung), some (.int r3), some (.ref S), some (.int (0 + (i : Nat))), some (.int (u : Nat)), some (.int (v : Nat)), t12] ∧ u < n ∧ v < n ∧ u ≠ v ∧ Fw D H7 H' ∧ Hnd M D C H' (c + 18 + 9 * i + 5), ?_, ?_⟩
      · cases hung
        · walk_at "r"
          exact ⟨u, v, rfl, by omega, by omega, by omega, Same.fw (Same.refl _), k7.mono (by omega)⟩
        · walk_at "r"
          walk_at "if"
          · rename_i hk1
            walk_at "r"
            refine ⟨_, _, _, _, rfl, ⟨by omega, by omega⟩, k7, by omega, fun H8 r8 w8 k8 a8 b8 => ?_⟩
            obtain ⟨y, rfl⟩ := Int.eq_ofNat_of_zero_le a8
            walk_at "r"
            intro p1 np1
            have s1 := same_upd (o := .tup [V.int (0 + (i : Nat) + 1), .int (y : Nat)]) np1
            have h1 : upd H8 p1 (.tup [V.int (0 + (i : Nat) + 1), .int (y : Nat)]) p1 = some (.tup [V.int (0 + (i : Nat) + 1), .int (y : Nat)]) := upd_same
            generalize upd H8 p1 (.tup [V.int (0 + (i : Nat) + 1), .int (y : Nat)]) = H9 at *
            walk_at "r"
            intro p2 np2
            have s2 := same_upd (o := .tup [V.int (0 + (i : Nat) + 1), .int (0 + (i : Nat))]) np2
            have h2 : upd H9 p2 (.tup [V.int (0 + (i : Nat) + 1), .int (0 + (i : Nat))]) p2 = some (.tup [V.int (0 + (i : Nat) + 1), .int (0 + (i : Nat))]) := upd_same
            generalize upd H9 p2 (.tup [V.int (0 + (i : Nat) + 1), .int (0 + (i : Nat))]) = H10 at *
            walk_at "r"
            intro Lm nLm
            have s3 := same_upd (o := .lst [V.ref p1, .ref p2]) nLm
            have h3 : upd H10 Lm (.lst [V.ref p1, .ref p2]) Lm = some (.lst [V.ref p1, .ref p2]) := upd_same
            generalize upd H10 Lm (.lst [V.ref p1, .ref p2]) = H11 at *
            have k11 := ((k8.same s1).same s2).same s3
            have nLD : Lm ≠ D := ((k8.same s1).same s2).ne nLm
            have h1 := s3 _ _ (s2 _ _ h1)
            have h2 := s3 _ _ h2
            walk_at "r"
            refine ⟨_, _, _, _, rfl, ⟨by decide, by decide⟩, k11, by omega, fun H12 r12 w12 k12 a12 b12 => ?_⟩
            have h1 := k11.tps w12 _ _ h1
            have h2 := k11.tps w12 _ _ h2
            have f12 : Fw D H7 H12 := w8.trans ((Same.fw ((s1.trans s2).trans s3)).trans w12)
            obtain ⟨pp, z, ez, hz, zl⟩ : ∃ (pp : Addr) (z : Nat), atI [V.ref p1, .ref p2] r12 = some (.ref pp) ∧ H12 pp = some (.tup [V.int (0 + (i : Nat) + 1), .int (z : Nat)]) ∧ z < i + 1 := by
              rcases (show r12 = 0 ∨ r12 = 1 by omega) with rfl | rfl
              · exact ⟨p1, y, rfl, h1, by omega⟩
              · refine ⟨p2, i, rfl, ?_, by omega⟩
                rw [Int.zero_add] at h2
                rw [Int.zero_add]
                exact h2
            refine rd_ixL (w12 _ _ nLD h3) ez ?_
            clear h1 h2 h3 s1 s2 s3 k11 k8 w8 w12
            walk_at "r"
            refine ⟨_, _, _, _, rfl, ⟨by decide, by decide⟩, k12, by omega, fun H13 r13 w13 k13 a13 b13 => ?_⟩
            walk_at "r"
            walk_at "if"
            · walk_at "r"
              refine rd_parH ?_
              walk_at "r"
              refine ⟨_, _, rfl, ?_⟩
              refine ⟨z, i + 1, ?_, by omega, by omega, by omega, f12.trans w13, k13.mono (by omega)⟩
              rw [Int.zero_add]
              rfl
            · walk_at "r"
              refine ⟨i + 1, z, ?_, by omega, by omega, by omega, f12.trans w13, k13.mono (by omega)⟩
              rw [Int.zero_add]
              rfl
          · walk_at "r"
            exact ⟨u, v, rfl, by omega, by omega, by omega, Same.fw (Same.refl _), k7.mono (by omega)⟩
      rintro σ H8 ⟨u, v, rfl, hu, hv, huv, w8, k8⟩
      have hSc8 := w8 _ _ nScD hSc7
      have hS8 := w8 _ _ nSD hS7
      have hfs8 := hfs7.ts (k7.tps w8)
      have hst8 := hst7.ts (k7.tps w8)
      have f8 := f7.trans w8
      clear hSc7 hS7 hfs7 hst7 f7 w8 k7
      obtain ⟨vu, hvu, iu⟩ := hfs8.getD1 (i := u) (by omega)
      obtain ⟨vv, hvv, iv⟩ := hfs8.getD1 (i := v) (by omega)
      obtain ⟨pu, bu⟩ := getD_pos hrs u
      obtain ⟨pw, bw⟩ := getD_pos hrs v
      walk_at "r"
      refine rd_ixL hSc8 (atI_nat hvv) ?_
      walk_at "r"
      refine rd_ixL hSc8 (atI_nat hvu) ?_
      walk_at "r"
      refine ⟨_, _, _, _, rfl, iv, iu, pu, bw.mono (by decide), bu.mono (by decide), fun H9 vx s9 ix => ?_⟩
      have k9 := k8.same s9
      have bx : Bd 6 (rs.getD v 1 / rs.getD u 1) := bw.div (ne_of_pos pu) bu
      have px : 0 < rs.getD v 1 / rs.getD u 1 := div_pos' pw pu
      have hSc9 := s9 _ _ hSc8
      have hS9 := s9 _ _ hS8
      have hfs9 := hfs8.same s9
      have hst9 := hst8.same s9
      have f9 := f8.trans (Same.fw s9)
      clear hSc8 hS8 hfs8 hst8 f8 k8 iu iv s9
      walk_at "r"
      refine ⟨fun σ H' => ∃ (vx : V) (x : Rat), σ = [some (.ref D), some (.int (n : Nat)), some (.int (m : Nat)), some (.int way), some (.ref Sc), none, some (.bl hung), some (.int r3), some (.ref S), some (.int (0 + (i : Nat))), some (.int (u : Nat)), some (.int (v : Nat)), some vx] ∧ IsF K H' vx x ∧ Bd 6 x ∧ 0 < x ∧ (way = 1 → x = rs.getD v 1 / rs.getD u 1) ∧ Fw D H9 H' ∧ Hnd M D C H' (c + 18 + 9 * i + 7), ?_, ?_⟩
      · walk_at "r"
        walk_at "if"
        · walk_at "r"
          refine ⟨_, _, _, rfl, k9, by omega, fun Hq vq rq wq kq iq bq pq => ?_⟩
          walk_at "r"
          exact ⟨vq, rq, rfl, iq, bq.mono (by decide), pq, fun h => absurd h (by omega), wq, kq.mono (by omega)⟩
        · walk_at "r"
          walk_at "if"
          · walk_at "r"
            walk_at "if"
            · walk_at "r"
              refine ⟨_, _, _, rfl, k9, by omega, fun Hq vq rq wq kq iq bq pq => ?_⟩
              walk_at "r"
              exact ⟨vq, rq, rfl, iq, bq.mono (by decide), pq, fun h => absurd h (by omega), wq, kq.mono (by omega)⟩
            · walk_at "r"
              exact ⟨vx, _, rfl, ix, bx, px, fun _ => rfl, Same.fw (Same.refl _), k9.mono (by omega)⟩
          · walk_at "r"
            exact ⟨vx, _, rfl, ix, bx, px, fun _ => rfl, Same.fw (Same.refl _), k9.mono (by omega)⟩
      rintro σ H10 ⟨vx, x, rfl, ix, bx, px, ex, w10, k10⟩
      have hSc10 := w10 _ _ nScD hSc9
      have hS10 := w10 _ _ nSD hS9
      have hfs10 := hfs9.ts (k9.tps w10)
      have hst10 := hst9.ts (k9.tps w10)
      have f10 := f9.trans w10
      walk_at "r"
      refine ⟨Or.inl ⟨rfl, _, Or.inl (Or.inl hS10)⟩, ?_⟩
      walk_at "r"
      refine ⟨D, C, _, n, u, v, vx, x, rfl, k10, by omega, ix, bx, px, hu, hv, huv, fun H11 z r w11 k11 is ok bs br => ?_⟩
      have hS11 := w11 _ _ nSD hS10
      have hSc11 := w11 _ _ nScD hSc10
      have t11 : Tps H10 H11 := k10.tps w11
      have tp := tps_put (H1 := H11) (o := .lst (xs ++ [z])) hS11
      refine ⟨S, xs, z, rfl, rfl, hS11, small1000 (by omega), ?_⟩
      refine ⟨_, _, _, _, xs ++ [z], ss ++ [_], rfl, fun b o hb h => (upd_ne (ne_of_none h nSa)).trans (w11 _ _ hb (f10 _ _ hb h)), (k11.put nSD nSC).mono (by omega), (upd_ne hScS).trans hSc11, (hfs10.ts t11).ts tp, upd_same, ((hst10.ts t11).snocH is).ts tp, by simp [hls], fun t ht => ?_, fun h1 t ht => ?_⟩
      · rcases List.mem_append.mp ht with h | h
        · exact hok t h
        · rw [List.mem_singleton.mp h]
          exact ⟨ok, bs, br⟩
      · rcases List.mem_append.mp ht with h | h
        · exact hfit h1 t h
        · rw [List.mem_singleton.mp h]
          have e := ex h1
          subst e
          exact ⟨rfl, rfl⟩
    · rintro σ H5 ⟨t9, t10, t11, t12, xs, ss, rfl, f5, k5, hSc5, hfs5, hS5, hst5, hls, hok, hfit⟩
      have hlx := hst5.len
      walk_at "r"
      refine ⟨_, _, _, _, xs, rfl, k5, by omega, hS5, by omega, fun H6 F zs w6 k6 nF hF pm => ?_⟩
      obtain ⟨ws, pw, hw⟩ := Paired.perm pm (hst5.ts (k5.tps w6))
      have nFa : H F = none := by
        cases e : H F with
        | none => rfl
        | some o => exact absurd ((f5 _ _ (k5.ne nF) e).symm.trans nF) (by simp)
      exact q _ F zs ws (f5.trans w6) (k6.mono (by omega)) nFa hF hw (by rw [pw.length_eq, hls]) (fun s hs => hok s (pw.mem_iff.mp hs)) fun h1 => ⟨fun i => rs.getD i 1, fun i => (getD_pos hrs i).1, fun s hs => hfit h1 s (pw.mem_iff.mp hs)⟩
end
end My
namespace My
open PySem PySem.Spec PyProof.Rows L2
variable {K : PySem.W.Frag}
section
variable {α : Type} {R : Hp → V → α → Prop} {g : TG} {tt : TT} {te : TE} {vs : List Nat} {σ : L2.St} {H1 : Hp} {Qd : Addr → Hp → Prop} {f : Nat → Option α}
theorem lc_zipS (hR : Mn R) {a b : Addr} {xs ys : List V} (hn : ys.length ≤ 1000) (hlen : ys.length ≤ xs.length) (ha : SqT K H1 a xs) (hb : SqT K H1 b ys)
    (hs : ∀ i x y, xs[i]? = some x → ys[i]? = some y → Turn1 R H1 f i fun H' Q N => ∀ T, H' T = none → g (.ref T) (wipe σ vs) (upd H' T (.tup [x, y])) fun σ2 H2 => wipe σ2 vs = wipe σ vs ∧ tt σ2 H2 fun b H3 => if b = true then te σ2 H3 Q else N H3)
    (hd : ∀ D H', Lst R H1 D (upTo f ys.length) H' → Qd D H') {RR : It → Hp → Prop}
    (hRR : RR = fun J H1 => ∀ D, H1 D = none → ∃ W : Nat → Nat → Hp → Prop, (∃ m, W 0 m (upd H1 D (.lst []))) ∧ ∀ i m H, W i m H →
      (J.stop i H ∧ Qd D H) ∨ (J.go i H ∧ ∃ Nx : Hp → Prop, (∀ H', Nx H' → ∃ m', m' < m ∧ W (i + 1) m' H') ∧ ∀ x H', J.yld i H x H' → g x (wipe σ vs) H' fun σ2 H2 => wipe σ2 vs = wipe σ vs ∧ tt σ2 H2 fun b H3 =>
        if b = true then te σ2 H3 fun y H4 => ∃ acc, H4 D = some (.lst acc) ∧ acc.length < sizeLine ∧ Nx (upd H4 D (.lst (acc ++ [y]))) else Nx H3)) :
    (SqL K H1 a xs ∧ SqL K H1 b ys ∧ RR (Itz K a b) H1) ∨ (SqT K H1 a xs ∧ SqT K H1 b ys ∧ RR (RZ.ItzT K a b) H1) := by
  subst hRR
  refine .inr ⟨ha, hb, fun D nD => ?_⟩
  refine ⟨fun i m H => m = ys.length - i ∧ i ≤ ys.length ∧ Lst R H1 D (upTo f i) H, ⟨ys.length, by simp, Nat.zero_le _, lst_new nD⟩, ?_⟩
  rintro i m H ⟨rfl, hi, l⟩
  have qa := sqT_same l.1 ha
  have qb := sqT_same l.1 hb
  by_cases hlt : i < ys.length
  · have hlx : i < xs.length := by omega
    refine .inr ⟨⟨xs, ys, xs[i], ys[i], qa, qb, by simp, by simp⟩, Lst R H1 D (upTo f (i + 1)), fun H' p' => ⟨ys.length - (i + 1), by omega, rfl, hlt, p'⟩, fun x H' y => ?_⟩
    obtain ⟨T, x, y, rfl, nT, rfl, hx, hy⟩ := y
    exact Turn1.step (i := i) hR nD (by omega) (hs i x y (hx xs qa) (hy ys qb)) l T nT
  · have e : i = ys.length := by omega
    subst e
    exact .inl ⟨⟨xs, ys, qa, qb, .inr (Nat.le_refl _)⟩, hd D H l⟩
end
end My
namespace My
open PySem PySem.Spec PyProof.Rows L2
theorem cut_take (xs : List V) (i : Nat) : cutV xs none (some (i : Int)) = xs.take i := by
  unfold cutV
  rw [HT.sIx_none, HT.sIx_nat]
  by_cases h : i ≤ xs.length
  · simp [Nat.min_eq_left h]
  · rw [Nat.min_eq_right (by omega), List.take_of_length_le (show xs.length ≤ i by omega)]
    simp
theorem cut_drop (xs : List V) (i : Nat) : cutV xs (some (i : Int)) none = xs.drop i := by
  unfold cutV
  rw [HT.sIx_none, HT.sIx_nat]
  by_cases h : i ≤ xs.length
  · rw [Nat.min_eq_left h]
    exact List.take_of_length_le (by simp)
  · rw [Nat.min_eq_right (by omega), List.drop_eq_nil_of_le (show xs.length ≤ i by omega)]
    simp
end My
namespace My
open PySem PySem.Spec PyProof.Rows L2
variable {K : PySem.W.Frag}
end My
namespace My
open PySem PySem.Spec PyProof.Rows L2
variable {K : PySem.W.Frag}
def Stl.other (s : Stl) (w : Nat) : Nat := if w = s.u then s.v else s.u
section
variable {P : Program} {w : World} {K : PySem.W.Frag} {mg : Str → Option Value} {base : Heap} {f_is_integer f_is_row f_is_fraction f_is_some f_multiplied f_squared f_is_stall f_across f_hold_of f_is_index f_is_step f_end_of f_is_walk f_is_ring f_is_uneven f_is_uneven_ring f_l_hand f_l_draw f_l_gcd f_l_frac f_l_times f_l_over f_l_some f_l_shuffled f_l_stall f_l_stalls f_l_sizes f_l_whole f_l_is_flag f_l_is_uneven f_l_ring f_l_back f_l_bent f_law f_Web_init f_Web_eq c_Web c_ONE : Addr} {d_is_integer d_is_row d_is_fraction d_is_some d_multiplied d_squared d_is_stall d_across d_hold_of d_is_index d_is_step d_end_of d_is_walk d_is_ring d_is_uneven d_is_uneven_ring d_l_hand d_l_draw d_l_gcd d_l_frac d_l_times d_l_over d_l_some d_l_shuffled d_l_stall d_l_stalls d_l_sizes d_l_whole d_l_is_flag d_l_is_uneven d_l_ring d_l_back d_l_bent d_law d_Web_init d_Web_eq : FuncData}
def sp_across (K : PySem.W.Frag) : Sp := fun vs H Q _ => ∃ (v : V) (s : Stl) (wn : Nat), vs = [v, .int (wn : Nat)] ∧ IsSt K H v s ∧ Q (.int (s.other wn : Nat)) H
theorem ok_across (T : Txt K mg f_is_integer f_is_row f_is_fraction f_is_some f_multiplied f_squared f_is_stall f_across f_hold_of f_is_index f_is_step f_end_of f_is_walk f_is_ring f_is_uneven f_is_uneven_ring f_l_hand f_l_draw f_l_gcd f_l_frac f_l_times f_l_over f_l_some f_l_shuffled f_l_stall f_l_stalls f_l_sizes f_l_whole f_l_is_flag f_l_is_uneven f_l_ring f_l_back f_l_bent f_law f_Web_init f_Web_eq c_Web c_ONE d_is_integer d_is_row d_is_fraction d_is_some d_multiplied d_squared d_is_stall d_across d_hold_of d_is_index d_is_step d_end_of d_is_walk d_is_ring d_is_uneven d_is_uneven_ring d_l_hand d_l_draw d_l_gcd d_l_frac d_l_times d_l_over d_l_some d_l_shuffled d_l_stall d_l_stalls d_l_sizes d_l_whole d_l_is_flag d_l_is_uneven d_l_ring d_l_back d_l_bent d_law d_Web_init d_Web_eq) : FnOk P w K mg base CX0 1 f_across d_across ["stall", "ware"] (sp_across K) := by
  refine T.F_across.ok sc_across (fun vs H Q E h => ?_) (fun cdv A outer s H vs Q E hr h => ?_)
  · obtain ⟨v, s, wn, rfl, _⟩ := h
    rfl
  · obtain ⟨v, s, wn, rfl, ⟨p, va, vb, vr, rfl, hp, ha, hb, hr'⟩, q⟩ := h
    refine ⟨_, (pss_cons (ps_if (pt_cmpR op_eq (pv 1) (pe_ix ix_tup (pv 0) pe_int (fun _ _ => rfl)) (nomark _))
        (pss_one (ps_ret (pe_ix ix_tup (pv 0) pe_int (fun _ _ => rfl))))
        pss_nil)
      (pss_one (ps_ret (pe_ix ix_tup (pv 0) pe_int (fun _ _ => rfl))))), ?_⟩
    walk_at "r"
    walk_at "if"
    · rename_i e
      rw [show s.other wn = s.v from if_pos (by omega)] at q
      walk_at "r"
      exact q
    · rename_i e
      rw [show s.other wn = s.u from if_neg (by omega)] at q
      walk_at "r"
      exact q
end
end My
namespace My
open PySem PySem.Spec PyProof.Rows L2
variable {K : PySem.W.Frag}
theorem rd_lenSet {ta : TE} {σ : L2.St} {H : Hp} {Q : VK} (h : ta σ H fun x H1 => ∃ (l : Addr) (ns : List Int), x = .ref l ∧ SqL K H1 l (ns.map V.int) ∧ ns.Nodup ∧ ns.length ≤ 4000 ∧ Q (.int (ns.length : Nat)) H1) : RZ.tLenSetI K ta σ H Q := h
/-- a way: a tuple of steps -/
def IsRt (K : PySem.W.Frag) (H : Hp) (v : V) (st : List (Nat × Nat)) : Prop := ∃ t vs, v = .ref t ∧ H t = some (.tup vs) ∧ Paired (fun v (p : Nat × Nat) => ∃ q, v = .ref q ∧ H q = some (.tup [V.int (p.1 : Nat), .int (p.2 : Nat)])) vs st
theorem IsRt.ts {H H' : Hp} {v : V} {st : List (Nat × Nat)} (f : Tps H H') (h : IsRt K H v st) : IsRt K H' v st := by
  obtain ⟨t, vs, e, h1, h2⟩ := h
  exact ⟨t, vs, e, f _ _ h1, Paired.mapP h2 fun _ _ ⟨q, e, h⟩ => ⟨q, e, f _ _ h⟩⟩
theorem IsRt.same {H H' : Hp} {v : V} {st : List (Nat × Nat)} (s : Same H H') (h : IsRt K H v st) : IsRt K H' v st := h.ts (same_tps s)
/-- a route -/
structure Rte (ss : List Stl) (st : List (Nat × Nat)) : Prop where
  ne : 0 < st.length
  mem : ∀ p ∈ st, ∃ s, ss[p.1]? = some s ∧ (p.2 = s.u ∨ p.2 = s.v)
  nd : (st.map Prod.fst).Nodup
  ch : ∀ i p q s, st[i]? = some p → st[i + 1]? = some q → ss[p.1]? = some s → s.other p.2 = q.2
theorem Rte.len {ss : List Stl} {st : List (Nat × Nat)} (h : Rte ss st) : st.length ≤ ss.length := by
  have := nodup_le ss.length (st.map Prod.fst) h.nd fun x hx => by
    obtain ⟨p, hp, rfl⟩ := List.mem_map.mp hx
    obtain ⟨s, hs, _⟩ := h.mem p hp
    exact (List.getElem?_eq_some_iff.mp hs).1
  rwa [List.length_map] at this
theorem bools_of' {bs : List V} {l : List Bool} (h : Paired (fun (v : V) (b : Bool) => v = .bl b) bs l) : bs = l.map V.bl := by
  induction h with
  | nil => rfl
  | cons h t ih => rw [h, ih]; rfl
section
variable {P : Program} {w : World} {K : PySem.W.Frag} {mg : Str → Option Value} {base : Heap} {f_is_integer f_is_row f_is_fraction f_is_some f_multiplied f_squared f_is_stall f_across f_hold_of f_is_index f_is_step f_end_of f_is_walk f_is_ring f_is_uneven f_is_uneven_ring f_l_hand f_l_draw f_l_gcd f_l_frac f_l_times f_l_over f_l_some f_l_shuffled f_l_stall f_l_stalls f_l_sizes f_l_whole f_l_is_flag f_l_is_uneven f_l_ring f_l_back f_l_bent f_law f_Web_init f_Web_eq c_Web c_ONE : Addr} {d_is_integer d_is_row d_is_fraction d_is_some d_multiplied d_squared d_is_stall d_across d_hold_of d_is_index d_is_step d_end_of d_is_walk d_is_ring d_is_uneven d_is_uneven_ring d_l_hand d_l_draw d_l_gcd d_l_frac d_l_times d_l_over d_l_some d_l_shuffled d_l_stall d_l_stalls d_l_sizes d_l_whole d_l_is_flag d_l_is_uneven d_l_ring d_l_back d_l_bent d_law d_Web_init d_Web_eq : FuncData}
def sp_is_step (K : PySem.W.Frag) (C : Addr) : Sp := fun vs H Q _ => ∃ (x : V) (pm : Addr) (n : Nat) (ss : List Stl) (i wn : Nat) (s : Stl), vs = [x, .ref pm] ∧ IsWeb K C H x n ss ∧ H pm = some (.tup [V.int (i : Nat), .int (wn : Nat)]) ∧ ss[i]? = some s ∧ (wn = s.u ∨ wn = s.v) ∧ ∀ H', Same H H' → Q (.bl true) H'
theorem ok_is_step (T : Txt K mg f_is_integer f_is_row f_is_fraction f_is_some f_multiplied f_squared f_is_stall f_across f_hold_of f_is_index f_is_step f_end_of f_is_walk f_is_ring f_is_uneven f_is_uneven_ring f_l_hand f_l_draw f_l_gcd f_l_frac f_l_times f_l_over f_l_some f_l_shuffled f_l_stall f_l_stalls f_l_sizes f_l_whole f_l_is_flag f_l_is_uneven f_l_ring f_l_back f_l_bent f_law f_Web_init f_Web_eq c_Web c_ONE d_is_integer d_is_row d_is_fraction d_is_some d_multiplied d_squared d_is_stall d_across d_hold_of d_is_index d_is_step d_end_of d_is_walk d_is_ring d_is_uneven d_is_uneven_ring d_l_hand d_l_draw d_l_gcd d_l_frac d_l_times d_l_over d_l_some d_l_shuffled d_l_stall d_l_stalls d_l_sizes d_l_whole d_l_is_flag d_l_is_uneven d_l_ring d_l_back d_l_bent d_law d_Web_init d_Web_eq) : FnOk P w K mg base CX0 3 f_is_step d_is_step ["web", "thing"] (sp_is_step K c_Web) := by
  have G_is_integer : FnOk P w K mg base CX0 1 f_is_integer d_is_integer ["thing"] sp_is_integer := ok_is_integer T
  have G_is_index : FnOk P w K mg base CX0 2 f_is_index d_is_index ["web", "thing"] (sp_is_index K c_Web) := ok_is_index T
  refine T.F_is_step.ok sc_is_step (fun vs H Q E h => ?_) (fun cdv A outer s H vs Q E hr h => ?_)
  · obtain ⟨x, pm, n, ss, i, wn, s, rfl, _⟩ := h
    rfl
  · obtain ⟨x, pm, n, ss, i, wn, s, rfl, hw, hm, hi, hwn, q⟩ := h
    have hil : i < ss.length := (List.getElem?_eq_some_iff.mp hi).1
    obtain ⟨p, dx, t, xs, rfl, hp, ht, hss⟩ := id hw
    obtain ⟨z, hz, ⟨pz, va, vb, vr, rfl, hpz, _⟩⟩ := hss.get hi
    refine ⟨_, (pss_cons (ps_if (PW.pt (pw_or (pt_not (pt_val (pe_callB call_isi (by rfl) T.z_isinstance (by decide +kernel) (pa_cons (pv 1) (pa_cons (pe_bltn (v := .ty "tuple") (u := .type "tuple") (by rfl) T.z_tuple (by decide +kernel) rfl) pa_nil))))) (pw_or1 (pt_cmpR op_ne (pe_callB call_lenN (by rfl) T.z_len (by decide +kernel) (pa_cons (pv 1) pa_nil)) pe_int (nomark _)))))
        (pss_one (ps_ret pe_bl))
        pss_nil)
      (pss_cons (ps_asg (pv 1) (pg_tup rfl (pgs_cons (pg_name (i := 2) sc_is_step.nd rfl (by first | exact Or.inl rfl | exact Or.inr rfl)) (pgs_cons (pg_name (i := 3) sc_is_step.nd rfl (by first | exact Or.inl rfl | exact Or.inr rfl)) pgs_nil))))
      (pss_one (ps_ret (pe_and (pe_call G_is_index (hr.mono (by decide)) (by rfl) T.g_is_index T.k_is_index T.b_is_index .nil pass0 (pa_cons (pv 0) (pa_cons (pv 2) pa_nil))) (pe_and (pe_call G_is_integer (hr.mono (by decide)) (by rfl) T.g_is_integer T.k_is_integer T.b_is_integer .nil pass0 (pa_cons (pv 3) pa_nil)) (pe_one (pe_cmpR op_in_seq (pv 3) (pe_slice sl_tup (pe_ix ix_tup (pe_fld (pv 0) rfl) (pv 2) (fun _ _ => rfl)) po_none (po_some pe_int)) (by rfl))))))))), ?_⟩
    walk_at "r"
    refine ⟨_, n, ss, i, rfl, hw, hil, ?_⟩
    walk_at "r"
    refine ⟨_, rfl, ?_⟩
    walk_at "r"
    refine ⟨_, _, _, _, _, rfl, hp, T.w_Web.it.cl, T.n_Web_stalls, wF_stalls _ _, ?_⟩
    walk_at "r"
    refine rd_ixT ht (at_some hz) ?_
    walk_at "r"
    refine ⟨_, _, rfl, .of hpz, (by show ¬ (HT.sIx 5 0 none = 0 ∧ HT.sIx 5 5 (some 2) = 5); decide), fun p2 n2 => ?_⟩
    have sm := same_upd (o := .tup (cutV [V.int (s.u : Nat), .int (s.v : Nat), va, vb, vr] none (some 2))) n2
    refine ⟨_, _, rfl, .inr (.of upd_same), rfl, rfl, ?_⟩
    rw [show cutV [V.int (s.u : Nat), .int (s.v : Nat), va, vb, vr] none (some 2) = [V.int (s.u : Nat), .int (s.v : Nat)] from rfl, in_pair hwn]
    exact q _ sm
def sp_end_of (K : PySem.W.Frag) (C : Addr) : Sp := fun vs H Q _ => ∃ (x : V) (pm : Addr) (n : Nat) (ss : List Stl) (i wn : Nat) (s : Stl), vs = [x, .ref pm] ∧ IsWeb K C H x n ss ∧ H pm = some (.tup [V.int (i : Nat), .int (wn : Nat)]) ∧ ss[i]? = some s ∧ Q (.int (s.other wn : Nat)) H
theorem ok_end_of (T : Txt K mg f_is_integer f_is_row f_is_fraction f_is_some f_multiplied f_squared f_is_stall f_across f_hold_of f_is_index f_is_step f_end_of f_is_walk f_is_ring f_is_uneven f_is_uneven_ring f_l_hand f_l_draw f_l_gcd f_l_frac f_l_times f_l_over f_l_some f_l_shuffled f_l_stall f_l_stalls f_l_sizes f_l_whole f_l_is_flag f_l_is_uneven f_l_ring f_l_back f_l_bent f_law f_Web_init f_Web_eq c_Web c_ONE d_is_integer d_is_row d_is_fraction d_is_some d_multiplied d_squared d_is_stall d_across d_hold_of d_is_index d_is_step d_end_of d_is_walk d_is_ring d_is_uneven d_is_uneven_ring d_l_hand d_l_draw d_l_gcd d_l_frac d_l_times d_l_over d_l_some d_l_shuffled d_l_stall d_l_stalls d_l_sizes d_l_whole d_l_is_flag d_l_is_uneven d_l_ring d_l_back d_l_bent d_law d_Web_init d_Web_eq) : FnOk P w K mg base CX0 2 f_end_of d_end_of ["web", "step"] (sp_end_of K c_Web) := by
  have G_across : FnOk P w K mg base CX0 1 f_across d_across ["stall", "ware"] (sp_across K) := ok_across T
  refine T.F_end_of.ok sc_end_of (fun vs H Q E h => ?_) (fun cdv A outer s H vs Q E hr h => ?_)
  · obtain ⟨x, pm, n, ss, i, wn, s, rfl, _⟩ := h
    rfl
  · obtain ⟨x, pm, n, ss, i, wn, s, rfl, hw, hm, hi, q⟩ := h
    obtain ⟨p, dx, t, xs, rfl, hp, ht, hss⟩ := id hw
    obtain ⟨z, hz, izs⟩ := hss.get hi
    refine ⟨_, (pss_cons (ps_asg (pv 1) (pg_tup rfl (pgs_cons (pg_name (i := 2) sc_end_of.nd rfl (by first | exact Or.inl rfl | exact Or.inr rfl)) (pgs_cons (pg_name (i := 3) sc_end_of.nd rfl (by first | exact Or.inl rfl | exact Or.inr rfl)) pgs_nil))))
      (pss_one (ps_ret (pe_call G_across (hr.mono (by decide)) (by rfl) T.g_across T.k_across T.b_across .nil pass0 (pa_cons (pe_ix ix_tup (pe_fld (pv 0) rfl) (pv 2) (fun _ _ => rfl)) (pa_cons (pv 3) pa_nil)))))), ?_⟩
    walk_at "r"
    refine ⟨_, _, _, _, _, rfl, hp, T.w_Web.it.cl, T.n_Web_stalls, wF_stalls _ _, ?_⟩
    walk_at "r"
    refine rd_ixT ht (at_some hz) ?_
    walk_at "r"
    exact ⟨_, s, wn, rfl, izs, q⟩
end
end My
namespace My
open PySem PySem.Spec PyProof.Rows L2
/-! ### rings and their products -/
def prodR : List Rat → Rat
  | [] => 1
  | r :: l => r * prodR l
theorem prodR_app (a b : List Rat) : prodR (a ++ b) = prodR a * prodR b := by
  induction a with
  | nil => exact (Rat.one_mul _).symm
  | cons r l ih =>
    show r * prodR (l ++ b) = r * prodR l * prodR b
    rw [ih, Rat.mul_assoc]
theorem prodR_perm {a b : List Rat} (h : a.Perm b) : prodR a = prodR b := by
  induction h with
  | nil => rfl
  | cons x _ ih => show x * _ = x * _; rw [ih]
  | swap x y l => show y * (x * _) = x * (y * _); rw [← Rat.mul_assoc, ← Rat.mul_assoc, Rat.mul_comm y x]
  | trans _ _ h1 h2 => exact h1.trans h2
/-- what the stall of a pair holds of the ware that it goes from, and of that which it goes to -/
def hdP (ss : List Stl) (p : Nat × Nat) : Rat := match ss[p.1]? with
  | some s => s.hold p.2
  | none => 1
def tlP (ss : List Stl) (p : Nat × Nat) : Rat := match ss[p.1]? with
  | some s => s.hold (s.other p.2)
  | none => 1
def Unev (ss : List Stl) (st : List (Nat × Nat)) : Prop := prodR (st.map (hdP ss)) ≠ prodR (st.map (tlP ss))
theorem unev_perm {ss : List Stl} {a b : List (Nat × Nat)} (h : a.Perm b) : Unev ss a ↔ Unev ss b := by
  unfold Unev
  rw [prodR_perm (h.map (hdP ss)), prodR_perm (h.map (tlP ss))]
structure Rng (ss : List Stl) (st : List (Nat × Nat)) : Prop where
  rt : Rte ss st
  cl : ∀ p q s, st[st.length - 1]? = some p → st[0]? = some q → ss[p.1]? = some s → s.other p.2 = q.2
/-- the ware ahead of step i, cyclically -/
theorem Rng.nxt {ss : List Stl} {st : List (Nat × Nat)} (h : Rng ss st) {i : Nat} {p q : Nat × Nat} {s : Stl} (hp : st[i]? = some p) (hq : st[(i + 1) % st.length]? = some q) (hs : ss[p.1]? = some s) : s.other p.2 = q.2 := by
  have hi := (List.getElem?_eq_some_iff.mp hp).1
  by_cases e : i + 1 < st.length
  · rw [Nat.mod_eq_of_lt e] at hq
    exact h.rt.ch i p q s hp hq hs
  · have e : i + 1 = st.length := by omega
    rw [e, Nat.mod_self] at hq
    exact h.cl p q s (by rw [← e]; exact hp) hq hs
theorem rng_of {ss : List Stl} {st : List (Nat × Nat)} (h0 : 0 < st.length) (hm : ∀ p ∈ st, ∃ s, ss[p.1]? = some s ∧ (p.2 = s.u ∨ p.2 = s.v)) (nd : (st.map Prod.fst).Nodup)
    (hn : ∀ i p q s, st[i]? = some p → st[(i + 1) % st.length]? = some q → ss[p.1]? = some s → s.other p.2 = q.2) : Rng ss st := by
  refine ⟨⟨h0, hm, nd, fun i p q s hp hq hs => hn i p q s hp ?_ hs⟩, fun p q s hp hq hs => hn (st.length - 1) p q s hp ?_ hs⟩
  · rw [Nat.mod_eq_of_lt (List.getElem?_eq_some_iff.mp hq).1]
    exact hq
  · rw [show st.length - 1 + 1 = st.length by omega, Nat.mod_self]
    exact hq
theorem app_ix {α : Type} (a b : List α) (i : Nat) (h : i < a.length + b.length) : (b ++ a)[i]? = (a ++ b)[(i + a.length) % (a.length + b.length)]? := by
  by_cases e : i < b.length
  · rw [List.getElem?_append_left e, Nat.mod_eq_of_lt (by omega), List.getElem?_append_right (by omega)]
    congr 1
    omega
  · rw [List.getElem?_append_right (by omega), show (i + a.length) % (a.length + b.length) = i - b.length by
      rw [Nat.mod_eq_sub_mod (by omega), Nat.mod_eq_of_lt (by omega)]
      omega, List.getElem?_append_left (by omega)]
theorem Rng.rot {ss : List Stl} {a b : List (Nat × Nat)} (h : Rng ss (a ++ b)) : Rng ss (b ++ a) := by
  have pm : (b ++ a).Perm (a ++ b) := List.perm_append_comm
  have hl : (a ++ b).length = a.length + b.length := List.length_append
  have hl2 : (b ++ a).length = a.length + b.length := by rw [List.length_append, Nat.add_comm]
  have l0 := h.rt.ne
  refine rng_of (by omega) (fun p hp => h.rt.mem p (pm.mem_iff.mp hp)) ((pm.map Prod.fst).nodup_iff.mpr h.rt.nd) fun i p q s hp hq hs => ?_
  have hi := (List.getElem?_eq_some_iff.mp hp).1
  rw [app_ix a b i (by omega)] at hp
  rw [hl2, app_ix a b _ (Nat.mod_lt _ (by omega))] at hq
  refine h.nxt hp ?_ hs
  rw [← hq, hl]
  congr 1
  rw [Nat.mod_add_mod, Nat.mod_add_mod]
  congr 1
  omega
/-! ### the other way round -/
def flipP (ss : List Stl) (p : Nat × Nat) : Nat × Nat := match ss[p.1]? with
  | some s => (p.1, s.other p.2)
  | none => p
theorem other_in {s : Stl} {w : Nat} : s.other w = s.u ∨ s.other w = s.v := by
  unfold Stl.other
  split
  · exact .inr rfl
  · exact .inl rfl
theorem other_two {s : Stl} {w : Nat} (h : w = s.u ∨ w = s.v) (ne : s.u ≠ s.v) : s.other (s.other w) = w := by
  unfold Stl.other
  rcases h with rfl | rfl
  · rw [if_pos rfl, if_neg (Ne.symm ne)]
  · rw [if_neg (Ne.symm ne), if_pos rfl]
def bk (ss : List Stl) (st : List (Nat × Nat)) : List (Nat × Nat) := (st.reverse).map (flipP ss)
theorem flip_fst (ss : List Stl) (p : Nat × Nat) : (flipP ss p).1 = p.1 := by
  unfold flipP
  split <;> rfl
theorem Rng.back {ss : List Stl} {st : List (Nat × Nat)} (h : Rng ss st) (hu : ∀ s ∈ ss, s.u ≠ s.v) : Rng ss (bk ss st) ∧ (Unev ss (bk ss st) ↔ Unev ss st) := by
  have hl : (bk ss st).length = st.length := by unfold bk; rw [List.length_map, List.length_reverse]
  have l0 := h.rt.ne
  constructor
  · refine rng_of (by omega) (fun p hp => ?_) ?_ fun i p q s hp hq hs => ?_
    · obtain ⟨y, hy, rfl⟩ := List.mem_map.mp hp
      obtain ⟨s, hs, _⟩ := h.rt.mem y (List.mem_reverse.mp hy)
      refine ⟨s, by rw [flip_fst]; exact hs, ?_⟩
      unfold flipP
      rw [hs]
      exact other_in
    · have e : (bk ss st).map Prod.fst = (st.map Prod.fst).reverse := by
        unfold bk
        rw [List.map_map, ← List.map_reverse]
        refine List.map_congr_left fun p _ => flip_fst ss p
      rw [e]
      exact List.pairwise_reverse.mpr (h.rt.nd.imp fun h => Ne.symm h)
    · have hi : i < st.length := by rw [← hl]; exact (List.getElem?_eq_some_iff.mp hp).1
      rw [hl] at hq
      have hj : (i + 1) % st.length < st.length := Nat.mod_lt _ l0
      unfold bk at hp hq
      rw [List.getElem?_map, List.getElem?_reverse hi] at hp
      rw [List.getElem?_map, List.getElem?_reverse hj] at hq
      obtain ⟨y, hy, rfl⟩ := Option.map_eq_some_iff.mp hp
      obtain ⟨z, hz, rfl⟩ := Option.map_eq_some_iff.mp hq
      rw [flip_fst] at hs
      obtain ⟨s2, hs2, w2⟩ := h.rt.mem y (List.mem_of_getElem? hy)
      obtain ⟨s3, hs3, w3⟩ := h.rt.mem z (List.mem_of_getElem? hz)
      have e2 : s2 = s := Option.some.inj (hs2.symm.trans hs)
      subst e2
      have h1 : (flipP ss y).2 = s2.other y.2 := by unfold flipP; rw [hs2]
      have h2 : (flipP ss z).2 = s3.other z.2 := by unfold flipP; rw [hs3]
      rw [h1, h2, other_two w2 (hu _ (List.mem_of_getElem? hs2))]
      refine (h.nxt hz ?_ hs3).symm
      rw [← hy]
      congr 1
      by_cases e : i + 1 < st.length
      · rw [Nat.mod_eq_of_lt e, Nat.mod_eq_of_lt (by omega)]
        omega
      · rw [show i + 1 = st.length by omega, Nat.mod_self, show st.length - 1 - 0 + 1 = st.length by omega, Nat.mod_self]
        omega
  · have e1 : (bk ss st).map (hdP ss) = (st.map (tlP ss)).reverse := by
      unfold bk
      rw [List.map_map, ← List.map_reverse]
      refine List.map_congr_left fun p hp => ?_
      obtain ⟨s, hs, _⟩ := h.rt.mem p (List.mem_reverse.mp hp)
      show hdP ss (flipP ss p) = tlP ss p
      unfold hdP
      rw [flip_fst]
      unfold tlP flipP
      rw [hs]
    have e2 : (bk ss st).map (tlP ss) = (st.map (hdP ss)).reverse := by
      unfold bk
      rw [List.map_map, ← List.map_reverse]
      refine List.map_congr_left fun p hp => ?_
      obtain ⟨s, hs, w⟩ := h.rt.mem p (List.mem_reverse.mp hp)
      show tlP ss (flipP ss p) = hdP ss p
      unfold tlP
      rw [flip_fst]
      unfold hdP flipP
      rw [hs]
      show s.hold (s.other (s.other p.2)) = _
      rw [other_two w (hu _ (List.mem_of_getElem? hs))]
    unfold Unev
    rw [e1, e2, prodR_perm (List.reverse_perm _), prodR_perm (List.reverse_perm _)]
    exact ⟨Ne.symm, Ne.symm⟩
end My
namespace My
open PySem PySem.Spec PyProof.Rows L2
variable {K : PySem.W.Frag}
/-! ### things judged by the program -/
theorem fn_or {P : Program} {w : World} {mg : Str → Option Value} {base : Heap} {CX : CXT} {k : Nat} {f : Addr} {fd : FuncData} {ps : List Str} {sp sp' : Sp} (F : FnOk P w K mg base CX k f fd ps sp)
    (G : FnOk P w K mg base CX k f fd ps sp') : FnOk P w K mg base CX k f fd ps (fun vs H Q E => sp vs H Q E ∨ sp' vs H Q E) :=
  ⟨fun vs H Q E q => q.elim (F.len vs H Q E) (G.len vs H Q E), fun A outer s H args us vs Q E hr he hb hv hs => hs.elim (F.run A outer s H args us vs Q E hr he hb hv) (G.run A outer s H args us vs Q E hr he hb hv)⟩
/-- some amount -/
def sa (o : Option Rat) : Bool := match o with
  | some r => decide (0 < r)
  | none => false
def am (o : Option Rat) : Bool := match o with
  | some r => decide (0 ≤ r)
  | none => false
theorem sa_am {o : Option Rat} (h : sa o = true) : am o = true := by
  cases o with
  | none => exact h
  | some r => exact decide_eq_true (Rat.le_of_lt (of_decide_eq_true h))
theorem am_some {o : Option Rat} (h : am o = true) : ∃ r, o = some r ∧ 0 ≤ r := by
  match o, h with
  | some r, h => exact ⟨r, rfl, of_decide_eq_true h⟩
theorem JF.isF {D : Addr} {H : Hp} {v : V} {r : Rat} (j : JF K D H v (some r)) : IsF K H v r ∧ Bd 40 r := by
  rcases j with ⟨r2, h, b, e⟩ | ⟨_, e⟩
  · cases e
    exact ⟨h, b⟩
  · cases e
theorem JF.same {D : Addr} {H H' : Hp} {v : V} {o : Option Rat} (j : JF K D H v o) (s : Same H H') : JF K D H' v o := by
  rcases j with ⟨r, h, b, e⟩ | ⟨h, e⟩
  · exact .inl ⟨r, h.same s, b, e⟩
  · exact .inr ⟨h.fw (Same.fw s), e⟩
theorem JF.fw {M c : Nat} {D C : Addr} {H H' : Hp} {v : V} {o : Option Rat} (j : JF K D H v o) (dk : Deck M D C H c) (f : Fw D H H') : JF K D H' v o := by
  rcases j with ⟨r, h, b, e⟩ | ⟨h, e⟩
  · exact .inl ⟨r, h.fw dk f, b, e⟩
  · exact .inr ⟨h.fw f, e⟩
theorem jf_pair {D p : Addr} {H : Hp} {i j : Int} (n : p ≠ D) (h : H p = some (.tup [.int i, .int j])) (hi : i.natAbs < 2 ^ 40) (hj : j.natAbs < 2 ^ 40) :
    JF K D H (.ref p) (if 0 < j ∧ Nat.gcd i.natAbs j.natAbs = 1 then some (Rat.divInt i j) else none) := by
  by_cases z : 0 < j ∧ Nat.gcd i.natAbs j.natAbs = 1
  · rw [if_pos z]
    obtain ⟨z1, z2⟩ := z
    have ej : ((j.natAbs : Nat) : Int) = j := by omega
    obtain ⟨r1, r2⟩ := rat_of (n := i) (d := j.natAbs) (r := Rat.divInt i j) (by omega) z2 (by rw [ej])
    refine .inl ⟨Rat.divInt i j, ⟨p, rfl, .inl ?_⟩, Bd.divInt (by omega) hi hj, rfl⟩
    show H p = some (.tup [.int (Rat.divInt i j).num, .int (Rat.divInt i j).den])
    rw [r1, r2, ej]
    exact h
  · rw [if_neg z]
    exact .inr ⟨.low n h z (Nat.lt_of_lt_of_le hj (pow_le (by decide))), rfl⟩
/-- a thing with the word whether it is a tuple of so many amounts above 0 -/
inductive JS (K : PySem.W.Frag) (D : Addr) (H : Hp) (n : Nat) : V → Bool → Prop where
  | int (i : Int) : JS K D H n (.int i) false
  | other {v : V} (o : Od K D H v) (h : ∀ p xs, v = .ref p → H p ≠ some (.tup xs)) : JS K D H n v false
  | tup {p : Addr} {xs : List V} {os : List (Option Rat)} (np : p ≠ D) (h : H p = some (.tup xs)) (j : Paired (JF K D H) xs os) (l : xs.length ≤ 20) : JS K D H n (.ref p) (decide (xs.length = n) && os.all sa)
theorem JS.same {D : Addr} {H H' : Hp} {n : Nat} {v : V} {b : Bool} (j : JS K D H n v b) (s : Same H H') : JS K D H' n v b := by
  cases j with
  | int i => exact .int i
  | other o h =>
    refine .other (o.fw (Same.fw s)) fun p xs e z => ?_
    subst e
    cases o with
    | lst n h3 =>
      rw [s _ _ h3] at z
      cases z
    | tup n h3 => exact h _ _ rfl h3
    | dK n h3 =>
      rw [s _ _ h3] at z
      cases z
    | ins n h3 c =>
      rw [s _ _ h3] at z
      cases z
  | tup np h j l => exact .tup np (s _ _ h) (Paired.mapP j fun _ _ h => h.same s) l
section
variable {P : Program} {w : World} {K : PySem.W.Frag} {mg : Str → Option Value} {base : Heap} {f_is_integer f_is_row f_is_fraction f_is_some f_multiplied f_squared f_is_stall f_across f_hold_of f_is_index f_is_step f_end_of f_is_walk f_is_ring f_is_uneven f_is_uneven_ring f_l_hand f_l_draw f_l_gcd f_l_frac f_l_times f_l_over f_l_some f_l_shuffled f_l_stall f_l_stalls f_l_sizes f_l_whole f_l_is_flag f_l_is_uneven f_l_ring f_l_back f_l_bent f_law f_Web_init f_Web_eq c_Web c_ONE : Addr} {d_is_integer d_is_row d_is_fraction d_is_some d_multiplied d_squared d_is_stall d_across d_hold_of d_is_index d_is_step d_end_of d_is_walk d_is_ring d_is_uneven d_is_uneven_ring d_l_hand d_l_draw d_l_gcd d_l_frac d_l_times d_l_over d_l_some d_l_shuffled d_l_stall d_l_stalls d_l_sizes d_l_whole d_l_is_flag d_l_is_uneven d_l_ring d_l_back d_l_bent d_law d_Web_init d_Web_eq : FuncData}
def sp_isiJ (K : PySem.W.Frag) : Sp := fun vs H Q _ => ∃ v b, vs = [v] ∧ ((∃ i : Int, v = .int i) ∧ b = true ∨ (∃ D, Od K D H v) ∧ b = false) ∧ Q (.bl b) H
theorem ok_is_integerJ (T : Txt K mg f_is_integer f_is_row f_is_fraction f_is_some f_multiplied f_squared f_is_stall f_across f_hold_of f_is_index f_is_step f_end_of f_is_walk f_is_ring f_is_uneven f_is_uneven_ring f_l_hand f_l_draw f_l_gcd f_l_frac f_l_times f_l_over f_l_some f_l_shuffled f_l_stall f_l_stalls f_l_sizes f_l_whole f_l_is_flag f_l_is_uneven f_l_ring f_l_back f_l_bent f_law f_Web_init f_Web_eq c_Web c_ONE d_is_integer d_is_row d_is_fraction d_is_some d_multiplied d_squared d_is_stall d_across d_hold_of d_is_index d_is_step d_end_of d_is_walk d_is_ring d_is_uneven d_is_uneven_ring d_l_hand d_l_draw d_l_gcd d_l_frac d_l_times d_l_over d_l_some d_l_shuffled d_l_stall d_l_stalls d_l_sizes d_l_whole d_l_is_flag d_l_is_uneven d_l_ring d_l_back d_l_bent d_law d_Web_init d_Web_eq) : FnOk P w K mg base CX0 1 f_is_integer d_is_integer ["thing"] (sp_isiJ K) := by
  refine T.F_is_integer.ok sc_is_integer (fun vs H Q E h => ?_) (fun cdv A outer s H vs Q E hr h => ?_)
  · obtain ⟨v, b, rfl, _⟩ := h
    rfl
  · obtain ⟨v, b, rfl, h, q⟩ := h
    refine ⟨_, (pss_one (ps_ret (pe_and (pe_callB call_isi (by rfl) T.z_isinstance (by decide +kernel) (pa_cons (pv 0) (pa_cons (pe_bltn (v := .ty "int") (u := .type "int") (by rfl) T.z_int (by decide +kernel) rfl) pa_nil))) (pe_one (pe_not (pe_callB call_isi (by rfl) T.z_isinstance (by decide +kernel) (pa_cons (pv 0) (pa_cons (pe_bltn (v := .ty "bool") (u := .type "bool") (by rfl) T.z_bool (by decide +kernel) rfl) pa_nil)))))))), ?_⟩
    rcases h with ⟨⟨i, rfl⟩, rfl⟩ | ⟨⟨D, o⟩, rfl⟩
    · walk_at "r"
      exact q
    · obtain ⟨b1, b2, b3, hb, h1, h2, -⟩ := o.isi
      walk_at "r"
      refine h1 _ ?_
      cases b1 with
      | false =>
        walk_at "r"
        exact q
      | true =>
        have e : b2 = true := by
          cases b2
          · cases hb
          · rfl
        subst e
        walk_at "r"
        refine h2 _ ?_
        walk_at "r"
        exact q
def sp_isfJ (K : PySem.W.Frag) : Sp := fun vs H Q _ => ∃ v D o, vs = [v] ∧ JF K D H v o ∧ Q (.bl o.isSome) H
theorem ok_is_fractionJ (T : Txt K mg f_is_integer f_is_row f_is_fraction f_is_some f_multiplied f_squared f_is_stall f_across f_hold_of f_is_index f_is_step f_end_of f_is_walk f_is_ring f_is_uneven f_is_uneven_ring f_l_hand f_l_draw f_l_gcd f_l_frac f_l_times f_l_over f_l_some f_l_shuffled f_l_stall f_l_stalls f_l_sizes f_l_whole f_l_is_flag f_l_is_uneven f_l_ring f_l_back f_l_bent f_law f_Web_init f_Web_eq c_Web c_ONE d_is_integer d_is_row d_is_fraction d_is_some d_multiplied d_squared d_is_stall d_across d_hold_of d_is_index d_is_step d_end_of d_is_walk d_is_ring d_is_uneven d_is_uneven_ring d_l_hand d_l_draw d_l_gcd d_l_frac d_l_times d_l_over d_l_some d_l_shuffled d_l_stall d_l_stalls d_l_sizes d_l_whole d_l_is_flag d_l_is_uneven d_l_ring d_l_back d_l_bent d_law d_Web_init d_Web_eq) : FnOk P w K mg base CX0 2 f_is_fraction d_is_fraction ["thing"] (sp_isfJ K) := by
  have G_is_integer : FnOk P w K mg base CX0 1 f_is_integer d_is_integer ["thing"] (sp_isiJ K) := ok_is_integerJ T
  refine T.F_is_fraction.ok sc_is_fraction (fun vs H Q E h => ?_) (fun cdv A outer s H vs Q E hr h => ?_)
  · obtain ⟨v, D, o, rfl, _⟩ := h
    rfl
  · obtain ⟨v, D, o, rfl, j, q⟩ := h
    refine ⟨_, (pss_cons (ps_if (PW.pt (pw_or (pt_not (pt_val (pe_callB call_isi (by rfl) T.z_isinstance (by decide +kernel) (pa_cons (pv 0) (pa_cons (pe_bltn (v := .ty "tuple") (u := .type "tuple") (by rfl) T.z_tuple (by decide +kernel) rfl) pa_nil))))) (pw_or1 (pt_cmpR op_ne (pe_callB call_lenN (by rfl) T.z_len (by decide +kernel) (pa_cons (pv 0) pa_nil)) pe_int (nomark _)))))
        (pss_one (ps_ret pe_bl))
        pss_nil)
      (pss_cons (ps_asg (pv 0) (pg_tup rfl (pgs_cons (pg_name (i := 1) sc_is_fraction.nd rfl (by first | exact Or.inl rfl | exact Or.inr rfl)) (pgs_cons (pg_name (i := 2) sc_is_fraction.nd rfl (by first | exact Or.inl rfl | exact Or.inr rfl)) pgs_nil))))
      (pss_cons (ps_if (PW.pt (pw_or (pt_not (pt_val (pe_call G_is_integer (hr.mono (by decide)) (by rfl) T.g_is_integer T.k_is_integer T.b_is_integer .nil pass0 (pa_cons (pv 1) pa_nil)))) (pw_or1 (pt_not (pt_val (pe_call G_is_integer (hr.mono (by decide)) (by rfl) T.g_is_integer T.k_is_integer T.b_is_integer .nil pass0 (pa_cons (pv 2) pa_nil)))))))
        (pss_one (ps_ret pe_bl))
        pss_nil)
      (pss_one (ps_ret (pe_and (pe_cmpR op_ge (pv 2) pe_int (nomark _)) (pe_one (pe_cmpR op_eq (pe_callBfun cr_gcd (by rfl) T.m_gcd (pa_cons (pv 1) (pa_cons (pv 2) pa_nil))) pe_int (nomark _))))))))), ?_⟩
    rcases j with ⟨r, ⟨p, rfl, hp⟩, bd, rfl⟩ | ⟨nf, rfl⟩
    · walk_at "r"
      refine ⟨_, _, rfl, .inl ⟨⟨_, rfl⟩, rfl⟩, ?_⟩
      walk_at "r"
      refine ⟨_, _, rfl, .inl ⟨⟨_, rfl⟩, rfl⟩, ?_⟩
      walk_at "r"
      have h1 := den_pos r
      have h2 := gcd_den r
      walk_at "r"
      rw [Int.natAbs_natCast, h2]
      exact q
    · cases nf with
      | int i =>
        walk_at "r"
        exact q
      | not o h =>
        obtain ⟨b1, b2, b3, hb, -, -, h3, ht⟩ := o.isi
        walk_at "r"
        refine h3 _ ?_
        cases b3 with
        | false =>
          walk_at "r"
          exact q
        | true =>
          obtain ⟨p, xs, rfl, np, hp⟩ := ht rfl
          have hl : ¬ ((xs.length : Int) = 2) := by
            have := h p xs rfl hp
            omega
          walk_at "r"
          exact q
      | fst n h o =>
        walk_at "r"
        refine ⟨_, _, rfl, .inr ⟨⟨_, o⟩, rfl⟩, ?_⟩
        walk_at "r"
        exact q
      | snd n h o =>
        walk_at "r"
        refine ⟨_, _, rfl, .inl ⟨⟨_, rfl⟩, rfl⟩, ?_⟩
        walk_at "r"
        refine ⟨_, _, rfl, .inr ⟨⟨_, o⟩, rfl⟩, ?_⟩
        walk_at "r"
        exact q
      | @low p i j n h z b =>
        walk_at "r"
        refine ⟨_, _, rfl, .inl ⟨⟨_, rfl⟩, rfl⟩, ?_⟩
        walk_at "r"
        refine ⟨_, _, rfl, .inl ⟨⟨_, rfl⟩, rfl⟩, ?_⟩
        walk_at "r"
        walk_at "if"
        · rename_i h0
          walk_at "r"
          have h1 : ¬ (((Nat.gcd i.natAbs j.natAbs : Nat) : Int) = 1) := fun e => z ⟨by omega, by omega⟩
          rw [decide_eq_false h1]
          exact q
        · walk_at "r"
          exact q
def sp_isaJ (K : PySem.W.Frag) : Sp := fun vs H Q _ => ∃ v D o, vs = [v] ∧ JF K D H v o ∧ Q (.bl (am o)) H
def sp_are_amountsJ (K : PySem.W.Frag) : Sp := fun vs H Q _ => ∃ (p D : Addr) (n : Nat) (xs : List V) (os : List (Option Rat)), vs = [.ref p, .int (n : Nat)] ∧ Sq K H p xs ∧ Paired (JF K D H) xs os ∧ xs.length ≤ 20 ∧ ∀ H', Same H H' → Q (.bl (decide (xs.length = n) && os.all am)) H'
def sp_are_someJ (K : PySem.W.Frag) : Sp := fun vs H Q _ => ∃ (x : V) (D : Addr) (n : Nat) (b : Bool), vs = [x, .int (n : Nat)] ∧ JS K D H n x b ∧ ∀ H', Same H H' → Q (.bl b) H'
end
end My
namespace My
open PySem PySem.Spec PyProof.Rows L2
variable {K : PySem.W.Frag}
/-! ### things judged as moves -/
def JI (K : PySem.W.Frag) (D : Addr) (H : Hp) (v : V) (o : Option Int) : Prop := (∃ i, v = .int i ∧ o = some i) ∨ (Od K D H v ∧ o = none)
theorem JI.fw {D : Addr} {H H' : Hp} {v : V} {o : Option Int} (j : JI K D H v o) (f : Fw D H H') : JI K D H' v o := j.imp id fun ⟨h, e⟩ => ⟨h.fw f, e⟩
theorem JI.isi {D : Addr} {H : Hp} {v : V} {o : Option Int} (j : JI K D H v o) : ∃ b, ((∃ i : Int, v = .int i) ∧ b = true ∨ (∃ D, Od K D H v) ∧ b = false) ∧ b = o.isSome := by
  rcases j with ⟨i, rfl, rfl⟩ | ⟨h, rfl⟩
  · exact ⟨true, .inl ⟨⟨i, rfl⟩, rfl⟩, rfl⟩
  · exact ⟨false, .inr ⟨⟨D, h⟩, rfl⟩, rfl⟩
abbrev Jm := Option (Option Int × Option Int × Option Rat)
def JM (K : PySem.W.Frag) (D : Addr) (H : Hp) (v : V) (t : Jm) : Prop :=
  (∃ p x y z a b r, v = .ref p ∧ p ≠ D ∧ H p = some (.tup [x, y, z]) ∧ JI K D H x a ∧ JI K D H y b ∧ JF K D H z r ∧ t = some (a, b, r)) ∨
  (((∃ i, v = .int i) ∨ Od K D H v ∧ ∀ p xs, v = .ref p → H p = some (.tup xs) → xs.length ≠ 3) ∧ t = none)
theorem JM.fw {M c : Nat} {D C : Addr} {H H' : Hp} {v : V} {t : Jm} (j : JM K D H v t) (dk : Deck M D C H c) (f : Fw D H H') : JM K D H' v t := by
  rcases j with ⟨p, x, y, z, a, b, r, e, n, h, h1, h2, h3, e2⟩ | ⟨i | ⟨o, h⟩, e⟩
  · exact .inl ⟨p, x, y, z, a, b, r, e, n, f _ _ n h, h1.fw f, h2.fw f, h3.fw dk f, e2⟩
  · exact .inr ⟨.inl i, e⟩
  · refine .inr ⟨.inr ⟨o.fw f, fun p xs e z => ?_⟩, e⟩
    subst e
    cases o with
    | lst n h3 =>
      rw [f _ _ n h3] at z
      cases z
    | tup n h3 =>
      rw [f _ _ n h3] at z
      cases z
      exact h _ _ rfl h3
    | dK n h3 =>
      rw [f _ _ n h3] at z
      cases z
    | ins n h3 c =>
      rw [f _ _ n h3] at z
      cases z
def ixOk (m : Nat) : Option Int → Bool
  | some i => decide (0 ≤ i) && decide (i < (m : Nat))
  | none => false
def wrOk (ss : List Stl) (i w : Int) : Bool := match ss[i.toNat]? with
  | some s => decide (w = (s.u : Nat)) || decide (w = (s.v : Nat))
  | none => false
def mvOk (ss : List Stl) : Jm → Bool
  | some (some i, some w, r) => ixOk ss.length (some i) && (wrOk ss i w && sa r)
  | _ => false
section
variable {P : Program} {w : World} {K : PySem.W.Frag} {mg : Str → Option Value} {base : Heap} {f_is_integer f_is_row f_is_fraction f_is_some f_multiplied f_squared f_is_stall f_across f_hold_of f_is_index f_is_step f_end_of f_is_walk f_is_ring f_is_uneven f_is_uneven_ring f_l_hand f_l_draw f_l_gcd f_l_frac f_l_times f_l_over f_l_some f_l_shuffled f_l_stall f_l_stalls f_l_sizes f_l_whole f_l_is_flag f_l_is_uneven f_l_ring f_l_back f_l_bent f_law f_Web_init f_Web_eq c_Web c_ONE : Addr} {d_is_integer d_is_row d_is_fraction d_is_some d_multiplied d_squared d_is_stall d_across d_hold_of d_is_index d_is_step d_end_of d_is_walk d_is_ring d_is_uneven d_is_uneven_ring d_l_hand d_l_draw d_l_gcd d_l_frac d_l_times d_l_over d_l_some d_l_shuffled d_l_stall d_l_stalls d_l_sizes d_l_whole d_l_is_flag d_l_is_uneven d_l_ring d_l_back d_l_bent d_law d_Web_init d_Web_eq : FuncData}
def sp_issJ (K : PySem.W.Frag) : Sp := fun vs H Q _ => ∃ v D o, vs = [v] ∧ JF K D H v o ∧ Q (.bl (sa o)) H
theorem ok_is_someJ (T : Txt K mg f_is_integer f_is_row f_is_fraction f_is_some f_multiplied f_squared f_is_stall f_across f_hold_of f_is_index f_is_step f_end_of f_is_walk f_is_ring f_is_uneven f_is_uneven_ring f_l_hand f_l_draw f_l_gcd f_l_frac f_l_times f_l_over f_l_some f_l_shuffled f_l_stall f_l_stalls f_l_sizes f_l_whole f_l_is_flag f_l_is_uneven f_l_ring f_l_back f_l_bent f_law f_Web_init f_Web_eq c_Web c_ONE d_is_integer d_is_row d_is_fraction d_is_some d_multiplied d_squared d_is_stall d_across d_hold_of d_is_index d_is_step d_end_of d_is_walk d_is_ring d_is_uneven d_is_uneven_ring d_l_hand d_l_draw d_l_gcd d_l_frac d_l_times d_l_over d_l_some d_l_shuffled d_l_stall d_l_stalls d_l_sizes d_l_whole d_l_is_flag d_l_is_uneven d_l_ring d_l_back d_l_bent d_law d_Web_init d_Web_eq) : FnOk P w K mg base CX0 3 f_is_some d_is_some ["thing"] (sp_issJ K) := by
  have G_is_fraction : FnOk P w K mg base CX0 2 f_is_fraction d_is_fraction ["thing"] (sp_isfJ K) := ok_is_fractionJ T
  refine T.F_is_some.ok sc_is_some (fun vs H Q E h => ?_) (fun cdv A outer s H vs Q E hr h => ?_)
  · obtain ⟨v, D, o, rfl, _⟩ := h
    rfl
  · obtain ⟨v, D, o, rfl, j, q⟩ := h
    refine ⟨_, (pss_one (ps_ret (pe_and (pe_call G_is_fraction (hr.mono (by decide)) (by rfl) T.g_is_fraction T.k_is_fraction T.b_is_fraction .nil pass0 (pa_cons (pv 0) pa_nil)) (pe_one (pe_cmpR op_gt (pe_ix ix_tup (pv 0) pe_int (fun _ _ => rfl)) pe_int (nomark _)))))), ?_⟩
    walk_at "r"
    refine ⟨_, _, _, rfl, j, ?_⟩
    cases o with
    | none =>
      rw [Option.isSome_none]
      walk_at "r"
      exact q
    | some r =>
      rw [Option.isSome_some]
      obtain ⟨h, b⟩ := j.isF
      obtain ⟨p, rfl, hp⟩ := id h
      walk_at "r"
      rw [show decide (r.num > 0) = sa (some r) from ?_]
      · exact q
      · show decide (r.num > 0) = decide (0 < r)
        rw [Bool.eq_iff_iff, decide_eq_true_eq, decide_eq_true_eq, Rat.lt_iff]
        simp
def sp_is_indexJ (K : PySem.W.Frag) (C : Addr) : Sp := fun vs H Q _ => ∃ (x y : V) (D : Addr) (n : Nat) (ss : List Stl) (o : Option Int), vs = [x, y] ∧ IsWeb K C H x n ss ∧ JI K D H y o ∧ Q (.bl (ixOk ss.length o)) H
theorem ok_is_indexJ (T : Txt K mg f_is_integer f_is_row f_is_fraction f_is_some f_multiplied f_squared f_is_stall f_across f_hold_of f_is_index f_is_step f_end_of f_is_walk f_is_ring f_is_uneven f_is_uneven_ring f_l_hand f_l_draw f_l_gcd f_l_frac f_l_times f_l_over f_l_some f_l_shuffled f_l_stall f_l_stalls f_l_sizes f_l_whole f_l_is_flag f_l_is_uneven f_l_ring f_l_back f_l_bent f_law f_Web_init f_Web_eq c_Web c_ONE d_is_integer d_is_row d_is_fraction d_is_some d_multiplied d_squared d_is_stall d_across d_hold_of d_is_index d_is_step d_end_of d_is_walk d_is_ring d_is_uneven d_is_uneven_ring d_l_hand d_l_draw d_l_gcd d_l_frac d_l_times d_l_over d_l_some d_l_shuffled d_l_stall d_l_stalls d_l_sizes d_l_whole d_l_is_flag d_l_is_uneven d_l_ring d_l_back d_l_bent d_law d_Web_init d_Web_eq) : FnOk P w K mg base CX0 2 f_is_index d_is_index ["web", "thing"] (sp_is_indexJ K c_Web) := by
  have G_is_integer : FnOk P w K mg base CX0 1 f_is_integer d_is_integer ["thing"] (sp_isiJ K) := ok_is_integerJ T
  refine T.F_is_index.ok sc_is_index (fun vs H Q E h => ?_) (fun cdv A outer s H vs Q E hr h => ?_)
  · obtain ⟨x, y, D, n, ss, o, rfl, _⟩ := h
    rfl
  · obtain ⟨x, y, D, n, ss, o, rfl, ⟨p, dx, t, xs, rfl, hp, ht, hss⟩, hy, q⟩ := h
    refine ⟨_, (pss_one (ps_ret (pe_and (pe_call G_is_integer (hr.mono (by decide)) (by rfl) T.g_is_integer T.k_is_integer T.b_is_integer .nil pass0 (pa_cons (pv 1) pa_nil)) (pe_one (pe_chain op_le op_lt pe_int (pv 1) (pe_callB call_lenN (by rfl) T.z_len (by decide +kernel) (pa_cons (pe_fld (pv 0) rfl) pa_nil))))))), ?_⟩
    have hl := hss.len
    walk_at "r"
    obtain ⟨b, hb, eb⟩ := hy.isi
    refine ⟨_, b, rfl, hb, ?_⟩
    rcases hy with ⟨i, rfl, rfl⟩ | ⟨od, rfl⟩
    · rw [Option.isSome_some] at eb
      subst eb
      walk_at "r"
      walk_at "if"
      · rename_i h0
        walk_at "r"
        refine ⟨_, _, _, _, _, rfl, hp, T.w_Web.it.cl, T.n_Web_stalls, wF_stalls _ _, ?_⟩
        walk_at "r"
        have e : ixOk ss.length (some i) = decide (i < ((xs.length : Nat) : Int)) := by
          show (decide (0 ≤ i) && decide (i < (ss.length : Nat))) = _
          rw [decide_eq_true h0, Bool.true_and, hl]
        rw [e] at q
        exact q
      · rename_i h0
        walk_at "r"
        have e : ixOk ss.length (some i) = false := by
          show (decide (0 ≤ i) && decide (i < (ss.length : Nat))) = _
          rw [decide_eq_false h0, Bool.false_and]
        rw [e] at q
        exact q
    · rw [Option.isSome_none] at eb
      subst eb
      walk_at "r"
      exact q
def sp_is_moveJ (K : PySem.W.Frag) (C : Addr) : Sp := fun vs H Q _ => ∃ (x y : V) (D : Addr) (n : Nat) (ss : List Stl) (t : Jm), vs = [x, y] ∧ IsWeb K C H x n ss ∧ JM K D H y t ∧ ∀ H', Same H H' → Q (.bl (mvOk ss t)) H'
end
end My
namespace My
open PySem PySem.Spec PyProof.Rows L2
variable {K : PySem.W.Frag}
/-! ### pairs judged -/
def jeOf (a b : Option Int) : Option (Int × Int) := a.bind fun i => b.map fun w => (i, w)
def JE (K : PySem.W.Frag) (D : Addr) (H : Hp) (v : V) (e : Option (Int × Int)) : Prop :=
  (∃ p x y a b, v = .ref p ∧ p ≠ D ∧ H p = some (.tup [x, y]) ∧ JI K D H x a ∧ JI K D H y b ∧ e = jeOf a b) ∨
  (((∃ i, v = .int i) ∨ Od K D H v ∧ ∀ p xs, v = .ref p → H p = some (.tup xs) → xs.length ≠ 2) ∧ e = none)
theorem JE.fw {D : Addr} {H H' : Hp} {v : V} {e : Option (Int × Int)} (j : JE K D H v e) (f : Fw D H H') : JE K D H' v e := by
  rcases j with ⟨p, x, y, a, b, e, n, h, h1, h2, e2⟩ | ⟨i | ⟨o, h⟩, e⟩
  · exact .inl ⟨p, x, y, a, b, e, n, f _ _ n h, h1.fw f, h2.fw f, e2⟩
  · exact .inr ⟨.inl i, e⟩
  · refine .inr ⟨.inr ⟨o.fw f, fun p xs e z => ?_⟩, e⟩
    subst e
    cases o with
    | lst n h3 =>
      rw [f _ _ n h3] at z
      cases z
    | tup n h3 =>
      rw [f _ _ n h3] at z
      cases z
      exact h _ _ rfl h3
    | dK n h3 =>
      rw [f _ _ n h3] at z
      cases z
    | ins n h3 c =>
      rw [f _ _ n h3] at z
      cases z
theorem JE.same {D : Addr} {H H' : Hp} {v : V} {e : Option (Int × Int)} (j : JE K D H v e) (s : Same H H') : JE K D H' v e := j.fw (Same.fw s)
/-- a pair of integers is one -/
theorem JE.some {D : Addr} {H : Hp} {v : V} {i w : Int} (j : JE K D H v (some (i, w))) : ∃ p, v = .ref p ∧ p ≠ D ∧ H p = .some (.tup [.int i, .int w]) := by
  rcases j with ⟨p, x, y, a, b, e, n, h, h1, h2, e2⟩ | ⟨_, e⟩
  · cases a with
    | none => cases e2
    | some i' =>
      cases b with
      | none => cases e2
      | some w' =>
        cases e2
        rcases h1 with ⟨_, rfl, q⟩ | ⟨_, q⟩
        · cases q
          rcases h2 with ⟨_, rfl, q⟩ | ⟨_, q⟩
          · cases q
            exact ⟨p, e, n, h⟩
          · cases q
        · cases q
  · cases e
def goodE (ss : List Stl) : Option (Int × Int) → Bool
  | some (i, w) => ixOk ss.length (some i) && wrOk ss i w
  | none => false
section
variable {P : Program} {w : World} {K : PySem.W.Frag} {mg : Str → Option Value} {base : Heap} {f_is_integer f_is_row f_is_fraction f_is_some f_multiplied f_squared f_is_stall f_across f_hold_of f_is_index f_is_step f_end_of f_is_walk f_is_ring f_is_uneven f_is_uneven_ring f_l_hand f_l_draw f_l_gcd f_l_frac f_l_times f_l_over f_l_some f_l_shuffled f_l_stall f_l_stalls f_l_sizes f_l_whole f_l_is_flag f_l_is_uneven f_l_ring f_l_back f_l_bent f_law f_Web_init f_Web_eq c_Web c_ONE : Addr} {d_is_integer d_is_row d_is_fraction d_is_some d_multiplied d_squared d_is_stall d_across d_hold_of d_is_index d_is_step d_end_of d_is_walk d_is_ring d_is_uneven d_is_uneven_ring d_l_hand d_l_draw d_l_gcd d_l_frac d_l_times d_l_over d_l_some d_l_shuffled d_l_stall d_l_stalls d_l_sizes d_l_whole d_l_is_flag d_l_is_uneven d_l_ring d_l_back d_l_bent d_law d_Web_init d_Web_eq : FuncData}
def sp_is_stepJ (K : PySem.W.Frag) (C : Addr) : Sp := fun vs H Q _ => ∃ (x y : V) (D : Addr) (n : Nat) (ss : List Stl) (t : Option (Int × Int)), vs = [x, y] ∧ IsWeb K C H x n ss ∧ JE K D H y t ∧ ∀ H', Same H H' → Q (.bl (goodE ss t)) H'
theorem ok_is_stepJ (T : Txt K mg f_is_integer f_is_row f_is_fraction f_is_some f_multiplied f_squared f_is_stall f_across f_hold_of f_is_index f_is_step f_end_of f_is_walk f_is_ring f_is_uneven f_is_uneven_ring f_l_hand f_l_draw f_l_gcd f_l_frac f_l_times f_l_over f_l_some f_l_shuffled f_l_stall f_l_stalls f_l_sizes f_l_whole f_l_is_flag f_l_is_uneven f_l_ring f_l_back f_l_bent f_law f_Web_init f_Web_eq c_Web c_ONE d_is_integer d_is_row d_is_fraction d_is_some d_multiplied d_squared d_is_stall d_across d_hold_of d_is_index d_is_step d_end_of d_is_walk d_is_ring d_is_uneven d_is_uneven_ring d_l_hand d_l_draw d_l_gcd d_l_frac d_l_times d_l_over d_l_some d_l_shuffled d_l_stall d_l_stalls d_l_sizes d_l_whole d_l_is_flag d_l_is_uneven d_l_ring d_l_back d_l_bent d_law d_Web_init d_Web_eq) : FnOk P w K mg base CX0 3 f_is_step d_is_step ["web", "thing"] (sp_is_stepJ K c_Web) := by
  have G_is_integer : FnOk P w K mg base CX0 1 f_is_integer d_is_integer ["thing"] (sp_isiJ K) := ok_is_integerJ T
  have G_is_index : FnOk P w K mg base CX0 2 f_is_index d_is_index ["web", "thing"] (sp_is_indexJ K c_Web) := ok_is_indexJ T
  refine T.F_is_step.ok sc_is_step (fun vs H Q E h => ?_) (fun cdv A outer sh H vs Q E hr h => ?_)
  · obtain ⟨x, y, D, n, ss, t, rfl, _⟩ := h
    rfl
  · obtain ⟨x, y, D, n, ss, t, rfl, hw, hy, q⟩ := h
    refine ⟨_, (pss_cons (ps_if (PW.pt (pw_or (pt_not (pt_val (pe_callB call_isi (by rfl) T.z_isinstance (by decide +kernel) (pa_cons (pv 1) (pa_cons (pe_bltn (v := .ty "tuple") (u := .type "tuple") (by rfl) T.z_tuple (by decide +kernel) rfl) pa_nil))))) (pw_or1 (pt_cmpR op_ne (pe_callB call_lenN (by rfl) T.z_len (by decide +kernel) (pa_cons (pv 1) pa_nil)) pe_int (nomark _)))))
        (pss_one (ps_ret pe_bl))
        pss_nil)
      (pss_cons (ps_asg (pv 1) (pg_tup rfl (pgs_cons (pg_name (i := 2) sc_is_step.nd rfl (by first | exact Or.inl rfl | exact Or.inr rfl)) (pgs_cons (pg_name (i := 3) sc_is_step.nd rfl (by first | exact Or.inl rfl | exact Or.inr rfl)) pgs_nil))))
      (pss_one (ps_ret (pe_and (pe_call G_is_index (hr.mono (by decide)) (by rfl) T.g_is_index T.k_is_index T.b_is_index .nil pass0 (pa_cons (pv 0) (pa_cons (pv 2) pa_nil))) (pe_and (pe_call G_is_integer (hr.mono (by decide)) (by rfl) T.g_is_integer T.k_is_integer T.b_is_integer .nil pass0 (pa_cons (pv 3) pa_nil)) (pe_one (pe_cmpR op_in_seq (pv 3) (pe_slice sl_tup (pe_ix ix_tup (pe_fld (pv 0) rfl) (pv 2) (fun _ _ => rfl)) po_none (po_some pe_int)) (by rfl))))))))), ?_⟩
    walk_at "r"
    rcases hy with ⟨p, vx, vy, a, b, rfl, np, hp, ja, jb, rfl⟩ | ⟨⟨i, rfl⟩ | ⟨o, hn⟩, rfl⟩
    · walk_at "r"
      refine ⟨_, _, D, n, ss, a, rfl, hw, ja, ?_⟩
      cases ca : ixOk ss.length a with
      | false =>
        have q := q _ (Same.refl _)
        have e : goodE ss (jeOf a b) = false := by
          cases a with
          | none => rfl
          | some i =>
            cases b with
            | none => rfl
            | some w =>
              show (ixOk ss.length (some i) && _) = false
              rw [ca, Bool.false_and]
        rw [e] at q
        walk_at "r"
        exact q
      | true =>
        walk_at "r"
        obtain ⟨bb, hb, eb⟩ := jb.isi
        refine ⟨_, bb, rfl, hb, ?_⟩
        cases b with
        | none =>
          rw [Option.isSome_none] at eb
          subst eb
          have q := q _ (Same.refl _)
          have e : goodE ss (jeOf a none) = false := by cases a <;> rfl
          rw [e] at q
          walk_at "r"
          exact q
        | some wi =>
          rw [Option.isSome_some] at eb
          subst eb
          walk_at "r"
          obtain ⟨i, rfl⟩ : ∃ i, a = some i := by
            cases a with
            | none => cases ca
            | some i => exact ⟨i, rfl⟩
          have ex : vx = .int i := by
            rcases ja with ⟨_, h1, h2⟩ | ⟨_, h2⟩
            · cases h2
              exact h1
            · cases h2
          have ey : vy = .int wi := by
            rcases jb with ⟨_, h1, h2⟩ | ⟨_, h2⟩
            · cases h2
              exact h1
            · cases h2
          subst ex
          subst ey
          have ca' : (decide (0 ≤ i) && decide (i < (ss.length : Nat))) = true := ca
          rw [Bool.and_eq_true, decide_eq_true_eq, decide_eq_true_eq] at ca'
          obtain ⟨j, rfl⟩ := Int.eq_ofNat_of_zero_le ca'.1
          have hj : j < ss.length := by omega
          obtain ⟨s, hs⟩ : ∃ s, ss[j]? = some s := ⟨_, List.getElem?_eq_getElem hj⟩
          obtain ⟨px, dx, t, xs, rfl, hpx, ht, hss⟩ := id hw
          obtain ⟨z, hz, ⟨pz, va, vb, vr, rfl, hpz, _⟩⟩ := hss.get hs
          have e : goodE ss (jeOf (some (j : Int)) (some wi)) = (decide (wi = (s.u : Nat)) || decide (wi = (s.v : Nat))) := by
            show (ixOk ss.length (some (j : Int)) && wrOk ss j wi) = _
            rw [ca, Bool.true_and]
            unfold wrOk
            rw [Int.toNat_natCast, hs]
          rw [e] at q
          refine ⟨_, _, _, _, _, rfl, hpx, T.w_Web.it.cl, T.n_Web_stalls, wF_stalls _ _, ?_⟩
          walk_at "r"
          refine rd_ixT ht (at_some hz) ?_
          walk_at "r"
          refine ⟨_, _, rfl, .of hpz, (by show ¬ (HT.sIx 5 0 none = 0 ∧ HT.sIx 5 5 (some 2) = 5); decide), fun p2 n2 => ?_⟩
          have sm := same_upd (o := .tup (cutV [V.int (s.u : Nat), .int (s.v : Nat), va, vb, vr] none (some 2))) n2
          refine ⟨_, _, rfl, .inr (.of upd_same), rfl, rfl, ?_⟩
          have e2 : inV (.int wi) (cutV [V.int (s.u : Nat), .int (s.v : Nat), va, vb, vr] none (some 2)) = (decide (wi = (s.u : Nat)) || decide (wi = (s.v : Nat))) := by
            rw [show cutV [V.int (s.u : Nat), .int (s.v : Nat), va, vb, vr] none (some 2) = [V.int (s.u : Nat), .int (s.v : Nat)] from rfl]
            simp [inV, eqV, Bool.beq_eq_decide_eq]
            rw [show decide (((s.u : Nat) : Int) = wi) = decide (wi = (s.u : Nat)) from decide_eq_decide.mpr eq_comm, show decide (((s.v : Nat) : Int) = wi) = decide (wi = (s.v : Nat)) from decide_eq_decide.mpr eq_comm]
          rw [e2]
          exact q _ sm
    · have q := q _ (Same.refl _)
      walk_at "r"
      exact q
    · have q := q _ (Same.refl _)
      obtain ⟨b1, b2, b3, hb, -, -, h3, ht⟩ := o.isi
      walk_at "r"
      refine h3 _ ?_
      cases b3 with
      | false =>
        walk_at "r"
        exact q
      | true =>
        obtain ⟨p, xs, rfl, np, hp⟩ := ht rfl
        have hl : ¬ ((xs.length : Int) = 2) := by
          have := hn p xs rfl hp
          omega
        walk_at "r"
        exact q
end
end My
namespace My
open PySem PySem.Spec PyProof.Rows L2
variable {K : PySem.W.Frag}
theorem rd_lenSetA {ta : TE} {σ : L2.St} {H : Hp} {Q : VK} (h : ta σ H fun x H1 => ∃ (l : Addr) (ns : List Int), x = .ref l ∧ SqL K H1 l (ns.map V.int) ∧ ns.length ≤ 4000 ∧ ∀ k : Nat, k ≤ ns.length → (k = ns.length ↔ ns.Nodup) → Q (.int (k : Nat)) H1) : tLenSetA K ta σ H Q := h
def upE (p : Nat × Nat) : Option (Int × Int) := some ((p.1 : Int), (p.2 : Int))
theorem upE_inj {a b : List (Nat × Nat)} (h : a.map upE = b.map upE) : a = b := by
  induction a generalizing b with
  | nil =>
    cases b with
    | nil => rfl
    | cons y l => cases h
  | cons x l ih =>
    cases b with
    | nil => cases h
    | cons y m =>
      rw [List.map_cons, List.map_cons] at h
      injection h with h1 h2
      have e : x = y := by
        unfold upE at h1
        injection h1 with h1
        injection h1 with ha hb
        exact Prod.ext (by omega) (by omega)
      rw [e, ih h2]
/-- a thing judged as a tuple of pairs -/
def JTh (K : PySem.W.Frag) (D : Addr) (H : Hp) (v : V) (o : Option (List (Option (Int × Int)))) : Prop :=
  (∃ p xs es, v = .ref p ∧ p ≠ D ∧ H p = some (.tup xs) ∧ Paired (JE K D H) xs es ∧ xs.length ≤ 60 ∧ o = some es) ∨
  (((∃ i, v = .int i) ∨ Od K D H v ∧ ∀ p xs, v = .ref p → H p ≠ some (.tup xs)) ∧ o = none)
def WalkO (ss : List Stl) (o : Option (List (Option (Int × Int)))) : Prop := ∃ st, o = some (st.map upE) ∧ Rte ss st
def RingO (ss : List Stl) (o : Option (List (Option (Int × Int)))) : Prop := ∃ st, o = some (st.map upE) ∧ Rng ss st
def UnevO (ss : List Stl) (o : Option (List (Option (Int × Int)))) : Prop := ∃ st, o = some (st.map upE) ∧ Rng ss st ∧ Unev ss st
theorem ix_ok {m : Nat} {i : Int} (h : ixOk m (some i) = true) : ∃ j : Nat, i = (j : Int) ∧ j < m := by
  have h : (decide (0 ≤ i) && decide (i < (m : Nat))) = true := h
  rw [Bool.and_eq_true, decide_eq_true_eq, decide_eq_true_eq] at h
  exact ⟨i.toNat, by omega, by omega⟩
theorem good_up {ss : List Stl} {e : Option (Int × Int)} (h : goodE ss e = true) : ∃ p : Nat × Nat, e = upE p ∧ ∃ s, ss[p.1]? = some s ∧ (p.2 = s.u ∨ p.2 = s.v) := by
  match e, h with
  | some (i, w), h =>
    have h : (ixOk ss.length (some i) && wrOk ss i w) = true := h
    rw [Bool.and_eq_true] at h
    obtain ⟨j, rfl, hj⟩ := ix_ok h.1
    have h2 := h.2
    unfold wrOk at h2
    rw [Int.toNat_natCast, List.getElem?_eq_getElem hj] at h2
    have h2 : (decide (w = (ss[j].u : Nat)) || decide (w = (ss[j].v : Nat))) = true := h2
    rw [Bool.or_eq_true, decide_eq_true_eq, decide_eq_true_eq] at h2
    have h3 : w.toNat = ss[j].u ∨ w.toNat = ss[j].v := by omega
    refine ⟨(j, w.toNat), ?_, ss[j], List.getElem?_eq_getElem hj, h3⟩
    unfold upE
    rw [show ((w.toNat : Nat) : Int) = w by rcases h2 with h2 | h2 <;> omega]
theorem up_good {ss : List Stl} {p : Nat × Nat} (h : ∃ s, ss[p.1]? = some s ∧ (p.2 = s.u ∨ p.2 = s.v)) : goodE ss (upE p) = true := by
  obtain ⟨s, hs, hw⟩ := h
  have hj := (List.getElem?_eq_some_iff.mp hs).1
  show (ixOk ss.length (some (p.1 : Int)) && wrOk ss (p.1 : Int) (p.2 : Int)) = true
  rw [Bool.and_eq_true]
  constructor
  · show (decide ((0 : Int) ≤ (p.1 : Nat)) && decide (((p.1 : Nat) : Int) < (ss.length : Nat))) = true
    rw [decide_eq_true (by omega), decide_eq_true (by omega)]
    rfl
  · unfold wrOk
    rw [Int.toNat_natCast, hs]
    show (decide ((p.2 : Int) = (s.u : Nat)) || decide ((p.2 : Int) = (s.v : Nat))) = true
    rcases hw with h | h
    · rw [h, decide_eq_true rfl]
      rfl
    · rw [h, decide_eq_true rfl, Bool.or_true]
theorem all_up {ss : List Stl} : ∀ {es : List (Option (Int × Int))}, (∀ e ∈ es, goodE ss e = true) → ∃ st : List (Nat × Nat), es = st.map upE ∧ ∀ p ∈ st, ∃ s, ss[p.1]? = some s ∧ (p.2 = s.u ∨ p.2 = s.v)
  | [], _ => ⟨[], rfl, by simp⟩
  | e :: es, h => by
    obtain ⟨p, rfl, hp⟩ := good_up (h e List.mem_cons_self)
    obtain ⟨st, rfl, hst⟩ := all_up fun e he => h e (List.mem_cons_of_mem _ he)
    exact ⟨p :: st, rfl, fun q hq => (List.mem_cons.mp hq).elim (fun e => e ▸ hp) (hst q)⟩
def chB (ss : List Stl) (st : List (Nat × Nat)) (i : Nat) : Bool := match st[i]?, st[i + 1]? with
  | some p, some q => (match ss[p.1]? with | some s => decide (s.other p.2 = q.2) | none => false)
  | _, _ => false
/-- its pairs in the heap -/
theorem up_pairs {D : Addr} {H : Hp} {xs : List V} {st : List (Nat × Nat)} (h : Paired (JE K D H) xs (st.map upE)) : Paired (fun v (p : Nat × Nat) => ∃ q, v = .ref q ∧ H q = some (.tup [V.int (p.1 : Nat), .int (p.2 : Nat)])) xs st := by
  induction st generalizing xs with
  | nil =>
    cases h
    exact .nil
  | cons p st ih =>
    cases h with
    | cons h t =>
      obtain ⟨q, e, _, hq⟩ := JE.some (i := p.1) (w := p.2) h
      exact .cons ⟨q, e, hq⟩ (ih t)
section
variable {P : Program} {w : World} {K : PySem.W.Frag} {mg : Str → Option Value} {base : Heap} {f_is_integer f_is_row f_is_fraction f_is_some f_multiplied f_squared f_is_stall f_across f_hold_of f_is_index f_is_step f_end_of f_is_walk f_is_ring f_is_uneven f_is_uneven_ring f_l_hand f_l_draw f_l_gcd f_l_frac f_l_times f_l_over f_l_some f_l_shuffled f_l_stall f_l_stalls f_l_sizes f_l_whole f_l_is_flag f_l_is_uneven f_l_ring f_l_back f_l_bent f_law f_Web_init f_Web_eq c_Web c_ONE : Addr} {d_is_integer d_is_row d_is_fraction d_is_some d_multiplied d_squared d_is_stall d_across d_hold_of d_is_index d_is_step d_end_of d_is_walk d_is_ring d_is_uneven d_is_uneven_ring d_l_hand d_l_draw d_l_gcd d_l_frac d_l_times d_l_over d_l_some d_l_shuffled d_l_stall d_l_stalls d_l_sizes d_l_whole d_l_is_flag d_l_is_uneven d_l_ring d_l_back d_l_bent d_law d_Web_init d_Web_eq : FuncData}
def sp_is_walkJ (K : PySem.W.Frag) (C : Addr) : Sp := fun vs H Q _ => ∃ (x v : V) (D : Addr) (n : Nat) (ss : List Stl) (o : Option (List (Option (Int × Int)))), vs = [x, v] ∧ IsWeb K C H x n ss ∧ JTh K D H v o ∧ ss.length ≤ 16 ∧ ∀ H' b, Same H H' → (b = true ↔ WalkO ss o) → Q (.bl b) H'
theorem ok_is_walkJ (T : Txt K mg f_is_integer f_is_row f_is_fraction f_is_some f_multiplied f_squared f_is_stall f_across f_hold_of f_is_index f_is_step f_end_of f_is_walk f_is_ring f_is_uneven f_is_uneven_ring f_l_hand f_l_draw f_l_gcd f_l_frac f_l_times f_l_over f_l_some f_l_shuffled f_l_stall f_l_stalls f_l_sizes f_l_whole f_l_is_flag f_l_is_uneven f_l_ring f_l_back f_l_bent f_law f_Web_init f_Web_eq c_Web c_ONE d_is_integer d_is_row d_is_fraction d_is_some d_multiplied d_squared d_is_stall d_across d_hold_of d_is_index d_is_step d_end_of d_is_walk d_is_ring d_is_uneven d_is_uneven_ring d_l_hand d_l_draw d_l_gcd d_l_frac d_l_times d_l_over d_l_some d_l_shuffled d_l_stall d_l_stalls d_l_sizes d_l_whole d_l_is_flag d_l_is_uneven d_l_ring d_l_back d_l_bent d_law d_Web_init d_Web_eq) : FnOk P w K mg base CX0 4 f_is_walk d_is_walk ["web", "thing"] (sp_is_walkJ K c_Web) := by
  have G_is_step : FnOk P w K mg base CX0 3 f_is_step d_is_step ["web", "thing"] (sp_is_stepJ K c_Web) := ok_is_stepJ T
  have G_end_of : FnOk P w K mg base CX0 2 f_end_of d_end_of ["web", "step"] (sp_end_of K c_Web) := ok_end_of T
  refine T.F_is_walk.ok sc_is_walk (fun vs H Q E h => ?_) (fun cdv A outer s H vs Q E hr h => ?_)
  · obtain ⟨x, v, D, n, ss, o, rfl, _⟩ := h
    rfl
  · obtain ⟨x, v, D, n, ss, o, rfl, hw, hv, l16, q⟩ := h
    obtain ⟨p, dx, t, xs, rfl, hp, ht, hss⟩ := id hw
    have lx := hss.len
    have no : ∀ {o : Option (List (Option (Int × Int)))}, ¬ WalkO ss o → ((false : Bool) = true ↔ WalkO ss o) := fun h => ⟨fun z => absurd z Bool.false_ne_true, fun z => absurd z h⟩
    refine ⟨_, (pss_cons (ps_if (PW.pt (pw_or (pt_not (pt_val (pe_callB call_isi (by rfl) T.z_isinstance (by decide +kernel) (pa_cons (pv 1) (pa_cons (pe_bltn (v := .ty "tuple") (u := .type "tuple") (by rfl) T.z_tuple (by decide +kernel) rfl) pa_nil))))) (pw_or1 (pt_not (pt_chain op_lt op_le pe_int (pe_callB call_lenN (by rfl) T.z_len (by decide +kernel) (pa_cons (pv 1) pa_nil)) (pe_callB call_lenN (by rfl) T.z_len (by decide +kernel) (pa_cons (pe_fld (pv 0) rfl) pa_nil)))))))
        (pss_one (ps_ret pe_bl))
        pss_nil)
      (pss_cons (ps_if (pt_not (pt_val (pe_callB (cr_all rfl) (by rfl) T.z_all (by decide +kernel) (pa_cons (pe_lc (own := [("step", 2)]) (g := gName 2) rfl sc_is_walk.nd (pi_tup (pv 1)) (blkOk_by (own := [("step", 2)]) (N := N_is_walk) (sc := defScope s_is_walk) (by decide +kernel)) (fun _ _ _ _ _ => (pg_name (i := 2) sc_is_walk.nd rfl (by first | exact Or.inl rfl | exact Or.inr rfl))) (fun _ _ _ _ _ => pts_nil) (fun _ _ _ _ _ => (pe_call G_is_step (hr.mono (by decide)) (by rfl) T.g_is_step T.k_is_step T.b_is_step .nil pass0 (pa_cons (pv 0) (pa_cons (pv 2) pa_nil))))) pa_nil))))
        (pss_one (ps_ret pe_bl))
        pss_nil)
      (pss_cons (ps_if (pt_cmpR op_lt (My.pe_lenSetA (by rfl) T.z_len (by rfl) T.z_set (pe_lc (own := [("index", 3), ("ware", 4)]) (g := gTup K 2 (gCons (gName 3) (gCons (gName 4) (gNil)))) rfl sc_is_walk.nd (pi_tup (pv 1)) (blkOk_by (own := [("index", 3), ("ware", 4)]) (N := N_is_walk) (sc := defScope s_is_walk) (by decide +kernel)) (fun _ _ _ _ _ => (pg_tup rfl (pgs_cons (pg_name (i := 3) sc_is_walk.nd rfl (by first | exact Or.inl rfl | exact Or.inr rfl)) (pgs_cons (pg_name (i := 4) sc_is_walk.nd rfl (by first | exact Or.inl rfl | exact Or.inr rfl)) pgs_nil)))) (fun _ _ _ _ _ => pts_nil) (fun _ _ _ _ _ => (pv 3)))) (pe_callB call_lenN (by rfl) T.z_len (by decide +kernel) (pa_cons (pv 1) pa_nil)) (nomark _))
        (pss_one (ps_ret pe_bl))
        pss_nil)
      (pss_one (ps_ret (pe_callB (cr_all rfl) (by rfl) T.z_all (by decide +kernel) (pa_cons (pe_lc (own := [("step", 2), ("after", 5)]) (g := gTup K 2 (gCons (gName 2) (gCons (gName 5) (gNil)))) rfl sc_is_walk.nd (My.pi_zipP (by rfl) T.z_zip (pa_cons (pv 1) (pa_cons (pe_slice sl_tup (pv 1) (po_some pe_int) po_none) pa_nil))) (blkOk_by (own := [("step", 2), ("after", 5)]) (N := N_is_walk) (sc := defScope s_is_walk) (by decide +kernel)) (fun _ _ _ _ _ => (pg_tup rfl (pgs_cons (pg_name (i := 2) sc_is_walk.nd rfl (by first | exact Or.inl rfl | exact Or.inr rfl)) (pgs_cons (pg_name (i := 5) sc_is_walk.nd rfl (by first | exact Or.inl rfl | exact Or.inr rfl)) pgs_nil)))) (fun _ _ _ _ _ => pts_nil) (fun _ _ _ _ _ => (pe_cmpR op_eq (pe_call G_end_of (hr.mono (by decide)) (by rfl) T.g_end_of T.k_end_of T.b_end_of .nil pass0 (pa_cons (pv 0) (pa_cons (pv 2) pa_nil))) (pe_ix (My.ix_tupK (K := K) (by rfl)) (pv 5) pe_int (fun _ _ => rfl)) (nomark _)))) pa_nil))))))), ?_⟩
    walk_at "r"
    rcases hv with ⟨tw, vw, es, rfl, nt, htw, hpw, lvw, rfl⟩ | ⟨⟨i, rfl⟩ | ⟨od, hn⟩, rfl⟩
    · have lw := Paired.length hpw
      walk_at "r"
      walk_at "if"
      · rename_i c1
        walk_at "r"
        refine ⟨_, _, _, _, _, rfl, hp, T.w_Web.it.cl, T.n_Web_stalls, wF_stalls _ _, ?_⟩
        walk_at "r"
        walk_at "if"
        · rename_i c2
          walk_at "r"
          refine q _ _ (Same.refl _) (no fun ⟨st, e, r⟩ => ?_)
          cases e
          have := r.len
          rw [List.length_map] at lw
          omega
        · rename_i c2
          walk_at "r"
          refine ⟨⟨_, .of htw⟩, fun D1 nD1 => ?_⟩
          refine lc_tupP (R := fun H v (b : Bool) => v = .bl b) (fun _ _ _ _ _ h => h) (f := fun i => (es[i]?).map (goodE ss)) nD1 (by omega) (.of htw) (fun i v hx H' Q' N' s1 hyy _ => ?_) fun H1 hl1 => ?_
          · obtain ⟨e, he, je⟩ := Paired.at hpw hx
            walk_at "r"
            refine ⟨rfl, ?_⟩
            walk_at "r"
            exact ⟨_, v, D, n, ss, e, rfl, hw.same s1, je.same s1, fun H2 s2 => hyy _ _ _ (by simp [he]) s2 rfl⟩
          obtain ⟨s1, bs, hD1, hbs⟩ := hl1
          rw [lw, upTo_list] at hbs
          have e := bools_of' hbs
          subst e
          walk_at "r"
          refine ⟨D1, _, rfl, .of hD1, ?_⟩
          cases hg : (es.map (goodE ss)).all id with
          | false =>
            have hno : ¬ WalkO ss (some es) := fun ⟨st, e, r⟩ => by
              cases e
              rw [← Bool.not_eq_true, List.all_eq_true] at hg
              exact hg fun b hb => by
                obtain ⟨y, hy, rfl⟩ := List.mem_map.mp hb
                obtain ⟨z, hz, rfl⟩ := List.mem_map.mp hy
                exact up_good (r.mem z hz)
            walk_at "r"
            exact q _ _ s1 (no hno)
          | true =>
            rw [List.all_eq_true] at hg
            obtain ⟨st, rfl, hm⟩ := all_up (ss := ss) (es := es) fun e he => hg _ (List.mem_map_of_mem he)
            have hpp := up_pairs hpw
            rw [List.length_map] at lw
            clear hD1 hbs nD1 hg
            walk_at "r"
            refine rd_lenSetA ?_
            walk_at "r"
            have htw1 := s1 _ _ htw
            refine ⟨⟨_, .of htw1⟩, fun D2 nD2 => ?_⟩
            refine lc_tupP (R := fun H v (b : Nat) => v = .int (b : Nat)) (fun _ _ _ _ _ h => h) (f := fun i => (st[i]?).map Prod.fst) nD2 (by omega) (.of htw1) (fun i v hx H' Q' N' s2 hyy _ => ?_) fun H2 hl2 => ?_
            · obtain ⟨⟨i', wn⟩, hpi, pq, rfl, hpq⟩ := Paired.at hpp hx
              have hpq2 := s2 _ _ (s1 _ _ hpq)
              walk_at "r"
              refine ⟨rfl, ?_⟩
              walk_at "r"
              exact hyy i' _ _ (by simp [hpi]) (Same.refl _) rfl
            obtain ⟨s2, bs2, hD2, hbs2⟩ := hl2
            rw [lw, upTo_list] at hbs2
            have e2 := ints_of hbs2
            subst e2
            refine ⟨D2, _, rfl, .of hD2, by simp; omega, fun k k1 k2 => ?_⟩
            rw [List.length_map, List.length_map] at k1 k2
            have k3 : k = st.length ↔ (st.map Prod.fst).Nodup := k2.trans ⟨fun h => (List.pairwise_map.mp h).imp fun h z => h (by omega), fun h => List.Pairwise.map _ (fun a b h z => h (by omega)) h⟩
            have kk := s1.trans s2
            have htw2 := kk _ _ htw
            clear hD2 hbs2 nD2 htw1 k2
            walk_at "r"
            walk_at "if"
            · rename_i c3
              have hno : ¬ WalkO ss (some (st.map upE)) := fun ⟨st2, e, r⟩ => by
                have e := upE_inj (Option.some.inj e)
                subst e
                have := k3.mpr r.nd
                omega
              walk_at "r"
              exact q _ _ kk (no hno)
            · rename_i c3
              have nd := k3.mp (by omega)
              clear s1 s2
              walk_at "r"
              refine rd_zipP ?_
              walk_at "r"
              refine rd_slT htw2 (show ¬ (HT.sIx vw.length 0 (some 1) = 0 ∧ HT.sIx vw.length vw.length none = vw.length) from fun z => ?_) fun p1 H3 s3 h3 => ?_
              · have z1 := z.1
                rw [show ((1 : Int)) = ((1 : Nat) : Int) from rfl, HT.sIx_nat] at z1
                omega
              have kk3 := kk.trans s3
              have h3 : H3 p1 = some (.tup (vw.drop 1)) := by rw [h3, show (1 : Int) = ((1 : Nat) : Int) from rfl, cut_drop]
              walk_at "r"
              refine ⟨tw, p1, vw, vw.drop 1, rfl, ?_⟩
              refine lc_zipS (R := fun H v (b : Bool) => v = .bl b) (fun _ _ _ _ _ h => h) (f := fun i => some (chB ss st i)) (by rw [List.length_drop]; omega) (by rw [List.length_drop]; omega) (.of (s3 _ _ htw2)) (.of h3) (fun i a b ha hb H' Q' N' s4 hyy _ T2 nT => ?_) (fun D3 H4 hl4 => ?_) rfl
              · obtain ⟨⟨i1, w1⟩, hp1, q1, rfl, hq1⟩ := Paired.at hpp ha
                rw [List.getElem?_drop, Nat.add_comm] at hb
                obtain ⟨⟨i2, w2⟩, hp2, q2, rfl, hq2⟩ := Paired.at hpp hb
                obtain ⟨s, hs, hwn⟩ := hm _ (List.mem_of_getElem? hp1)
                have sm := same_upd (o := .tup [V.ref q1, .ref q2]) nT
                have k4 := (kk3.trans s4).trans sm
                have hq2' := k4 _ _ hq2
                walk_at "r"
                refine ⟨rfl, ?_⟩
                walk_at "r"
                refine ⟨_, q1, n, ss, i1, w1, s, rfl, hw.same k4, k4 _ _ hq1, hs, ?_⟩
                walk_at "r"
                rw [show decide (((s.other w1 : Nat) : Int) = ((w2 : Nat) : Int)) = chB ss st i by
                  unfold chB
                  rw [hp1, hp2]
                  show _ = (match ss[i1]? with | some s => decide (s.other w1 = w2) | none => false)
                  rw [hs]
                  exact decide_eq_decide.mpr (by omega)]
                exact hyy _ _ _ rfl sm rfl
              · obtain ⟨s4, bs, hD, hbs⟩ := hl4
                rw [upTo_map] at hbs
                have e := bools_of' hbs
                subst e
                walk_at "r"
                refine ⟨D3, _, rfl, .of hD, ?_⟩
                refine q _ _ (kk3.trans s4) ?_
                rw [List.all_eq_true, List.length_drop]
                constructor
                · intro h
                  refine ⟨st, rfl, by omega, hm, nd, fun i p q s hp hq hs => ?_⟩
                  have hi := (List.getElem?_eq_some_iff.mp hq).1
                  have := h (chB ss st i) (List.mem_map_of_mem (List.mem_range.mpr (by omega)))
                  unfold chB at this
                  rw [hp, hq] at this
                  have this : (match ss[p.1]? with | some s => decide (s.other p.2 = q.2) | none => false) = true := this
                  rw [hs] at this
                  exact of_decide_eq_true this
                · rintro ⟨st2, e, r⟩ b hb
                  have e := upE_inj (Option.some.inj e)
                  subst e
                  obtain ⟨i, hi, rfl⟩ := List.mem_map.mp hb
                  have hi := List.mem_range.mp hi
                  have hp : st[i]? = some (st[i]'(by omega)) := List.getElem?_eq_getElem (by omega)
                  have hq : st[i + 1]? = some (st[i + 1]'(by omega)) := List.getElem?_eq_getElem (by omega)
                  obtain ⟨s, hs, _⟩ := r.mem _ (List.mem_of_getElem? hp)
                  have e := r.ch i _ _ s hp hq hs
                  unfold chB
                  rw [hp, hq]
                  show (match ss[(st[i]'(by omega)).1]? with | some s => decide (s.other (st[i]'(by omega)).2 = (st[i + 1]'(by omega)).2) | none => false) = true
                  rw [hs]
                  exact decide_eq_true e
      · rename_i c1
        walk_at "r"
        refine q _ _ (Same.refl _) (no fun ⟨st, e, r⟩ => ?_)
        cases e
        have := r.ne
        rw [List.length_map] at lw
        omega
    · have q := q _ _ (Same.refl _) (no fun ⟨st, e, r⟩ => by cases e)
      walk_at "r"
      exact q
    · have q := q _ _ (Same.refl _) (no fun ⟨st, e, r⟩ => by cases e)
      obtain ⟨b1, b2, b3, hb, -, -, h3, ht⟩ := od.isi
      walk_at "r"
      refine h3 _ ?_
      cases b3 with
      | false =>
        walk_at "r"
        exact q
      | true =>
        obtain ⟨p, xs, rfl, np, hp⟩ := ht rfl
        exact absurd hp (hn p xs rfl)
end
end My
namespace My
open PySem PySem.Spec PyProof.Rows L2
variable {K : PySem.W.Frag}
theorem atI_endH {xs : List V} {i : Nat} {x : V} (h : xs[i]? = some x) (hl : xs.length = i + 1) : atI xs (-1) = some x := by
  have e : xs = xs.take i ++ [x] := by
    have := take_at h
    rw [← hl, List.take_length] at this
    exact this
  rw [e]
  exact atI_last _ _
theorem IsF.c1H {p : Addr} {H : Hp} (h : SqT K (fun _ => none) p [.int 1, .int 1]) : IsF K H (.ref p) 1 := ⟨p, rfl, .inr h⟩
theorem hold_pos {n : Nat} {s : Stl} (ok : OkSt n s) (wn : Nat) : 0 < s.hold wn := by
  unfold Stl.hold
  split
  · exact ok.a
  · exact ok.b
theorem hold_bd9 {n : Nat} {s : Stl} (b : BdSt 9 s) (wn : Nat) : Bd 9 (s.hold wn) := by
  unfold Stl.hold
  split
  · exact b.a
  · exact b.b
theorem prod_take {l : List (Nat × Nat)} {f : Nat × Nat → Rat} {i : Nat} {p : Nat × Nat} (h : l[i]? = some p) : prodR ((l.take (i + 1)).map f) = prodR ((l.take i).map f) * f p := by
  rw [take_at h, List.map_append, prodR_app]
  show _ * (f p * 1) = _
  rw [Rat.mul_one]
section
variable {P : Program} {w : World} {K : PySem.W.Frag} {mg : Str → Option Value} {base : Heap} {f_is_integer f_is_row f_is_fraction f_is_some f_multiplied f_squared f_is_stall f_across f_hold_of f_is_index f_is_step f_end_of f_is_walk f_is_ring f_is_uneven f_is_uneven_ring f_l_hand f_l_draw f_l_gcd f_l_frac f_l_times f_l_over f_l_some f_l_shuffled f_l_stall f_l_stalls f_l_sizes f_l_whole f_l_is_flag f_l_is_uneven f_l_ring f_l_back f_l_bent f_law f_Web_init f_Web_eq c_Web c_ONE : Addr} {d_is_integer d_is_row d_is_fraction d_is_some d_multiplied d_squared d_is_stall d_across d_hold_of d_is_index d_is_step d_end_of d_is_walk d_is_ring d_is_uneven d_is_uneven_ring d_l_hand d_l_draw d_l_gcd d_l_frac d_l_times d_l_over d_l_some d_l_shuffled d_l_stall d_l_stalls d_l_sizes d_l_whole d_l_is_flag d_l_is_uneven d_l_ring d_l_back d_l_bent d_law d_Web_init d_Web_eq : FuncData}
def sp_is_ringJ (K : PySem.W.Frag) (C : Addr) : Sp := fun vs H Q _ => ∃ (x v : V) (D : Addr) (n : Nat) (ss : List Stl) (o : Option (List (Option (Int × Int)))), vs = [x, v] ∧ IsWeb K C H x n ss ∧ JTh K D H v o ∧ ss.length ≤ 16 ∧ ∀ H' b, Same H H' → (b = true ↔ RingO ss o) → Q (.bl b) H'
theorem ok_is_ringJ (T : Txt K mg f_is_integer f_is_row f_is_fraction f_is_some f_multiplied f_squared f_is_stall f_across f_hold_of f_is_index f_is_step f_end_of f_is_walk f_is_ring f_is_uneven f_is_uneven_ring f_l_hand f_l_draw f_l_gcd f_l_frac f_l_times f_l_over f_l_some f_l_shuffled f_l_stall f_l_stalls f_l_sizes f_l_whole f_l_is_flag f_l_is_uneven f_l_ring f_l_back f_l_bent f_law f_Web_init f_Web_eq c_Web c_ONE d_is_integer d_is_row d_is_fraction d_is_some d_multiplied d_squared d_is_stall d_across d_hold_of d_is_index d_is_step d_end_of d_is_walk d_is_ring d_is_uneven d_is_uneven_ring d_l_hand d_l_draw d_l_gcd d_l_frac d_l_times d_l_over d_l_some d_l_shuffled d_l_stall d_l_stalls d_l_sizes d_l_whole d_l_is_flag d_l_is_uneven d_l_ring d_l_back d_l_bent d_law d_Web_init d_Web_eq) : FnOk P w K mg base CX0 5 f_is_ring d_is_ring ["web", "thing"] (sp_is_ringJ K c_Web) := by
  have G_is_walk : FnOk P w K mg base CX0 4 f_is_walk d_is_walk ["web", "thing"] (sp_is_walkJ K c_Web) := ok_is_walkJ T
  have G_end_of : FnOk P w K mg base CX0 2 f_end_of d_end_of ["web", "step"] (sp_end_of K c_Web) := ok_end_of T
  refine T.F_is_ring.ok sc_is_ring (fun vs H Q E h => ?_) (fun cdv A outer sh H vs Q E hr h => ?_)
  · obtain ⟨x, v, D, n, ss, o, rfl, _⟩ := h
    rfl
  · obtain ⟨x, v, D, n, ss, o, rfl, hw, hv, l16, q⟩ := h
    refine ⟨_, (pss_one (ps_ret (pe_and (pe_call G_is_walk (hr.mono (by decide)) (by rfl) T.g_is_walk T.k_is_walk T.b_is_walk .nil pass0 (pa_cons (pv 0) (pa_cons (pv 1) pa_nil))) (pe_one (pe_cmpR op_eq (pe_call G_end_of (hr.mono (by decide)) (by rfl) T.g_end_of T.k_end_of T.b_end_of .nil pass0 (pa_cons (pv 0) (pa_cons (pe_ix ix_tup (pv 1) (pe_un un_neg pe_int) (fun _ _ => rfl)) pa_nil))) (pe_ix ix_tup (pe_ix ix_tup (pv 1) pe_int (fun _ _ => rfl)) pe_int (fun _ _ => rfl)) (nomark _)))))), ?_⟩
    walk_at "r"
    refine ⟨_, v, D, n, ss, o, rfl, hw, hv, l16, fun H1 b s1 hb => ?_⟩
    cases b with
    | false =>
      walk_at "r"
      refine q _ _ s1 ⟨fun z => absurd z Bool.false_ne_true, fun ⟨st, e, r⟩ => hb.mpr ⟨st, e, r.rt⟩⟩
    | true =>
      obtain ⟨st, e, r⟩ := hb.mp rfl
      subst e
      obtain ⟨tw, vw, es, rfl, nt, htw, hpw, lvw, e⟩ | ⟨_, e⟩ := hv
      · cases e
        have hpp := up_pairs hpw
        have lw := Paired.length hpp
        have l0 := r.ne
        have htw1 := s1 _ _ htw
        have g0 : ∀ i, i < vw.length → ∃ y, vw[i]? = some y := fun i hi => ⟨_, List.getElem?_eq_getElem hi⟩
        obtain ⟨y0, hy0⟩ := g0 0 (by omega)
        obtain ⟨y1, hy1⟩ := g0 (vw.length - 1) (by omega)
        obtain ⟨⟨i0, w0⟩, hp0, q0, rfl, hq0⟩ := Paired.at hpp hy0
        obtain ⟨⟨i1, w1⟩, hp1, q1, rfl, hq1⟩ := Paired.at hpp hy1
        obtain ⟨s, hs, hwn⟩ := r.mem _ (List.mem_of_getElem? hp1)
        have hq0' := s1 _ _ hq0
        walk_at "r"
        refine rd_ixT htw1 (atI_endH hy1 (by omega)) ?_
        walk_at "r"
        refine ⟨_, q1, n, ss, i1, w1, s, rfl, hw.same s1, s1 _ _ hq1, hs, ?_⟩
        walk_at "r"
        refine rd_ixT htw1 (at_some hy0) ?_
        walk_at "r"
        refine q _ _ s1 ?_
        rw [decide_eq_true_eq]
        constructor
        · intro h
          refine ⟨st, rfl, r, fun p q s' hp hq hs' => ?_⟩
          rw [← lw, hp1] at hp
          rw [hp0] at hq
          cases hp
          cases hq
          rw [hs] at hs'
          cases hs'
          show s.other w1 = w0
          omega
        · rintro ⟨st2, e, r2⟩
          have e := upE_inj (Option.some.inj e)
          subst e
          have := r2.cl _ _ s (by rw [← lw]; exact hp1) hp0 hs
          have this : s.other w1 = w0 := this
          rw [this]
      · cases e
def sp_unevR (K : PySem.W.Frag) (C : Addr) : Sp := fun vs H Q _ => ∃ (x v : V) (n : Nat) (ss : List Stl) (st : List (Nat × Nat)), vs = [x, v] ∧ IsWeb K C H x n ss ∧ IsRt K H v st ∧ Rte ss st ∧ ss.length ≤ 16 ∧ (∀ s ∈ ss, OkSt n s ∧ BdSt 9 s) ∧ ∀ H' b, Same H H' → (b = true ↔ Unev ss st) → Q (.bl b) H'
theorem ok_is_unevR (T : Txt K mg f_is_integer f_is_row f_is_fraction f_is_some f_multiplied f_squared f_is_stall f_across f_hold_of f_is_index f_is_step f_end_of f_is_walk f_is_ring f_is_uneven f_is_uneven_ring f_l_hand f_l_draw f_l_gcd f_l_frac f_l_times f_l_over f_l_some f_l_shuffled f_l_stall f_l_stalls f_l_sizes f_l_whole f_l_is_flag f_l_is_uneven f_l_ring f_l_back f_l_bent f_law f_Web_init f_Web_eq c_Web c_ONE d_is_integer d_is_row d_is_fraction d_is_some d_multiplied d_squared d_is_stall d_across d_hold_of d_is_index d_is_step d_end_of d_is_walk d_is_ring d_is_uneven d_is_uneven_ring d_l_hand d_l_draw d_l_gcd d_l_frac d_l_times d_l_over d_l_some d_l_shuffled d_l_stall d_l_stalls d_l_sizes d_l_whole d_l_is_flag d_l_is_uneven d_l_ring d_l_back d_l_bent d_law d_Web_init d_Web_eq) : FnOk P w K mg base CX0 2 f_is_uneven d_is_uneven ["web", "ring"] (sp_unevR K c_Web) := by
  have G_multiplied : FnOk P w K mg base CX0 1 f_multiplied d_multiplied ["one", "other"] (sp_multiplied K) := ok_multiplied T
  have G_hold_of : FnOk P w K mg base CX0 1 f_hold_of d_hold_of ["stall", "ware"] (sp_hold_of K) := ok_hold_of T
  have G_across : FnOk P w K mg base CX0 1 f_across d_across ["stall", "ware"] (sp_across K) := ok_across T
  refine T.F_is_uneven.ok sc_is_uneven (fun vs H Q E h => ?_) (fun cdv A outer sh H vs Q E hr h => ?_)
  · obtain ⟨x, v, n, ss, st, rfl, _⟩ := h
    rfl
  · obtain ⟨x, v, n, ss, st, rfl, ⟨px, dx, t, xs, rfl, hp, ht, hss⟩, ⟨tw, vw, rfl, htw, hpw⟩, rt, l16, hok, q⟩ := h
    have lvw := Paired.length hpw
    have lrt := rt.len
    refine ⟨_, (pss_cons (ps_set (i := 2) sc_is_uneven.nd rfl (by first | exact Or.inl rfl | exact Or.inr rfl) (pe_glob (v := .ref c_ONE) (by rfl) T.v_ONE rfl))
      (pss_cons (ps_set (i := 3) sc_is_uneven.nd rfl (by first | exact Or.inl rfl | exact Or.inr rfl) (pe_glob (v := .ref c_ONE) (by rfl) T.v_ONE rfl))
      (pss_cons (ps_for PassesOwn.never rfl (pi_tup (pv 1)) (pg_tup rfl (pgs_cons (pg_name (i := 4) sc_is_uneven.nd rfl (by first | exact Or.inl rfl | exact Or.inr rfl)) (pgs_cons (pg_name (i := 5) sc_is_uneven.nd rfl (by first | exact Or.inl rfl | exact Or.inr rfl)) pgs_nil)))
        (pss_cons (ps_set (i := 6) sc_is_uneven.nd rfl (by first | exact Or.inl rfl | exact Or.inr rfl) (pe_ix ix_tup (pe_fld (pv 0) rfl) (pv 4) (fun _ _ => rfl)))
          (pss_cons (ps_set (i := 2) sc_is_uneven.nd rfl (by first | exact Or.inl rfl | exact Or.inr rfl) (pe_call G_multiplied (hr.mono (by decide)) (by rfl) T.g_multiplied T.k_multiplied T.b_multiplied .nil pass0 (pa_cons (pv 2) (pa_cons (pe_call G_hold_of (hr.mono (by decide)) (by rfl) T.g_hold_of T.k_hold_of T.b_hold_of .nil pass0 (pa_cons (pv 6) (pa_cons (pv 5) pa_nil))) pa_nil))))
          (pss_one (ps_set (i := 3) sc_is_uneven.nd rfl (by first | exact Or.inl rfl | exact Or.inr rfl) (pe_call G_multiplied (hr.mono (by decide)) (by rfl) T.g_multiplied T.k_multiplied T.b_multiplied .nil pass0 (pa_cons (pv 3) (pa_cons (pe_call G_hold_of (hr.mono (by decide)) (by rfl) T.g_hold_of T.k_hold_of T.b_hold_of .nil pass0 (pa_cons (pv 6) (pa_cons (pe_call G_across (hr.mono (by decide)) (by rfl) T.g_across T.k_across T.b_across .nil pass0 (pa_cons (pv 6) (pa_cons (pv 5) pa_nil))) pa_nil))) pa_nil))))))))
      (pss_one (ps_ret (pe_cmpR (op_neD hr.units) (pv 2) (pv 3) (nomark _))))))), ?_⟩
    walk_at "r"
    refine ⟨⟨_, .of htw⟩, ?_⟩
    refine for_tup (K := K) (a := tw) (xs := vw) (fun i σ H' => ∃ (va vb : V) (t4 t5 t6 : Option V), σ = [some (.ref px), some (.ref tw), some va, some vb, t4, t5, t6] ∧ Same H H' ∧ IsF K H' va (prodR ((st.take i).map (hdP ss))) ∧ IsF K H' vb (prodR ((st.take i).map (tlP ss))) ∧ Bd (1 + 9 * i) (prodR ((st.take i).map (hdP ss))) ∧ Bd (1 + 9 * i) (prodR ((st.take i).map (tlP ss)))) ?_ ?_ ?_ ?_
    · exact ⟨_, _, _, _, _, rfl, Same.refl _, IsF.c1H T.t_ONE, IsF.c1H T.t_ONE, (show Bd 1 1 from ⟨by decide, by decide⟩), (show Bd 1 1 from ⟨by decide, by decide⟩)⟩
    · rintro i σ H' _ ⟨va, vb, t4, t5, t6, rfl, s1, _⟩
      exact .of (s1 _ _ htw)
    · rintro i v σ H' hx ⟨va, vb, t4, t5, t6, rfl, s1, ia, ib, ba, bb⟩
      obtain ⟨⟨ix, wn⟩, hp', pq, rfl, hpq⟩ := Paired.at hpw hx
      have hi16 : i < 16 := by
        have := (List.getElem?_eq_some_iff.mp hx).1
        omega
      obtain ⟨s, hs, hwn⟩ := rt.mem _ (List.mem_of_getElem? hp')
      obtain ⟨z, hz, isz⟩ := hss.get hs
      obtain ⟨o1, o2⟩ := hok s (List.mem_of_getElem? hs)
      have hpq1 : H' pq = some (.tup [V.int (ix : Nat), .int (wn : Nat)]) := s1 _ _ hpq
      have e1 : hdP ss (ix, wn) = s.hold wn := by
        unfold hdP
        rw [hs]
      have e2 : tlP ss (ix, wn) = s.hold (s.other wn) := by
        unfold tlP
        rw [hs]
      walk_at "r"
      refine ⟨_, _, _, _, _, rfl, s1 _ _ hp, T.w_Web.it.cl, T.n_Web_stalls, wF_stalls _ _, ?_⟩
      walk_at "r"
      refine rd_ixT (s1 _ _ ht) (at_some hz) ?_
      walk_at "r"
      refine ⟨_, s, wn, rfl, isz.same s1, fun vx ivx => ?_⟩
      walk_at "r"
      refine ⟨_, _, _, _, rfl, ia, ivx, ba.mono (by omega), (hold_bd9 (n := n) o2 wn).mono (by decide), trivial, fun H2 v2 s2 h2 => ?_⟩
      have k2 := s1.trans s2
      walk_at "r"
      refine ⟨_, s, wn, rfl, isz.same k2, ?_⟩
      walk_at "r"
      refine ⟨_, s, s.other wn, rfl, isz.same k2, fun vy ivy => ?_⟩
      walk_at "r"
      refine ⟨_, _, _, _, rfl, ib.same s2, ivy, bb.mono (by omega), (hold_bd9 (n := n) o2 (s.other wn)).mono (by decide), trivial, fun H3 v3 s3 h3 => ?_⟩
      walk_at "r"
      rw [prod_take hp', prod_take hp', e1, e2]
      exact ⟨_, _, _, _, _, rfl, k2.trans s3, h2.same s3, h3, (ba.mul (hold_bd9 (n := n) o2 wn)).mono (by omega), (bb.mul (hold_bd9 (n := n) o2 (s.other wn))).mono (by omega)⟩
    · rintro σ H' ⟨va, vb, t4, t5, t6, rfl, s1, ia, ib, ba, bb⟩
      rw [lvw, List.take_length] at ia ib
      walk_at "r"
      refine neF (K := K) ia ib ?_
      refine q _ _ s1 ?_
      unfold Unev
      rw [Bool.not_eq_true', decide_eq_false_iff_not]
def sp_unevJ (K : PySem.W.Frag) (C : Addr) : Sp := fun vs H Q _ => ∃ (x v : V) (D : Addr) (n : Nat) (ss : List Stl) (o : Option (List (Option (Int × Int)))), vs = [x, v] ∧ IsWeb K C H x n ss ∧ JTh K D H v o ∧ ss.length ≤ 16 ∧ (∀ s ∈ ss, OkSt n s ∧ BdSt 9 s) ∧ ∀ H' b, Same H H' → (b = true ↔ UnevO ss o) → Q (.bl b) H'
theorem ok_is_uneven_ringJ (T : Txt K mg f_is_integer f_is_row f_is_fraction f_is_some f_multiplied f_squared f_is_stall f_across f_hold_of f_is_index f_is_step f_end_of f_is_walk f_is_ring f_is_uneven f_is_uneven_ring f_l_hand f_l_draw f_l_gcd f_l_frac f_l_times f_l_over f_l_some f_l_shuffled f_l_stall f_l_stalls f_l_sizes f_l_whole f_l_is_flag f_l_is_uneven f_l_ring f_l_back f_l_bent f_law f_Web_init f_Web_eq c_Web c_ONE d_is_integer d_is_row d_is_fraction d_is_some d_multiplied d_squared d_is_stall d_across d_hold_of d_is_index d_is_step d_end_of d_is_walk d_is_ring d_is_uneven d_is_uneven_ring d_l_hand d_l_draw d_l_gcd d_l_frac d_l_times d_l_over d_l_some d_l_shuffled d_l_stall d_l_stalls d_l_sizes d_l_whole d_l_is_flag d_l_is_uneven d_l_ring d_l_back d_l_bent d_law d_Web_init d_Web_eq) : FnOk P w K mg base CX0 6 f_is_uneven_ring d_is_uneven_ring ["web", "thing"] (sp_unevJ K c_Web) := by
  have G_is_ring : FnOk P w K mg base CX0 5 f_is_ring d_is_ring ["web", "thing"] (sp_is_ringJ K c_Web) := ok_is_ringJ T
  have G_is_uneven : FnOk P w K mg base CX0 2 f_is_uneven d_is_uneven ["web", "ring"] (sp_unevR K c_Web) := ok_is_unevR T
  refine T.F_is_uneven_ring.ok sc_is_uneven_ring (fun vs H Q E h => ?_) (fun cdv A outer sh H vs Q E hr h => ?_)
  · obtain ⟨x, v, D, n, ss, o, rfl, _⟩ := h
    rfl
  · obtain ⟨x, v, D, n, ss, o, rfl, hw, hv, l16, hok, q⟩ := h
    refine ⟨_, (pss_one (ps_ret (pe_and (pe_call G_is_ring (hr.mono (by decide)) (by rfl) T.g_is_ring T.k_is_ring T.b_is_ring .nil pass0 (pa_cons (pv 0) (pa_cons (pv 1) pa_nil))) (pe_one (pe_call G_is_uneven (hr.mono (by decide)) (by rfl) T.g_is_uneven T.k_is_uneven T.b_is_uneven .nil pass0 (pa_cons (pv 0) (pa_cons (pv 1) pa_nil))))))), ?_⟩
    walk_at "r"
    refine ⟨_, v, D, n, ss, o, rfl, hw, hv, l16, fun H1 b s1 hb => ?_⟩
    cases b with
    | false =>
      walk_at "r"
      refine q _ _ s1 ⟨fun z => absurd z Bool.false_ne_true, fun ⟨st, e, r, _⟩ => hb.mpr ⟨st, e, r⟩⟩
    | true =>
      obtain ⟨st, e, r⟩ := hb.mp rfl
      subst e
      obtain ⟨tw, vw, es, rfl, nt, htw, hpw, lvw, e⟩ | ⟨_, e⟩ := hv
      · cases e
        walk_at "r"
        refine ⟨_, _, n, ss, st, rfl, hw.same s1, ⟨tw, vw, rfl, s1 _ _ htw, Paired.mapP (up_pairs hpw) fun _ _ ⟨q, e, h⟩ => ⟨q, e, s1 _ _ h⟩⟩, r.rt, l16, hok, fun H2 b2 s2 hb2 => ?_⟩
        refine q _ _ (s1.trans s2) (hb2.trans ⟨fun u => ⟨st, rfl, r, u⟩, fun ⟨st2, e, _, u⟩ => ?_⟩)
        have e := upE_inj (Option.some.inj e)
        subst e
        exact u
      · cases e
end
end My
namespace My
open PySem PySem.Spec PyProof.Rows L2
variable {K : PySem.W.Frag}
theorem in_intsH (ns : List Nat) (x : Nat) : inV (.int (x : Nat)) ((ns.map fun b : Nat => (b : Int)).map V.int) = decide (x ∈ ns) := by
  induction ns with
  | nil => rfl
  | cons a ns ih =>
    have e : inV (.int (x : Nat)) (V.int (a : Nat) :: (ns.map fun b : Nat => (b : Int)).map V.int) = (eqV (V.int (a : Nat)) (.int (x : Nat)) || inV (.int (x : Nat)) ((ns.map fun b : Nat => (b : Int)).map V.int)) := rfl
    show inV (.int (x : Nat)) (V.int (a : Nat) :: (ns.map fun b : Nat => (b : Int)).map V.int) = _
    rw [e, ih, Bool.eq_iff_iff, Bool.or_eq_true, decide_eq_true_eq, decide_eq_true_eq, List.mem_cons]
    refine or_congr ?_ Iff.rfl
    show ((a : Int) == (x : Int)) = true ↔ x = a
    rw [beq_iff_eq]
    omega
theorem same_putH {H H1 : Hp} {U : Addr} {o : HO} (s : Same H H1) (n : H U = none) : Same H (upd H1 U o) := fun b o' h => (upd_ne (ne_of_none h n)).trans (s _ _ h)
theorem rd_catAH {K : PySem.W.Frag} {H : Hp} {a b : Addr} {xs ys : List V} {Q : VK} (ha : H a = some (.tup xs)) (hb : H b = some (.tup ys)) (hl : xs.length + ys.length ≤ sizeLine)
    (q : ∀ p H', Same H H' → H' p = some (.tup (xs ++ ys)) → Q (.ref p) H') : rCatA K (.ref a) (.ref b) H Q := by
  refine ⟨a, b, xs, ys, rfl, rfl, .of ha, .of hb, hl, fun e => ?_, fun _ e => ?_, fun _ _ p np => q p _ (same_upd np) upd_same⟩
  · subst e
    exact q b H (Same.refl _) hb
  · subst e
    exact q a H (Same.refl _) (by rw [List.append_nil]; exact ha)
theorem flat_intsH (ns : List Int) : (ns.map V.int).all flatV = true := by
  induction ns with
  | nil => rfl
  | cons a ns ih => exact ih
theorem two_ix {α : Type} (a : List α) (i : Nat) (h : i < a.length) : (a ++ a)[i + 1]? = a[(i + 1) % a.length]? := by
  by_cases e : i + 1 < a.length
  · rw [List.getElem?_append_left e, Nat.mod_eq_of_lt e]
  · rw [List.getElem?_append_right (by omega), show i + 1 = a.length by omega, Nat.mod_self, Nat.sub_self]
theorem upE_take {es : List (Option (Int × Int))} {st : List (Nat × Nat)} {i : Nat} {p : Nat × Nat} (h : es.take i = st.map upE) (he : es[i]? = some (upE p)) : es.take (i + 1) = (st ++ [p]).map upE := by
  rw [take_at he, h, List.map_append]
  rfl
section
variable {P : Program} {w : World} {K : PySem.W.Frag} {mg : Str → Option Value} {base : Heap} {f_is_integer f_is_row f_is_fraction f_is_some f_multiplied f_squared f_is_stall f_across f_hold_of f_is_index f_is_step f_end_of f_is_walk f_is_ring f_is_uneven f_is_uneven_ring f_l_hand f_l_draw f_l_gcd f_l_frac f_l_times f_l_over f_l_some f_l_shuffled f_l_stall f_l_stalls f_l_sizes f_l_whole f_l_is_flag f_l_is_uneven f_l_ring f_l_back f_l_bent f_law f_Web_init f_Web_eq c_Web c_ONE : Addr} {d_is_integer d_is_row d_is_fraction d_is_some d_multiplied d_squared d_is_stall d_across d_hold_of d_is_index d_is_step d_end_of d_is_walk d_is_ring d_is_uneven d_is_uneven_ring d_l_hand d_l_draw d_l_gcd d_l_frac d_l_times d_l_over d_l_some d_l_shuffled d_l_stall d_l_stalls d_l_sizes d_l_whole d_l_is_flag d_l_is_uneven d_l_ring d_l_back d_l_bent d_law d_Web_init d_Web_eq : FuncData}
theorem ok_l_whole (T : Txt K mg f_is_integer f_is_row f_is_fraction f_is_some f_multiplied f_squared f_is_stall f_across f_hold_of f_is_index f_is_step f_end_of f_is_walk f_is_ring f_is_uneven f_is_uneven_ring f_l_hand f_l_draw f_l_gcd f_l_frac f_l_times f_l_over f_l_some f_l_shuffled f_l_stall f_l_stalls f_l_sizes f_l_whole f_l_is_flag f_l_is_uneven f_l_ring f_l_back f_l_bent f_law f_Web_init f_Web_eq c_Web c_ONE d_is_integer d_is_row d_is_fraction d_is_some d_multiplied d_squared d_is_stall d_across d_hold_of d_is_index d_is_step d_end_of d_is_walk d_is_ring d_is_uneven d_is_uneven_ring d_l_hand d_l_draw d_l_gcd d_l_frac d_l_times d_l_over d_l_some d_l_shuffled d_l_stall d_l_stalls d_l_sizes d_l_whole d_l_is_flag d_l_is_uneven d_l_ring d_l_back d_l_bent d_law d_Web_init d_Web_eq) : FnOk P w K mg base CX0 1 f_l_whole d_l_whole ["_law_thing"] (sp_isiJ K) := by
  refine T.F_l_whole.ok sc_l_whole (fun vs H Q E h => ?_) (fun cdv A outer s H vs Q E hr h => ?_)
  · obtain ⟨v, b, rfl, _⟩ := h
    rfl
  · obtain ⟨v, b, rfl, h, q⟩ := h
    refine ⟨_, (pss_one (ps_ret (pe_and (pe_callB call_isi (by rfl) T.z_isinstance (by decide +kernel) (pa_cons (pv 0) (pa_cons (pe_bltn (v := .ty "int") (u := .type "int") (by rfl) T.z_int (by decide +kernel) rfl) pa_nil))) (pe_one (pe_not (pe_callB call_isi (by rfl) T.z_isinstance (by decide +kernel) (pa_cons (pv 0) (pa_cons (pe_bltn (v := .ty "bool") (u := .type "bool") (by rfl) T.z_bool (by decide +kernel) rfl) pa_nil)))))))), ?_⟩
    rcases h with ⟨⟨i, rfl⟩, rfl⟩ | ⟨⟨D, o⟩, rfl⟩
    · walk_at "r"
      exact q
    · obtain ⟨b1, b2, b3, hb, h1, h2, -⟩ := o.isi
      walk_at "r"
      refine h1 _ ?_
      cases b1 with
      | false =>
        walk_at "r"
        exact q
      | true =>
        have e : b2 = true := by
          cases b2
          · cases hb
          · rfl
        subst e
        walk_at "r"
        refine h2 _ ?_
        walk_at "r"
        exact q
def sp_isflag : Sp := fun vs H Q _ => ∃ a b : Bool, vs = [.bl a, .bl b] ∧ Q (.bl (decide (a = b))) H
theorem ok_l_is_flag (T : Txt K mg f_is_integer f_is_row f_is_fraction f_is_some f_multiplied f_squared f_is_stall f_across f_hold_of f_is_index f_is_step f_end_of f_is_walk f_is_ring f_is_uneven f_is_uneven_ring f_l_hand f_l_draw f_l_gcd f_l_frac f_l_times f_l_over f_l_some f_l_shuffled f_l_stall f_l_stalls f_l_sizes f_l_whole f_l_is_flag f_l_is_uneven f_l_ring f_l_back f_l_bent f_law f_Web_init f_Web_eq c_Web c_ONE d_is_integer d_is_row d_is_fraction d_is_some d_multiplied d_squared d_is_stall d_across d_hold_of d_is_index d_is_step d_end_of d_is_walk d_is_ring d_is_uneven d_is_uneven_ring d_l_hand d_l_draw d_l_gcd d_l_frac d_l_times d_l_over d_l_some d_l_shuffled d_l_stall d_l_stalls d_l_sizes d_l_whole d_l_is_flag d_l_is_uneven d_l_ring d_l_back d_l_bent d_law d_Web_init d_Web_eq) : FnOk P w K mg base CX0 1 f_l_is_flag d_l_is_flag ["_law_told", "_law_due"] sp_isflag := by
  refine T.F_l_is_flag.ok sc_l_is_flag (fun vs H Q E h => ?_) (fun cdv A outer s H vs Q E hr h => ?_)
  · obtain ⟨a, b, rfl, _⟩ := h
    rfl
  · obtain ⟨a, b, rfl, q⟩ := h
    refine ⟨_, (pss_one (ps_ret (pe_and (pe_callB call_isi (by rfl) T.z_isinstance (by decide +kernel) (pa_cons (pv 0) (pa_cons (pe_bltn (v := .ty "bool") (u := .type "bool") (by rfl) T.z_bool (by decide +kernel) rfl) pa_nil))) (pe_one (pe_cmpR op_eq (pv 0) (pv 1) (nomark _)))))), ?_⟩
    cases a <;> cases b
    · walk_at "r"
      exact q
    · walk_at "r"
      exact q
    · walk_at "r"
      exact q
    · walk_at "r"
      exact q
def sp_lunev (K : PySem.W.Frag) : Sp := fun vs H Q _ => ∃ (S : Addr) (v : V) (D : Addr) (n : Nat) (xs : List V) (ss : List Stl) (o : Option (List (Option (Int × Int)))), vs = [.ref S, v] ∧ H S = some (.lst xs) ∧ Sts K H xs ss ∧ JTh K D H v o ∧ ss.length ≤ 16 ∧ (∀ s ∈ ss, OkSt n s ∧ BdSt 9 s) ∧ ∀ H' b, Same H H' → (b = true ↔ UnevO ss o) → Q (.bl b) H'
theorem ok_l_is_uneven (T : Txt K mg f_is_integer f_is_row f_is_fraction f_is_some f_multiplied f_squared f_is_stall f_across f_hold_of f_is_index f_is_step f_end_of f_is_walk f_is_ring f_is_uneven f_is_uneven_ring f_l_hand f_l_draw f_l_gcd f_l_frac f_l_times f_l_over f_l_some f_l_shuffled f_l_stall f_l_stalls f_l_sizes f_l_whole f_l_is_flag f_l_is_uneven f_l_ring f_l_back f_l_bent f_law f_Web_init f_Web_eq c_Web c_ONE d_is_integer d_is_row d_is_fraction d_is_some d_multiplied d_squared d_is_stall d_across d_hold_of d_is_index d_is_step d_end_of d_is_walk d_is_ring d_is_uneven d_is_uneven_ring d_l_hand d_l_draw d_l_gcd d_l_frac d_l_times d_l_over d_l_some d_l_shuffled d_l_stall d_l_stalls d_l_sizes d_l_whole d_l_is_flag d_l_is_uneven d_l_ring d_l_back d_l_bent d_law d_Web_init d_Web_eq) : FnOk P w K mg base CX0 4 f_l_is_uneven d_l_is_uneven ["_law_stalls_here", "_law_thing"] (sp_lunev K) := by
  have G_l_whole : FnOk P w K mg base CX0 1 f_l_whole d_l_whole ["_law_thing"] (sp_isiJ K) := ok_l_whole T
  have G_l_times : FnOk P w K mg base CX0 3 f_l_times d_l_times ["_law_one", "_law_other"] (sp_two9 K (· * ·)) := ok_l_times T
  refine T.F_l_is_uneven.ok sc_l_is_uneven (fun vs H Q E h => ?_) (fun cdv A outer sh H vs Q E hr h => ?_)
  · obtain ⟨S, v, D, n, xs, ss, o, rfl, _⟩ := h
    rfl
  · obtain ⟨S, v, D, n, xs, ss, o, rfl, hS, hss, hv, l16, hok, q⟩ := h
    have lx := hss.len
    have no : ∀ {o : Option (List (Option (Int × Int)))}, ¬ UnevO ss o → ((false : Bool) = true ↔ UnevO ss o) := fun h => ⟨fun z => absurd z Bool.false_ne_true, fun z => absurd z h⟩
    refine ⟨_, (pss_cons (ps_if (PW.pt (pw_or (pt_not (pt_val (pe_callB call_isi (by rfl) T.z_isinstance (by decide +kernel) (pa_cons (pv 1) (pa_cons (pe_bltn (v := .ty "tuple") (u := .type "tuple") (by rfl) T.z_tuple (by decide +kernel) rfl) pa_nil))))) (pw_or1 (pt_cmpR op_eq (pe_callB call_lenN (by rfl) T.z_len (by decide +kernel) (pa_cons (pv 1) pa_nil)) pe_int (nomark _)))))
        (pss_one (ps_ret pe_bl))
        pss_nil)
      (pss_cons (ps_set (i := 2) sc_l_is_uneven.nd rfl (by first | exact Or.inl rfl | exact Or.inr rfl) (pe_lst pa_nil))
      (pss_cons (ps_for PassesOwn.never rfl (pi_tup (pv 1)) (pg_name (i := 3) sc_l_is_uneven.nd rfl (by first | exact Or.inl rfl | exact Or.inr rfl))
        (pss_cons (ps_if (PW.pt (pw_or (pt_not (pt_val (pe_callB call_isi (by rfl) T.z_isinstance (by decide +kernel) (pa_cons (pv 3) (pa_cons (pe_bltn (v := .ty "tuple") (u := .type "tuple") (by rfl) T.z_tuple (by decide +kernel) rfl) pa_nil))))) (pw_or (pt_cmpR op_ne (pe_callB call_lenN (by rfl) T.z_len (by decide +kernel) (pa_cons (pv 3) pa_nil)) pe_int (nomark _)) (pw_or (pt_not (pt_val (pe_call G_l_whole (hr.mono (by decide)) (by rfl) T.g_l_whole T.k_l_whole T.b_l_whole .nil pass0 (pa_cons (pe_ix ix_tup (pv 3) pe_int (fun _ _ => rfl)) pa_nil)))) (pw_or1 (pt_not (pt_val (pe_call G_l_whole (hr.mono (by decide)) (by rfl) T.g_l_whole T.k_l_whole T.b_l_whole .nil pass0 (pa_cons (pe_ix ix_tup (pv 3) pe_int (fun _ _ => rfl)) pa_nil)))))))))
            (pss_one (ps_ret pe_bl))
            pss_nil)
          (pss_cons (ps_if (PW.pt (pw_or (pt_not (pt_chain op_le op_lt pe_int (pe_ix ix_tup (pv 3) pe_int (fun _ _ => rfl)) (pe_callB call_lenN (by rfl) T.z_len (by decide +kernel) (pa_cons (pv 0) pa_nil)))) (pw_or1 (pt_cmpR op_in_seq (pe_ix ix_tup (pv 3) pe_int (fun _ _ => rfl)) (pv 2) (by rfl)))))
            (pss_one (ps_ret pe_bl))
            pss_nil)
          (pss_cons (ps_expr (pe_bm PySem.F.plainAttrs_list PySem.F.slot_list_append PySem.F.type_list_append mt_append (pv 2) (pa_cons (pe_ix ix_tup (pv 3) pe_int (fun _ _ => rfl)) pa_nil)))
          (pss_one (ps_if (pt_cmpR op_notIn_seq (pe_ix ix_tup (pv 3) pe_int (fun _ _ => rfl)) (pe_slice sl_tup (pe_ix ix_list (pv 0) (pe_ix ix_tup (pv 3) pe_int (fun _ _ => rfl)) (fun _ _ => rfl)) po_none (po_some pe_int)) (by rfl))
            (pss_one (ps_ret pe_bl))
            pss_nil))))))
      (pss_cons (ps_set (i := 4) sc_l_is_uneven.nd rfl (by first | exact Or.inl rfl | exact Or.inr rfl) (pe_tup (pa_cons pe_int (pa_cons pe_int pa_nil))))
      (pss_cons (ps_set (i := 5) sc_l_is_uneven.nd rfl (by first | exact Or.inl rfl | exact Or.inr rfl) (pe_tup (pa_cons pe_int (pa_cons pe_int pa_nil))))
      (pss_cons (ps_for PassesOwn.never rfl (pi_range1 (by rfl) T.z_range (pa_cons (pe_callB call_lenN (by rfl) T.z_len (by decide +kernel) (pa_cons (pv 1) pa_nil)) pa_nil)) (pg_name (i := 6) sc_l_is_uneven.nd rfl (by first | exact Or.inl rfl | exact Or.inr rfl))
        (pss_cons (ps_asg (pe_ix ix_tup (pv 1) (pv 6) (fun _ _ => rfl)) (pg_tup rfl (pgs_cons (pg_name (i := 7) sc_l_is_uneven.nd rfl (by first | exact Or.inl rfl | exact Or.inr rfl)) (pgs_cons (pg_name (i := 8) sc_l_is_uneven.nd rfl (by first | exact Or.inl rfl | exact Or.inr rfl)) pgs_nil))))
          (pss_cons (ps_asg (pe_ix ix_list (pv 0) (pv 7) (fun _ _ => rfl)) (pg_tup rfl (pgs_cons (pg_name (i := 9) sc_l_is_uneven.nd rfl (by first | exact Or.inl rfl | exact Or.inr rfl)) (pgs_cons (pg_name (i := 10) sc_l_is_uneven.nd rfl (by first | exact Or.inl rfl | exact Or.inr rfl)) (pgs_cons (pg_name (i := 11) sc_l_is_uneven.nd rfl (by first | exact Or.inl rfl | exact Or.inr rfl)) (pgs_cons (pg_name (i := 12) sc_l_is_uneven.nd rfl (by first | exact Or.inl rfl | exact Or.inr rfl)) (pgs_cons (pg_name (i := 13) sc_l_is_uneven.nd rfl (by first | exact Or.inl rfl | exact Or.inr rfl)) pgs_nil)))))))
          (pss_cons (ps_if (pt_cmpR op_ne (pe_op op_sub (pe_op op_add (pv 9) (pv 10)) (pv 8)) (pe_ix ix_tup (pe_ix ix_tup (pe_op op_catA (pv 1) (pv 1)) (pe_op op_add (pv 6) pe_int) (fun _ _ => rfl)) pe_int (fun _ _ => rfl)) (nomark _))
            (pss_one (ps_ret pe_bl))
            pss_nil)
          (pss_cons (ps_set (i := 4) sc_l_is_uneven.nd rfl (by first | exact Or.inl rfl | exact Or.inr rfl) (pe_call G_l_times (hr.mono (by decide)) (by rfl) T.g_l_times T.k_l_times T.b_l_times .nil pass0 (pa_cons (pv 4) (pa_cons (pe_ix ix_list (pe_lst (pa_cons (pv 11) (pa_cons (pv 12) pa_nil))) (pe_callTy call_intN (by rfl) T.z_int (by decide +kernel) (pa_cons (pe_cmpR op_eq (pv 8) (pv 10) (nomark _)) pa_nil)) (fun _ _ => rfl)) pa_nil))))
          (pss_one (ps_set (i := 5) sc_l_is_uneven.nd rfl (by first | exact Or.inl rfl | exact Or.inr rfl) (pe_call G_l_times (hr.mono (by decide)) (by rfl) T.g_l_times T.k_l_times T.b_l_times .nil pass0 (pa_cons (pv 5) (pa_cons (pe_ix ix_list (pe_lst (pa_cons (pv 12) (pa_cons (pv 11) pa_nil))) (pe_callTy call_intN (by rfl) T.z_int (by decide +kernel) (pa_cons (pe_cmpR op_eq (pv 8) (pv 10) (nomark _)) pa_nil)) (fun _ _ => rfl)) pa_nil))))))))))
      (pss_one (ps_ret (pe_cmpR (op_neD hr.units) (pv 4) (pv 5) (nomark _)))))))))), ?_⟩
    walk_at "r"
    rcases hv with ⟨tw, vw, es, rfl, nt, htw, hpw, lvw, rfl⟩ | ⟨⟨i, rfl⟩ | ⟨od, hn⟩, rfl⟩
    · have lw := Paired.length hpw
      walk_at "r"
      walk_at "if"
      · rename_i c1
        walk_at "r"
        refine q _ _ (Same.refl _) (no fun ⟨st, e, r, _⟩ => ?_)
        cases e
        have := r.rt.ne
        rw [List.length_map] at lw
        omega
      · rename_i c1
        walk_at "r"
        intro U nU
        have s1 := same_upd (o := .lst ([] : List V)) nU
        have hU : upd H U (.lst []) U = some (.lst []) := upd_same
        generalize upd H U (.lst []) = H1 at *
        walk_at "r"
        refine ⟨⟨_, .of (s1 _ _ htw)⟩, ?_⟩
        refine for_tup (K := K) (a := tw) (xs := vw) (fun i σ H' => ∃ (t3 : Option V) (st : List (Nat × Nat)), σ = [some (.ref S), some (.ref tw), some (.ref U), t3, none, none, none, none, none, none, none, none, none, none] ∧ Same H H' ∧ H' U = some (.lst (((st.map Prod.fst).map fun b : Nat => (b : Int)).map V.int)) ∧ es.take i = st.map upE ∧ (∀ p ∈ st, ∃ s, ss[p.1]? = some s ∧ (p.2 = s.u ∨ p.2 = s.v)) ∧ (st.map Prod.fst).Nodup) ?_ ?_ ?_ ?_
        · exact ⟨_, [], rfl, s1, hU, rfl, by simp, List.nodup_nil⟩
        · rintro i σ H' _ ⟨t3, st, rfl, s2, _⟩
          exact .of (s2 _ _ htw)
        · rintro i v σ H' hx ⟨t3, st, rfl, s2, hU2, et, hm, nd⟩
          obtain ⟨e, he, je⟩ := Paired.at hpw hx
          have hi60 := (List.getElem?_eq_some_iff.mp hx).1
          have lst : st.length = i := by
            have := congrArg List.length et
            rw [List.length_map, List.length_take] at this
            omega
          have bad : goodE ss e = false → ¬ UnevO ss (some es) := fun hg ⟨st2, e2, r, _⟩ => by
            cases e2
            rw [List.getElem?_map] at he
            obtain ⟨y, hy, rfl⟩ := Option.map_eq_some_iff.mp he
            rw [up_good (r.rt.mem y (List.mem_of_getElem? hy))] at hg
            cases hg
          rcases je.same s2 with ⟨p, x, y, a, b, rfl, np, hp, ja, jb, rfl⟩ | ⟨⟨z, rfl⟩ | ⟨od, hn⟩, rfl⟩
          · walk_at "r"
            obtain ⟨b0, hb0, eb0⟩ := ja.isi
            refine ⟨_, b0, rfl, hb0, ?_⟩
            rcases ja with ⟨ix, rfl, rfl⟩ | ⟨od, rfl⟩
            · rw [Option.isSome_some] at eb0
              subst eb0
              walk_at "r"
              obtain ⟨b1, hb1, eb1⟩ := jb.isi
              refine ⟨_, b1, rfl, hb1, ?_⟩
              rcases jb with ⟨wi, rfl, rfl⟩ | ⟨od, rfl⟩
              · rw [Option.isSome_some] at eb1
                subst eb1
                have hS2 := s2 _ _ hS
                walk_at "r"
                walk_at "if"
                · rename_i h0
                  walk_at "r"
                  walk_at "if"
                  · rename_i h1
                    have hb : goodE ss (jeOf (some ix) (some wi)) = false := by
                      show (ixOk ss.length (some ix) && _) = false
                      rw [show ixOk ss.length (some ix) = false by
                        show (decide (0 ≤ ix) && decide (ix < (ss.length : Nat))) = false
                        rw [decide_eq_false (show ¬ ix < (ss.length : Nat) by omega), Bool.and_false], Bool.false_and]
                    walk_at "r"
                    exact q _ _ s2 (no (bad hb))
                  · rename_i h1
                    obtain ⟨j, rfl⟩ := Int.eq_ofNat_of_zero_le h0
                    have hj : j < ss.length := by omega
                    have hs : ss[j]? = some (ss[j]'hj) := List.getElem?_eq_getElem hj
                    generalize ss[j]'hj = s at *
                    obtain ⟨z, hz, ⟨pz, va, vb, vr, rfl, hpz, _⟩⟩ := (hss.same s2).get hs
                    walk_at "r"
                    refine ⟨_, _, rfl, .inl (.of hU2), rfl, flat_intsH _, ?_⟩
                    rw [in_intsH]
                    by_cases c2 : j ∈ st.map Prod.fst
                    · have dup : ¬ UnevO ss (some es) := fun ⟨st2, e2, r, _⟩ => by
                        cases e2
                        rw [List.getElem?_map] at he
                        obtain ⟨y, hy, ey⟩ := Option.map_eq_some_iff.mp he
                        have e1 : y.1 = j := by
                          have ey : some ((y.1 : Int), (y.2 : Int)) = some ((j : Int), wi) := ey
                          injection ey with ey
                          injection ey with ey _
                          omega
                        rw [← List.map_take] at et
                        have et := upE_inj et
                        have nd2 : ((st2.take (i + 1)).map Prod.fst).Nodup := (List.Sublist.map Prod.fst (List.take_sublist _ _)).nodup r.rt.nd
                        rw [take_at hy, et, List.map_append] at nd2
                        exact (List.nodup_append.mp nd2).2.2 _ c2 _ (List.mem_singleton.mpr rfl) e1.symm
                      rw [decide_eq_true c2]
                      walk_at "r"
                      exact q _ _ s2 (no dup)
                    · rw [decide_eq_false c2, if_neg Bool.false_ne_true]
                      walk_at "r"
                      refine ⟨Or.inl ⟨rfl, _, Or.inl (Or.inl hU2)⟩, ?_⟩
                      walk_at "r"
                      refine ⟨U, _, _, rfl, rfl, hU2, by rw [List.length_map, List.length_map, List.length_map]; exact small1000 (by omega), ?_⟩
                      have s5 : Same H (upd H' U (.lst ((((st.map Prod.fst).map fun b : Nat => (b : Int)).map V.int) ++ [.int (j : Nat)]))) := same_putH s2 nU
                      have hU5 : upd H' U (.lst ((((st.map Prod.fst).map fun b : Nat => (b : Int)).map V.int) ++ [.int (j : Nat)])) U = some (.lst ((((st.map Prod.fst).map fun b : Nat => (b : Int)).map V.int) ++ [.int (j : Nat)])) := upd_same
                      have hp5 : upd H' U (.lst ((((st.map Prod.fst).map fun b : Nat => (b : Int)).map V.int) ++ [.int (j : Nat)])) p = some (.tup [.int (j : Nat), .int wi]) := (upd_ne (fun z => by
                        rw [z, hU2] at hp
                        cases hp)).trans hp
                      obtain ⟨z, hz, ⟨pz, va, vb, vr, rfl, hpz, _⟩⟩ := (hss.same s5).get hs
                      have hS5 := s5 _ _ hS
                      generalize upd H' U (.lst ((((st.map Prod.fst).map fun b : Nat => (b : Int)).map V.int) ++ [.int (j : Nat)])) = H5 at *
                      walk_at "r"
                      refine rd_ixL hS5 (at_some hz) ?_
                      walk_at "r"
                      refine ⟨_, _, rfl, .of hpz, (by show ¬ (HT.sIx 5 0 none = 0 ∧ HT.sIx 5 5 (some 2) = 5); decide), fun p2 n2 => ?_⟩
                      have sm := same_upd (o := .tup (cutV [V.int (s.u : Nat), .int (s.v : Nat), va, vb, vr] none (some 2))) n2
                      refine ⟨_, _, rfl, .inr (.of upd_same), rfl, rfl, ?_⟩
                      have e2 : inV (.int wi) (cutV [V.int (s.u : Nat), .int (s.v : Nat), va, vb, vr] none (some 2)) = (decide (wi = (s.u : Nat)) || decide (wi = (s.v : Nat))) := by
                        rw [show cutV [V.int (s.u : Nat), .int (s.v : Nat), va, vb, vr] none (some 2) = [V.int (s.u : Nat), .int (s.v : Nat)] from rfl]
                        simp [inV, eqV, Bool.beq_eq_decide_eq]
                        rw [show decide (((s.u : Nat) : Int) = wi) = decide (wi = (s.u : Nat)) from decide_eq_decide.mpr eq_comm, show decide (((s.v : Nat) : Int) = wi) = decide (wi = (s.v : Nat)) from decide_eq_decide.mpr eq_comm]
                      have ewr : wrOk ss (j : Int) wi = (decide (wi = (s.u : Nat)) || decide (wi = (s.v : Nat))) := by
                        unfold wrOk
                        rw [Int.toNat_natCast, hs]
                      rw [e2, ← ewr]
                      cases cw : wrOk ss (j : Int) wi with
                      | false =>
                        have hb : goodE ss (jeOf (some (j : Int)) (some wi)) = false := by
                          show (_ && wrOk ss (j : Int) wi) = false
                          rw [cw, Bool.and_false]
                        walk_at "r"
                        exact q _ _ (s5.trans sm) (no (bad hb))
                      | true =>
                        have hg : goodE ss (jeOf (some (j : Int)) (some wi)) = true := by
                          show (ixOk ss.length (some (j : Int)) && wrOk ss (j : Int) wi) = true
                          rw [cw, Bool.and_true]
                          show (decide ((0 : Int) ≤ (j : Nat)) && decide (((j : Nat) : Int) < (ss.length : Nat))) = true
                          rw [decide_eq_true (by omega), decide_eq_true (by omega)]
                          rfl
                        obtain ⟨y, ey, hy⟩ := good_up hg
                        have ey2 : y.1 = j := by
                          have ey : some ((j : Int), wi) = some ((y.1 : Int), (y.2 : Int)) := ey
                          injection ey with ey
                          injection ey with ey _
                          omega
                        walk_at "r"
                        refine ⟨_, st ++ [y], rfl, s5.trans sm, ?_, upE_take et (by rw [he]; exact congrArg some ey), ?_, ?_⟩
                        · rw [List.map_append, List.map_append, List.map_append]
                          show _ = some (HO.lst (_ ++ [V.int ((y.1 : Nat) : Int)]))
                          rw [ey2]
                          exact sm _ _ hU5
                        · intro r hr
                          rcases List.mem_append.mp hr with h | h
                          · exact hm r h
                          · rw [List.mem_singleton.mp h]
                            exact hy
                        · rw [List.map_append]
                          refine List.nodup_append.mpr ⟨nd, by simp, fun a ha b hb e => ?_⟩
                          have hb : b = y.1 := List.mem_singleton.mp hb
                          rw [hb, ey2] at e
                          rw [e] at ha
                          exact c2 ha
                · rename_i h0
                  have hb : goodE ss (jeOf (some ix) (some wi)) = false := by
                    show (ixOk ss.length (some ix) && _) = false
                    rw [show ixOk ss.length (some ix) = false by
                      show (decide (0 ≤ ix) && decide (ix < (ss.length : Nat))) = false
                      rw [decide_eq_false h0, Bool.false_and], Bool.false_and]
                  walk_at "r"
                  exact q _ _ s2 (no (bad hb))
              · rw [Option.isSome_none] at eb1
                subst eb1
                walk_at "r"
                exact q _ _ s2 (no (bad rfl))
            · rw [Option.isSome_none] at eb0
              subst eb0
              walk_at "r"
              exact q _ _ s2 (no (bad (by cases b <;> rfl)))
          · walk_at "r"
            exact q _ _ s2 (no (bad rfl))
          · have q := q _ _ s2 (no (bad rfl))
            obtain ⟨b1, b2, b3, hb, -, -, h3, ht⟩ := od.isi
            walk_at "r"
            refine h3 _ ?_
            cases b3 with
            | false =>
              walk_at "r"
              exact q
            | true =>
              obtain ⟨p, xs, rfl, np, hp⟩ := ht rfl
              have hl : ¬ ((xs.length : Int) = 2) := by
                have := hn p xs rfl hp
                omega
              walk_at "r"
              exact q
        · rintro σ H' ⟨t3, st, rfl, s2, hU2, et, hm, nd⟩
          rw [lw, List.take_length] at et
          subst et
          have hpp := up_pairs hpw
          rw [List.length_map] at lw
          walk_at "r"
          intro pa na
          have sa1 := same_upd (o := .tup [V.int 1, .int 1]) na
          have ia : IsF K (upd H' pa (.tup [V.int 1, .int 1])) (.ref pa) 1 := isF_new (by decide) (by decide)
          generalize upd H' pa (.tup [V.int 1, .int 1]) = H2 at *
          walk_at "r"
          intro pb nb
          have sb1 := same_upd (o := .tup [V.int 1, .int 1]) nb
          have ib : IsF K (upd H2 pb (.tup [V.int 1, .int 1])) (.ref pb) 1 := isF_new (by decide) (by decide)
          generalize upd H2 pb (.tup [V.int 1, .int 1]) = H3 at *
          have s3 := (s2.trans sa1).trans sb1
          have ia := ia.same sb1
          have htw3 := s3 _ _ htw
          clear hU2 na nb sa1 sb1 s2
          walk_at "r"
          refine ⟨by omega, by omega, ?_⟩
          rw [Int.toNat_natCast]
          have lst : st.length ≤ ss.length := by
            have := nodup_le ss.length (st.map Prod.fst) nd fun x hx => by
              obtain ⟨p, hp, rfl⟩ := List.mem_map.mp hx
              obtain ⟨s, hs, _⟩ := hm p hp
              exact (List.getElem?_eq_some_iff.mp hs).1
            rwa [List.length_map] at this
          refine for_range (lo := 0) (n := vw.length) (fun i σ H' => ∃ (va vb : V) (t3 t6 t7 t8 t9 t10 t11 t12 t13 : Option V), σ = [some (.ref S), some (.ref tw), some (.ref U), t3, some va, some vb, t6, t7, t8, t9, t10, t11, t12, t13] ∧ Same H H' ∧ IsF K H' va (prodR ((st.take i).map (hdP ss))) ∧ IsF K H' vb (prodR ((st.take i).map (tlP ss))) ∧ Bd (1 + 9 * i) (prodR ((st.take i).map (hdP ss))) ∧ Bd (1 + 9 * i) (prodR ((st.take i).map (tlP ss))) ∧
            ∀ j p q s, j < i → st[j]? = some p → st[(j + 1) % st.length]? = some q → ss[p.1]? = some s → s.other p.2 = q.2) ?_ ?_ ?_
          · exact ⟨_, _, _, _, _, _, _, _, _, _, _, rfl, s3, ia, ib, (show Bd 1 1 from ⟨by decide, by decide⟩), (show Bd 1 1 from ⟨by decide, by decide⟩), fun j _ _ _ hj => absurd hj (Nat.not_lt_zero _)⟩
          · rintro i σ H' hi ⟨va, vb, t3, t6, t7, t8, t9, t10, t11, t12, t13, rfl, s4, ia, ib, ba, bb, hall⟩
            have g : ∀ i, i < vw.length → ∃ y, vw[i]? = some y := fun i hi => ⟨_, List.getElem?_eq_getElem hi⟩
            obtain ⟨y0, hy0⟩ := g i hi
            obtain ⟨y1, hy1⟩ := g ((i + 1) % vw.length) (Nat.mod_lt _ (by omega))
            obtain ⟨⟨ix, wn⟩, hp0, q0, rfl, hq0⟩ := Paired.at hpp hy0
            obtain ⟨⟨i1, w1⟩, hp1, q1, rfl, hq1⟩ := Paired.at hpp hy1
            obtain ⟨s, hs, hwn⟩ := hm _ (List.mem_of_getElem? hp0)
            obtain ⟨z, hz, isz⟩ := hss.get hs
            obtain ⟨o1, o2⟩ := hok s (List.mem_of_getElem? hs)
            obtain ⟨ps, xa, xb, xr, rfl, hps, ja, jb, jr⟩ := isz.same s4
            have htw4 := s4 _ _ htw
            have hq04 := s4 _ _ hq0
            have hS4 := s4 _ _ hS
            walk_at "r"
            rw [Int.zero_add]
            refine rd_ixT htw4 (at_some hy0) ?_
            walk_at "r"
            refine rd_ixL hS4 (at_some hz) ?_
            walk_at "r"
            refine rd_catAH htw4 htw4 (by rw [sizeLine_eq]; omega) fun pt H5 s5 h5 => ?_
            have k5 := s4.trans s5
            have hy2 : (vw ++ vw)[i + 1]? = some (V.ref q1) := by rw [two_ix vw i hi]; exact hy1
            have hq15 := k5 _ _ hq1
            walk_at "r"
            refine rd_ixT h5 (at_some (i := i + 1) hy2) ?_
            walk_at "r"
            have eo : (((s.u : Nat) : Int) + ((s.v : Nat) : Int) - ((wn : Nat) : Int)) = ((s.other wn : Nat) : Int) := by
              unfold Stl.other
              rcases hwn with h | h
              · have h : wn = s.u := h
                rw [if_pos h]
                omega
              · have h : wn = s.v := h
                rw [if_neg (by rw [h]; exact Ne.symm o1.ne)]
                omega
            by_cases ec : s.other wn = w1
            · have heq : (((s.u : Nat) : Int) + ((s.v : Nat) : Int) - ((wn : Nat) : Int)) = ((w1 : Nat) : Int) := by omega
              have e1 : hdP ss (ix, wn) = s.hold wn := by
                unfold hdP
                rw [hs]
              have e2 : tlP ss (ix, wn) = s.hold (s.other wn) := by
                unfold tlP
                rw [hs]
              have hpick : ∀ {H7 : Hp}, Same H' H7 → ∃ vx vy, atI [xa, xb] (if decide (((wn : Nat) : Int) = ((s.v : Nat) : Int)) = true then 1 else 0) = some vx ∧ atI [xb, xa] (if decide (((wn : Nat) : Int) = ((s.v : Nat) : Int)) = true then 1 else 0) = some vy ∧ IsF K H7 vx (s.hold wn) ∧ IsF K H7 vy (s.hold (s.other wn)) := fun s7 => by
                by_cases e : wn = s.v
                · rw [decide_eq_true (show ((wn : Nat) : Int) = ((s.v : Nat) : Int) by omega), if_pos rfl]
                  refine ⟨xb, xa, rfl, rfl, ?_, ?_⟩
                  · rw [show s.hold wn = s.b from if_neg (by rw [e]; exact Ne.symm o1.ne)]
                    exact jb.same s7
                  · rw [show s.other wn = s.u from if_neg (by rw [e]; exact Ne.symm o1.ne), show s.hold s.u = s.a from if_pos rfl]
                    exact ja.same s7
                · have h : wn = s.u := hwn.resolve_right e
                  rw [decide_eq_false (show ¬ ((wn : Nat) : Int) = ((s.v : Nat) : Int) by omega), if_neg Bool.false_ne_true]
                  refine ⟨xa, xb, rfl, rfl, ?_, ?_⟩
                  · rw [show s.hold wn = s.a from if_pos h]
                    exact ja.same s7
                  · rw [show s.other wn = s.v from if_pos h, show s.hold s.v = s.b from if_neg (Ne.symm o1.ne)]
                    exact jb.same s7
              walk_at "r"
              intro L1 nL1
              have sl1 := same_upd (o := .lst [xa, xb]) nL1
              have hL1 : upd H5 L1 (.lst [xa, xb]) L1 = some (.lst [xa, xb]) := upd_same
              generalize upd H5 L1 (.lst [xa, xb]) = H6 at *
              obtain ⟨vx, vy, ex, ey, ivx, ivy⟩ := hpick (s5.trans sl1)
              walk_at "r"
              refine rd_ixL hL1 ex ?_
              walk_at "r"
              refine ⟨_, _, _, _, rfl, (ia.same s5).same sl1, ivx, ba.mono (by omega), (hold_bd9 (n := n) o2 wn).mono (by decide), fun H7 v7 s7 h7 => ?_⟩
              walk_at "r"
              intro L2 nL2
              have sl2 := same_upd (o := .lst [xb, xa]) nL2
              have hL2 : upd H7 L2 (.lst [xb, xa]) L2 = some (.lst [xb, xa]) := upd_same
              generalize upd H7 L2 (.lst [xb, xa]) = H8 at *
              walk_at "r"
              refine rd_ixL hL2 ey ?_
              walk_at "r"
              refine ⟨_, _, _, _, rfl, (((ib.same s5).same sl1).same s7).same sl2, (ivy.same s7).same sl2, bb.mono (by omega), (hold_bd9 (n := n) o2 (s.other wn)).mono (by decide), fun H9 v9 s9 h9 => ?_⟩
              have h7 : IsF K H7 v7 (prodR ((st.take i).map (hdP ss)) * s.hold wn) := h7
              have h9 : IsF K H9 v9 (prodR ((st.take i).map (tlP ss)) * s.hold (s.other wn)) := h9
              walk_at "r"
              rw [prod_take hp0, prod_take hp0, e1, e2]
              refine ⟨_, _, _, _, _, _, _, _, _, _, _, rfl, (((k5.trans sl1).trans s7).trans sl2).trans s9, (h7.same sl2).same s9, h9, (ba.mul (hold_bd9 (n := n) o2 wn)).mono (by omega), (bb.mul (hold_bd9 (n := n) o2 (s.other wn))).mono (by omega), fun j p q s' hj hp hq hs' => ?_⟩
              by_cases z : j = i
              · subst z
                rw [hp0] at hp
                cases hp
                rw [lw] at hp1
                rw [hp1] at hq
                cases hq
                rw [hs] at hs'
                cases hs'
                exact ec
              · exact hall j p q s' (by omega) hp hq hs'
            · have hno : ¬ UnevO ss (some (st.map upE)) := fun ⟨st2, e, r, _⟩ => by
                have e := upE_inj (Option.some.inj e)
                subst e
                exact ec (r.nxt hp0 (by rw [← lw]; exact hp1) hs)
              have hne : ¬ (((s.u : Nat) : Int) + ((s.v : Nat) : Int) - ((wn : Nat) : Int)) = ((w1 : Nat) : Int) := by omega
              walk_at "r"
              exact q _ _ k5 (no hno)
          · rintro σ H' ⟨va, vb, t3, t6, t7, t8, t9, t10, t11, t12, t13, rfl, s4, ia, ib, ba, bb, hall⟩
            rw [lw, List.take_length] at ia ib
            walk_at "r"
            refine neF (K := K) ia ib ?_
            have rg : Rng ss st := rng_of (by omega) hm nd fun i p q s hp hq hs => hall i p q s (by rw [lw]; exact (List.getElem?_eq_some_iff.mp hp).1) hp hq hs
            refine q _ _ s4 ?_
            rw [Bool.not_eq_true', decide_eq_false_iff_not]
            exact ⟨fun u => ⟨st, rfl, rg, u⟩, fun ⟨st2, e, _, u⟩ => by
              have e := upE_inj (Option.some.inj e)
              subst e
              exact u⟩
    · have q := q _ _ (Same.refl _) (no fun ⟨st, e, r⟩ => by cases e)
      walk_at "r"
      exact q
    · have q := q _ _ (Same.refl _) (no fun ⟨st, e, r⟩ => by cases e)
      obtain ⟨b1, b2, b3, hb, -, -, h3, ht⟩ := od.isi
      walk_at "r"
      refine h3 _ ?_
      cases b3 with
      | false =>
        walk_at "r"
        exact q
      | true =>
        obtain ⟨p, xs, rfl, np, hp⟩ := ht rfl
        exact absurd hp (hn p xs rfl)
end
end My
namespace My
open PySem PySem.Spec PyProof.Rows L2
theorem op_notInK {K : PySem.W.Frag} {X : Cx} (h : X.K = K) : OpR X (compareOp .NotIn) (rIn K true) := h ▸ op_notIn_seq
end My
namespace My
open PySem PySem.Spec PyProof.Rows L2
variable {K : PySem.W.Frag}
structure Rbg (ss : List Stl) (st : List (Nat × Nat)) (w : Nat) : Prop where
  mem : ∀ p ∈ st, ∃ s, ss[p.1]? = some s ∧ (p.2 = s.u ∨ p.2 = s.v)
  nd : (st.map Prod.fst).Nodup
  ch : ∀ i p q s, st[i]? = some p → st[i + 1]? = some q → ss[p.1]? = some s → s.other p.2 = q.2
  on : ∀ i p s, st[i]? = some p → st.length = i + 1 → ss[p.1]? = some s → s.other p.2 = w
theorem Rbg.nil (ss : List Stl) (w : Nat) : Rbg ss [] w := ⟨by simp, by simp, fun i p q s h => by simp at h, fun i p s h => by simp at h⟩
theorem Rbg.rte {ss : List Stl} {st : List (Nat × Nat)} {w : Nat} (h : Rbg ss st w) (h0 : 0 < st.length) : Rte ss st := ⟨h0, h.mem, h.nd, h.ch⟩
theorem Rbg.add {ss : List Stl} {st : List (Nat × Nat)} {w ix : Nat} {s : Stl} (h : Rbg ss st w) (hs : ss[ix]? = some s) (hw : w = s.u ∨ w = s.v) (hn : ¬ ix ∈ st.map Prod.fst) : Rbg ss (st ++ [(ix, w)]) (s.other w) := by
  refine ⟨fun p hp => ?_, ?_, fun i p q t h1 h2 ht => ?_, fun i p t h1 hl ht => ?_⟩
  · rcases List.mem_append.mp hp with z | z
    · exact h.mem p z
    · rw [List.mem_singleton.mp z]
      exact ⟨s, hs, hw⟩
  · rw [List.map_append]
    exact List.nodup_append.mpr ⟨h.nd, by simp, fun a ha b hb => by
      rw [List.mem_singleton.mp hb]
      exact fun z => hn (by rw [← show a = ix from z]; exact ha)⟩
  · by_cases c : i + 1 < st.length
    · rw [List.getElem?_append_left (by omega)] at h1
      rw [List.getElem?_append_left c] at h2
      exact h.ch i p q t h1 h2 ht
    · by_cases c2 : i + 1 = st.length
      · rw [List.getElem?_append_left (by omega)] at h1
        rw [List.getElem?_append_right (by omega), c2, Nat.sub_self] at h2
        cases h2
        exact h.on i p t h1 c2.symm ht
      · rw [List.getElem?_append_right (by omega)] at h2
        obtain ⟨j, hj⟩ : ∃ j, i + 1 - st.length = j + 1 := ⟨i + 1 - st.length - 1, by omega⟩
        rw [hj] at h2
        simp at h2
  · rw [List.length_append, List.length_singleton] at hl
    have e : i = st.length := by omega
    subst e
    rw [List.getElem?_append_right (Nat.le_refl _), Nat.sub_self] at h1
    cases h1
    rw [hs] at ht
    cases ht
    rfl
theorem prs_ts {H H' : Hp} (t : Tps H H') {vs : List V} {st : List (Nat × Nat)} (h : Paired (fun v (p : Nat × Nat) => ∃ q, v = .ref q ∧ H q = some (.tup [V.int (p.1 : Nat), .int (p.2 : Nat)])) vs st) : Paired (fun v (p : Nat × Nat) => ∃ q, v = .ref q ∧ H' q = some (.tup [V.int (p.1 : Nat), .int (p.2 : Nat)])) vs st := Paired.mapP h fun _ _ ⟨q, e, h⟩ => ⟨q, e, t _ _ h⟩
theorem prs_drop {α : Type} {R : V → α → Prop} {vs : List V} {st : List α} (h : Paired R vs st) : ∀ b, Paired R (vs.drop b) (st.drop b) := by
  induction h with
  | nil =>
    intro b
    rw [List.drop_nil, List.drop_nil]
    exact .nil
  | cons h t ih =>
    intro b
    cases b with
    | zero => exact .cons h t
    | succ b => exact ih b
theorem upTo_lenH {α : Type} (f : Nat → Option α) (n : Nat) : (upTo f n).length ≤ n := by
  unfold upTo
  exact Nat.le_trans (List.length_filterMap_le _ _) (by rw [List.length_range]; exact Nat.le_refl _)
theorem Rbg.ring {ss : List Stl} {st : List (Nat × Nat)} {w b : Nat} {p : Nat × Nat} (h : Rbg ss st w) (hb : st[b]? = some p) (hp : p.2 = w) : Rng ss (st.drop b) := by
  have hl := (List.getElem?_eq_some_iff.mp hb).1
  have sub := List.drop_sublist b st
  refine ⟨⟨by rw [List.length_drop]; omega, fun q hq => h.mem q (sub.subset hq), (sub.map Prod.fst).nodup h.nd, fun i p q s hp hq hs => ?_⟩, fun p' q s hp' hq hs => ?_⟩
  · rw [List.getElem?_drop] at hp hq
    exact h.ch (b + i) p q s hp hq hs
  · rw [List.getElem?_drop] at hp' hq
    rw [List.length_drop] at hp'
    rw [Nat.add_zero, hb] at hq
    cases hq
    rw [hp]
    exact h.on _ _ s hp' (by omega) hs
section
variable {P : Program} {w : World} {K : PySem.W.Frag} {mg : Str → Option Value} {base : Heap} {f_is_integer f_is_row f_is_fraction f_is_some f_multiplied f_squared f_is_stall f_across f_hold_of f_is_index f_is_step f_end_of f_is_walk f_is_ring f_is_uneven f_is_uneven_ring f_l_hand f_l_draw f_l_gcd f_l_frac f_l_times f_l_over f_l_some f_l_shuffled f_l_stall f_l_stalls f_l_sizes f_l_whole f_l_is_flag f_l_is_uneven f_l_ring f_l_back f_l_bent f_law f_Web_init f_Web_eq c_Web c_ONE : Addr} {d_is_integer d_is_row d_is_fraction d_is_some d_multiplied d_squared d_is_stall d_across d_hold_of d_is_index d_is_step d_end_of d_is_walk d_is_ring d_is_uneven d_is_uneven_ring d_l_hand d_l_draw d_l_gcd d_l_frac d_l_times d_l_over d_l_some d_l_shuffled d_l_stall d_l_stalls d_l_sizes d_l_whole d_l_is_flag d_l_is_uneven d_l_ring d_l_back d_l_bent d_law d_Web_init d_Web_eq : FuncData}
def sp_lring (K : PySem.W.Frag) (M : Nat) : Sp := fun vs H Q _ => ∃ (D C S : Addr) (c n : Nat) (xs : List V) (ss : List Stl), vs = [.ref D, .ref S, .int (n : Nat)] ∧ Hnd M D C H c ∧ c ≤ 2 ^ 38 ∧ S ≠ D ∧ S ≠ C ∧ H S = some (.lst xs) ∧ Sts K H xs ss ∧ ss.length ≤ 16 ∧ 1 ≤ n ∧ n ≤ 8 ∧ (∀ s ∈ ss, OkSt n s) ∧
  ∀ H' v, Fw D H H' → Hnd M D C H' (c + 40) → (v = .non ∨ ∃ st, IsRt K H' v st ∧ Rng ss st ∧ ∀ t, v = .ref t → H t = none) → Q v H'
theorem ok_l_ring {M : Nat} (hM : 64 ≤ M) (hM2 : M ≤ 1048576) (T : Txt K mg f_is_integer f_is_row f_is_fraction f_is_some f_multiplied f_squared f_is_stall f_across f_hold_of f_is_index f_is_step f_end_of f_is_walk f_is_ring f_is_uneven f_is_uneven_ring f_l_hand f_l_draw f_l_gcd f_l_frac f_l_times f_l_over f_l_some f_l_shuffled f_l_stall f_l_stalls f_l_sizes f_l_whole f_l_is_flag f_l_is_uneven f_l_ring f_l_back f_l_bent f_law f_Web_init f_Web_eq c_Web c_ONE d_is_integer d_is_row d_is_fraction d_is_some d_multiplied d_squared d_is_stall d_across d_hold_of d_is_index d_is_step d_end_of d_is_walk d_is_ring d_is_uneven d_is_uneven_ring d_l_hand d_l_draw d_l_gcd d_l_frac d_l_times d_l_over d_l_some d_l_shuffled d_l_stall d_l_stalls d_l_sizes d_l_whole d_l_is_flag d_l_is_uneven d_l_ring d_l_back d_l_bent d_law d_Web_init d_Web_eq) : FnOk P w K mg base CX0 2 f_l_ring d_l_ring ["_law_hand_here", "_law_stalls_here", "_law_wares"] (sp_lring K M) := by
  have G_l_draw : FnOk P w K mg base CX0 1 f_l_draw d_l_draw ["_law_hand_here", "_law_many"] (sp_hdraw M) := ok_l_hdraw hM hM2 T
  refine T.F_l_ring.ok sc_l_ring (fun vs H Q E h => ?_) (fun cdv A outer sh H vs Q E hr h => ?_)
  · obtain ⟨D, C, S, c, n, xs, ss, rfl, _⟩ := h
    rfl
  · obtain ⟨D, C, S, c, n, xs, ss, rfl, dk, hc, SD, SC, hS, hst, l16, n1, n8, hok, q⟩ := h
    have hlx := hst.len
    refine ⟨_, (pss_cons (ps_set (i := 3) sc_l_ring.nd rfl (by first | exact Or.inl rfl | exact Or.inr rfl) (pe_call G_l_draw (hr.mono (by decide)) (by rfl) T.g_l_draw T.k_l_draw T.b_l_draw .nil pass0 (pa_cons (pv 0) (pa_cons (pv 2) pa_nil))))
      (pss_cons (ps_set (i := 4) sc_l_ring.nd rfl (by first | exact Or.inl rfl | exact Or.inr rfl) (pe_lst pa_nil))
      (pss_cons (ps_for PassesOwn.never rfl (pi_range1 (by rfl) T.z_range (pa_cons pe_int pa_nil)) (pg_name (i := 5) sc_l_ring.nd rfl (by first | exact Or.inl rfl | exact Or.inr rfl))
        (pss_cons (ps_set (i := 6) sc_l_ring.nd rfl (by first | exact Or.inl rfl | exact Or.inr rfl) (pe_lc (own := [("_law_index", 7), ("_law_ware", 8)]) (g := gTup K 2 (gCons (gName 7) (gCons (gName 8) (gNil)))) rfl sc_l_ring.nd (pi_list (pv 4)) (blkOk_by (own := [("_law_index", 7), ("_law_ware", 8)]) (N := N_l_ring) (sc := defScope s_l_ring) (by decide +kernel)) (fun _ _ _ _ _ => (pg_tup rfl (pgs_cons (pg_name (i := 7) sc_l_ring.nd rfl (by first | exact Or.inl rfl | exact Or.inr rfl)) (pgs_cons (pg_name (i := 8) sc_l_ring.nd rfl (by first | exact Or.inl rfl | exact Or.inr rfl)) pgs_nil)))) (fun _ _ _ _ _ => pts_nil) (fun _ _ _ _ _ => (pv 7))))
          (pss_cons (ps_setLc (i := 9) (own := [("_law_k", 10)]) (g := gName 10) rfl sc_l_ring.nd rfl rfl (sw_true rfl rfl rfl (by decide +kernel)) (pi_range1 (by rfl) T.z_range (pa_cons (pe_callB call_lenN (by rfl) T.z_len (by decide +kernel) (pa_cons (pv 1) pa_nil)) pa_nil)) (blkOk_by (own := [("_law_k", 10)]) (N := N_l_ring) (sc := defScope s_l_ring) (by decide +kernel)) (fun _ _ _ _ _ => (pg_name (i := 10) sc_l_ring.nd rfl (by first | exact Or.inl rfl | exact Or.inr rfl))) (fun _ _ _ _ _ => (pts_one (PW.pt (pw_and (pt_cmpR (My.op_inK (K := K) (by rfl)) (pv 3) (pe_slice (My.sl_tupK (K := K) (by rfl)) (pe_ix (My.ix_listK (K := K) (by rfl)) (pv 1) (pv 10) (fun _ _ => rfl)) po_none (po_some pe_int)) (by rfl)) (pw_and1 (pt_cmpR (My.op_notInK (K := K) (by rfl)) (pv 10) (pv 6) (by rfl))))))) (fun _ _ _ _ _ => (pv 10)))
          (pss_cons (ps_if (pt_cmpR op_eq (pe_callB call_lenN (by rfl) T.z_len (by decide +kernel) (pa_cons (pv 9) pa_nil)) pe_int (nomark _))
            (pss_one (ps_ret pe_non))
            pss_nil)
          (pss_cons (ps_set (i := 7) sc_l_ring.nd rfl (by first | exact Or.inl rfl | exact Or.inr rfl) (pe_ix ix_list (pv 9) (pe_call G_l_draw (hr.mono (by decide)) (by rfl) T.g_l_draw T.k_l_draw T.b_l_draw .nil pass0 (pa_cons (pv 0) (pa_cons (pe_callB call_lenN (by rfl) T.z_len (by decide +kernel) (pa_cons (pv 9) pa_nil)) pa_nil))) (fun _ _ => rfl)))
          (pss_cons (ps_expr (pe_bm PySem.F.plainAttrs_list PySem.F.slot_list_append PySem.F.type_list_append mt_append (pv 4) (pa_cons (pe_tup (pa_cons (pv 7) (pa_cons (pv 3) pa_nil))) pa_nil)))
          (pss_cons (ps_set (i := 3) sc_l_ring.nd rfl (by first | exact Or.inl rfl | exact Or.inr rfl) (pe_op op_sub (pe_op op_add (pe_ix ix_tup (pe_ix ix_list (pv 1) (pv 7) (fun _ _ => rfl)) pe_int (fun _ _ => rfl)) (pe_ix ix_tup (pe_ix ix_list (pv 1) (pv 7) (fun _ _ => rfl)) pe_int (fun _ _ => rfl))) (pv 3)))
          (pss_cons (ps_setLc (i := 11) (own := [("_law_k", 10)]) (g := gName 10) rfl sc_l_ring.nd rfl rfl (sw_true rfl rfl rfl (by decide +kernel)) (pi_range1 (by rfl) T.z_range (pa_cons (pe_callB call_lenN (by rfl) T.z_len (by decide +kernel) (pa_cons (pv 4) pa_nil)) pa_nil)) (blkOk_by (own := [("_law_k", 10)]) (N := N_l_ring) (sc := defScope s_l_ring) (by decide +kernel)) (fun _ _ _ _ _ => (pg_name (i := 10) sc_l_ring.nd rfl (by first | exact Or.inl rfl | exact Or.inr rfl))) (fun _ _ _ _ _ => (pts_one (pt_cmpR op_eq (pe_ix (My.ix_tupK (K := K) (by rfl)) (pe_ix (My.ix_listK (K := K) (by rfl)) (pv 4) (pv 10) (fun _ _ => rfl)) pe_int (fun _ _ => rfl)) (pv 3) (nomark _)))) (fun _ _ _ _ _ => (pv 10)))
          (pss_one (ps_if (PW.pt (pw_and (pt_cmpR op_gt (pe_callB call_lenN (by rfl) T.z_len (by decide +kernel) (pa_cons (pv 11) pa_nil)) pe_int (nomark _)) (pw_and1 (pt_cmpR op_gt (pe_call G_l_draw (hr.mono (by decide)) (by rfl) T.g_l_draw T.k_l_draw T.b_l_draw .nil pass0 (pa_cons (pv 0) (pa_cons pe_int pa_nil))) pe_int (nomark _)))))
            (pss_one (ps_ret (pe_callTy call_tuple_of (by rfl) T.z_tuple (by decide +kernel) (pa_cons (pe_slice sl_list (pv 4) (po_some (pe_ix ix_list (pv 11) (pe_call G_l_draw (hr.mono (by decide)) (by rfl) T.g_l_draw T.k_l_draw T.b_l_draw .nil pass0 (pa_cons (pv 0) (pa_cons (pe_callB call_lenN (by rfl) T.z_len (by decide +kernel) (pa_cons (pv 11) pa_nil)) pa_nil))) (fun _ _ => rfl))) po_none) pa_nil))))
            pss_nil))))))))))
      (pss_one (ps_ret pe_non))))), ?_⟩
    walk_at "r"
    refine ⟨_, _, _, _, rfl, ⟨by omega, by omega⟩, dk, by omega, fun H1 r1 w1 k1 a1 b1 => ?_⟩
    obtain ⟨wn0, rfl⟩ := Int.eq_ofNat_of_zero_le a1
    have hS1 := w1 _ _ SD hS
    have hst1 := hst.ts (dk.tps w1)
    walk_at "r"
    intro Pa nP
    have s2 := same_upd (o := .lst ([] : List V)) nP
    have hP : upd H1 Pa (.lst []) Pa = some (.lst []) := upd_same
    have PD : Pa ≠ D := k1.ne nP
    have PC : Pa ≠ C := k1.neC nP
    have nP0 : H Pa = none := by
      cases e : H Pa with
      | none => rfl
      | some o => exact absurd ((w1 _ _ PD e).symm.trans nP) (by simp)
    generalize upd H1 Pa (.lst []) = H2 at *
    have k2 := k1.same s2
    have f2 := w1.trans (Same.fw s2)
    have hS2 := s2 _ _ hS1
    have hst2 := hst1.same s2
    clear w1 k1 hS1 hst1
    walk_at "r"
    refine ⟨by omega, by omega, ?_⟩
    refine for_range (lo := 0) (n := 12) (fun i σ H' => ∃ (t5 t6 t7 t9 t11 : Option V) (wx : Nat) (vs6 : List V) (st : List (Nat × Nat)), σ = [some (.ref D), some (.ref S), some (.int (n : Nat)), some (.int (wx : Nat)), some (.ref Pa), t5, t6, t7, none, t9, none, t11] ∧ Fw D H H' ∧ Hnd M D C H' (c + 1 + 3 * i) ∧ H' Pa = some (.lst vs6) ∧ Paired (fun v (p : Nat × Nat) => ∃ q, v = .ref q ∧ H' q = some (.tup [V.int (p.1 : Nat), .int (p.2 : Nat)])) vs6 st ∧ Rbg ss st wx ∧ st.length ≤ i) ?_ ?_ ?_
    · exact ⟨_, _, _, _, _, wn0, [], [], rfl, f2, k2, hP, .nil, Rbg.nil ss wn0, Nat.le_refl _⟩
    · rintro i σ H6 hi ⟨t5, t6, t7, t9, t11, wx, vs6, st, rfl, f6, k6, hP6, hpp, rb, lst⟩
      have lvs := Paired.length hpp
      have hS6 : H6 S = some (.lst xs) := f6 _ _ SD hS
      have hst6 : Sts K H6 xs ss := hst.ts (dk.tps f6)
      walk_at "r"
      refine ⟨⟨_, .of hP6⟩, fun U nU => ?_⟩
      have UP : Pa ≠ U := ne_of_none hP6 nU
      refine lc_listP (R := fun H v (b : Nat) => v = .int (b : Nat)) (fun _ _ _ _ _ h => h) (f := fun j => (st[j]?).map Prod.fst) nU (by omega) (.of hP6) (fun j v hx H7 Q' N' s7 hyy _ => ?_) fun H7 hl7 => ?_
      · obtain ⟨⟨i', w'⟩, hpi, pq, rfl, hpq⟩ := Paired.at hpp hx
        have hpq2 := s7 _ _ hpq
        walk_at "r"
        refine ⟨rfl, ?_⟩
        walk_at "r"
        exact hyy i' _ _ (by simp [hpi]) (Same.refl _) rfl
      obtain ⟨s7, us, hU7, hus⟩ := hl7
      rw [lvs, upTo_list] at hus
      have eus := ints_of hus
      subst eus
      have hP7 := s7 _ _ hP6
      have hS7 := s7 _ _ hS6
      have hst7 := hst6.same s7
      have k7 := k6.same s7
      have f7 := f6.trans (Same.fw s7)
      have hpp7 := prs_ts (same_tps s7) hpp
      clear hP6 hS6 hst6 k6 f6 hpp hus nU s7
      walk_at "r"
      refine ⟨by omega, by omega, fun L nL => ?_⟩
      refine lc_rangeP (R := fun H v (b : Nat) => v = .int (b : Nat)) (fun _ _ _ _ _ h => h) (f := fun j => (ss[j]?).bind fun s => if wx = s.u ∨ wx = s.v then (if j ∈ st.map Prod.fst then none else some j) else none) nL (by omega) (fun j hj H' Q' N' s8 hyy hnn => ?_) fun H8 hl8 => ?_
      · have hj : j < xs.length := hj
        have hj : j < ss.length := by omega
        have hs : ss[j]? = some (ss[j]'hj) := List.getElem?_eq_getElem hj
        generalize ss[j]'hj = s at *
        obtain ⟨zs, hzs, izs⟩ := (hst7.same s8).get hs
        obtain ⟨pz, va2, vb2, vr2, rfl, hpz, _⟩ := id izs
        rw [Int.zero_add]
        walk_at "r"
        refine ⟨rfl, ?_⟩
        walk_at "r"
        refine rd_ixL (s8 _ _ hS7) (at_some hzs) ?_
        walk_at "r"
        refine ⟨_, _, rfl, .of hpz, (by show ¬ (HT.sIx 5 0 none = 0 ∧ HT.sIx 5 5 (some 2) = 5); decide), fun p2 n2 => ?_⟩
        have sm := same_upd (o := .tup (cutV [V.int (s.u : Nat), .int (s.v : Nat), va2, vb2, vr2] none (some 2))) n2
        refine ⟨_, _, rfl, .inr (.of upd_same), rfl, rfl, ?_⟩
        rw [show cutV [V.int (s.u : Nat), .int (s.v : Nat), va2, vb2, vr2] none (some 2) = [V.int (s.u : Nat), .int (s.v : Nat)] from rfl, stl_at_in, if_neg Bool.false_ne_true]
        by_cases c2 : wx = s.u ∨ wx = s.v
        · rw [show s.at wx = true from by unfold Stl.at; rcases c2 with z | z <;> simp [z]]
          walk_at "r"
          refine ⟨_, _, rfl, .inl (.of (sm _ _ (s8 _ _ hU7))), rfl, flat_intsH _, ?_⟩
          rw [in_intsH]
          by_cases c1 : j ∈ st.map Prod.fst
          · rw [decide_eq_true c1]
            walk_at "r"
            exact hnn _ (by simp only [hs, Option.bind_some, if_pos c2, if_pos c1]) sm
          · rw [decide_eq_false c1, show (if true = true then !false else false) = true from rfl]
            walk_at "r"
            exact hyy j _ _ (by simp only [hs, Option.bind_some, if_pos c2, if_neg c1]) sm rfl
        · rw [show s.at wx = false from by unfold Stl.at; simp [not_or.mp c2]]
          walk_at "r"
          exact hnn _ (by simp only [hs, Option.bind_some, if_neg c2]) sm
      obtain ⟨s8, ws, hL8, hws⟩ := hl8
      rw [show ((xs.length : Nat) : Int).toNat = ss.length from hlx] at hws
      generalize hbs : upTo (fun j => (ss[j]?).bind fun s => if wx = s.u ∨ wx = s.v then (if j ∈ st.map Prod.fst then none else some j) else none) ss.length = bs at hws
      have ebs := ints_of hws
      subst ebs
      have bmem : ∀ b ∈ bs, ∃ s, ss[b]? = some s ∧ ¬ b ∈ st.map Prod.fst ∧ (wx = s.u ∨ wx = s.v) := fun b hb => by
        rw [← hbs] at hb
        obtain ⟨j, hj, e⟩ := List.mem_filterMap.mp hb
        cases hs : ss[j]? with
        | none =>
          rw [hs] at e
          cases e
        | some s =>
          rw [hs, Option.bind_some] at e
          split at e
          · split at e
            · cases e
            · cases e
              exact ⟨s, hs, by assumption, by assumption⟩
          · cases e
      have lbs : bs.length ≤ 16 := by
        rw [← hbs]
        exact Nat.le_trans (upTo_lenH _ _) l16
      have llb : ((bs.map fun b : Nat => (b : Int)).map V.int).length = bs.length := by rw [List.length_map, List.length_map]
      have hP8 := s8 _ _ hP7
      have hS8 := s8 _ _ hS7
      have hst8 := hst7.same s8
      have k8 := k7.same s8
      have f8 := f7.trans (Same.fw s8)
      have LD : L ≠ D := k7.ne nL
      have LP : Pa ≠ L := ne_of_none hP7 nL
      have hpp8 := prs_ts (same_tps s8) hpp7
      clear hP7 hS7 hst7 k7 f7 hpp7 hws nL s8 hbs hU7
      walk_at "r"
      walk_at "if"
      · walk_at "r"
        exact q _ _ f8 (k8.mono (by omega)) (.inl rfl)
      · rename_i cb
        have lb0 : 0 < bs.length := by omega
        walk_at "r"
        refine ⟨_, _, _, _, rfl, ⟨by omega, by omega⟩, k8, by omega, fun H9 r9 w9 k9 a9 b9 => ?_⟩
        obtain ⟨rj, rfl⟩ := Int.eq_ofNat_of_zero_le a9
        have hrj : rj < bs.length := by omega
        have hbj : bs[rj]? = some (bs[rj]'hrj) := List.getElem?_eq_getElem hrj
        generalize bs[rj]'hrj = ix at *
        obtain ⟨s, hs, hnx, hwx⟩ := bmem ix (List.mem_of_getElem? hbj)
        have oks := hok s (List.mem_of_getElem? hs)
        have hLj : ((bs.map fun b : Nat => (b : Int)).map V.int)[rj]? = some (.int (ix : Nat)) := by rw [List.getElem?_map, List.getElem?_map, hbj]; rfl
        have z9 := k8.tps w9
        have hL9 := w9 _ _ LD hL8
        have hP9 := w9 _ _ PD hP8
        have hS9 := w9 _ _ SD hS8
        have hst9 := hst8.ts z9
        have f9 := f8.trans w9
        have hpp9 := prs_ts z9 hpp8
        clear hP8 hS8 hst8 f8 hpp8 hL8 k8
        refine rd_ixL hL9 (at_some hLj) ?_
        walk_at "r"
        refine ⟨Or.inl ⟨rfl, _, Or.inl (Or.inl hP9)⟩, ?_⟩
        walk_at "r"
        intro p8 n8'
        have sb := same_upd (o := .tup [V.int (ix : Nat), .int (wx : Nat)]) n8'
        have h8 : upd H9 p8 (.tup [V.int (ix : Nat), .int (wx : Nat)]) p8 = some (.tup [V.int (ix : Nat), .int (wx : Nat)]) := upd_same
        generalize upd H9 p8 (.tup [V.int (ix : Nat), .int (wx : Nat)]) = Hb at *
        have hPb := sb _ _ hP9
        have hSb := sb _ _ hS9
        have hstb := hst9.same sb
        have kb := k9.same sb
        have fb := f9.trans (Same.fw sb)
        have hppb := prs_ts (same_tps sb) hpp9
        walk_at "r"
        refine ⟨Pa, _, _, rfl, rfl, hPb, small1000 (by omega), ?_⟩
        have tp := tps_put (H1 := Hb) (o := .lst (vs6 ++ [V.ref p8])) hPb
        have fc : Fw D H (upd Hb Pa (.lst (vs6 ++ [V.ref p8]))) := fun b o hb h => (upd_ne (ne_of_none h nP0)).trans (fb _ _ hb h)
        have kc := kb.put (o := .lst (vs6 ++ [V.ref p8])) PD PC
        have hPc : upd Hb Pa (.lst (vs6 ++ [V.ref p8])) Pa = some (.lst (vs6 ++ [V.ref p8])) := upd_same
        have hSc := (upd_ne (o := .lst (vs6 ++ [V.ref p8])) (ne_of_none hS nP0)).trans hSb
        have hstc := hstb.ts tp
        have hppc : Paired (fun v (p : Nat × Nat) => ∃ q, v = .ref q ∧ upd Hb Pa (.lst (vs6 ++ [V.ref p8])) q = some (.tup [V.int (p.1 : Nat), .int (p.2 : Nat)])) (vs6 ++ [V.ref p8]) (st ++ [(ix, wx)]) := Paired.snoc (prs_ts tp hppb) ⟨p8, rfl, tp _ _ h8⟩
        have rb2 := rb.add hs hwx hnx
        generalize upd Hb Pa (.lst (vs6 ++ [V.ref p8])) = Hc at *
        clear hP9 hS9 hst9 f9 hpp9 hL9 k9 hPb hSb hstb kb fb hppb tp sb
        obtain ⟨zs, hzs, izs⟩ := hstc.get hs
        obtain ⟨pz, va2, vb2, vr2, rfl, hpz, _⟩ := id izs
        have eo : (((s.u : Nat) : Int) + ((s.v : Nat) : Int) - ((wx : Nat) : Int)) = ((s.other wx : Nat) : Int) := by
          unfold Stl.other
          rcases hwx with h | h
          · rw [if_pos h]
            omega
          · rw [if_neg (by rw [h]; exact Ne.symm oks.ne)]
            omega
        walk_at "r"
        refine rd_ixL hSc (at_some hzs) ?_
        walk_at "r"
        refine rd_ixL hSc (at_some hzs) ?_
        walk_at "r"
        rw [eo]
        have lvc := Paired.length hppc
        have lst2 : (st ++ [(ix, wx)]).length ≤ i + 1 := by
          rw [List.length_append]
          show st.length + 1 ≤ _
          omega
        generalize vs6 ++ [V.ref p8] = vs7 at *
        generalize st ++ [(ix, wx)] = st2 at *
        generalize s.other wx = wy at *
        refine ⟨by omega, by omega, fun B nB => ?_⟩
        refine lc_rangeP (R := fun H v (b : Nat) => v = .int (b : Nat)) (fun _ _ _ _ _ h => h) (f := fun j => (st2[j]?).bind fun p => if p.2 = wy then some j else none) nB (by omega) (fun j hj H' Q' N' sd hyy hnn => ?_) fun Hd hld => ?_
        · have hj : j < vs7.length := hj
          obtain ⟨y0, hy0⟩ : ∃ y, vs7[j]? = some y := ⟨_, List.getElem?_eq_getElem hj⟩
          obtain ⟨⟨i', w'⟩, hpi, pq, rfl, hpq⟩ := Paired.at hppc hy0
          have hpq2 := sd _ _ hpq
          rw [Int.zero_add]
          walk_at "r"
          refine ⟨rfl, ?_⟩
          walk_at "r"
          refine rd_ixL (sd _ _ hPc) (at_some hy0) ?_
          by_cases c3 : w' = wy
          · have c4 : ((w' : Nat) : Int) = ((wy : Nat) : Int) := by omega
            walk_at "r"
            exact hyy j _ _ (by simp only [hpi, Option.bind_some, if_pos c3]) (Same.refl _) rfl
          · have c4 : ¬ ((w' : Nat) : Int) = ((wy : Nat) : Int) := by omega
            walk_at "r"
            exact hnn _ (by simp only [hpi, Option.bind_some, if_neg c3]) (Same.refl _)
        obtain ⟨sd, ds, hBd, hds⟩ := hld
        rw [show ((vs7.length : Nat) : Int).toNat = vs7.length from Int.toNat_natCast _] at hds
        generalize hes : upTo (fun j => (st2[j]?).bind fun p => if p.2 = wy then some j else none) vs7.length = gs at hds
        have ees := ints_of hds
        subst ees
        have gmem : ∀ b ∈ gs, ∃ p, st2[b]? = some p ∧ p.2 = wy := fun b hb => by
          rw [← hes] at hb
          obtain ⟨j, hj, e⟩ := List.mem_filterMap.mp hb
          cases hs : st2[j]? with
          | none =>
            rw [hs] at e
            cases e
          | some p =>
            rw [hs, Option.bind_some] at e
            split at e
            · cases e
              exact ⟨p, hs, by assumption⟩
            · cases e
        have lgs : gs.length ≤ 16 := by
          rw [← hes]
          exact Nat.le_trans (upTo_lenH _ _) (by omega)
        have llg : ((gs.map fun b : Nat => (b : Int)).map V.int).length = gs.length := by rw [List.length_map, List.length_map]
        have hPd := sd _ _ hPc
        have kd := kc.same sd
        have fd := fc.trans (Same.fw sd)
        have hppd := prs_ts (same_tps sd) hppc
        have BD : B ≠ D := kc.ne nB
        clear hSc hstc hPc kc fc hppc nB sd hds hes
        walk_at "r"
        walk_at "if"
        · rename_i cg
          have lg0 : 0 < gs.length := by omega
          walk_at "r"
          refine ⟨_, _, _, _, rfl, ⟨by decide, by decide⟩, kd, by omega, fun He re we ke ae be => ?_⟩
          have ze := kd.tps we
          have hPe := we _ _ PD hPd
          have hBe := we _ _ BD hBd
          have fe := fd.trans we
          have hppe := prs_ts ze hppd
          walk_at "r"
          walk_at "if"
          · walk_at "r"
            refine ⟨_, _, _, _, rfl, ⟨by omega, by omega⟩, ke, by omega, fun Hf rf wf kf af bf => ?_⟩
            have zf := ke.tps wf
            have hPf := wf _ _ PD hPe
            have hBf := wf _ _ BD hBe
            have ff := fe.trans wf
            have hppf := prs_ts zf hppe
            obtain ⟨rg, rfl⟩ := Int.eq_ofNat_of_zero_le af
            have hrg : rg < gs.length := by omega
            have hgj : gs[rg]? = some (gs[rg]'hrg) := List.getElem?_eq_getElem hrg
            generalize gs[rg]'hrg = gb at *
            obtain ⟨pb, hpb, epb⟩ := gmem gb (List.mem_of_getElem? hgj)
            have hBj : ((gs.map fun b : Nat => (b : Int)).map V.int)[rg]? = some (.int (gb : Nat)) := by rw [List.getElem?_map, List.getElem?_map, hgj]; rfl
            refine rd_ixL hBf (at_some hBj) ?_
            walk_at "r"
            refine rd_slL (.of hPf) (fun p9 np9 => ?_)
            rw [cut_drop]
            have s9 := same_upd (o := .lst (vs7.drop gb)) np9
            have h9 : upd Hf p9 (.lst (vs7.drop gb)) p9 = some (.lst (vs7.drop gb)) := upd_same
            generalize upd Hf p9 (.lst (vs7.drop gb)) = Hg at *
            walk_at "r"
            refine ⟨_, _, rfl, .inl ⟨.of h9, fun l nl => ?_⟩⟩
            have sl := same_upd (o := .tup (vs7.drop gb)) nl
            have nl0 : H l = none := by
              cases e : H l with
              | none => rfl
              | some o =>
                have nD : l ≠ D := (kf.same s9).ne nl
                exact absurd ((s9 _ _ (ff _ _ nD e)).symm.trans nl) (by simp)
            refine q _ _ (ff.trans (Same.fw (s9.trans sl))) ((kf.same (s9.trans sl)).mono (by omega)) (.inr ⟨st2.drop gb, ⟨l, _, rfl, upd_same, ?_⟩, rb2.ring hpb epb, fun t e => ?_⟩)
            · exact prs_drop (prs_ts (same_tps (s9.trans sl)) hppf) gb
            · cases e
              exact nl0
          · walk_at "r"
            exact ⟨_, _, _, _, _, wy, vs7, st2, rfl, fe, ke.mono (by omega), hPe, hppe, rb2, lst2⟩
        · walk_at "r"
          exact ⟨_, _, _, _, _, wy, vs7, st2, rfl, fd, kd.mono (by omega), hPd, hppd, rb2, lst2⟩
    · rintro σ H6 ⟨t5, t6, t7, t9, t11, wx, vs6, st, rfl, f6, k6, hP6, hpp, rb, lst⟩
      walk_at "r"
      exact q _ _ f6 (k6.mono (by omega)) (.inl rfl)
end
end My
namespace My
open PySem PySem.Spec PyProof.Rows L2
/-! ### t[::-1] of a tuple -/
section
variable {prog : Program} {w : World} {A : Around} {E : Value → Shared → Prop} {s : Shared}
theorem adjust_back (n : Nat) : Builtin.Slice.sliceAdjust none none (-1) (n : Int) = ((n : Int) - 1, -1) := rfl
theorem places_back (n : Nat) : Builtin.Slice.slicePlaces ((n : Int) - 1) (-1) (-1) = n := by
  unfold Builtin.Slice.slicePlaces
  have h1 : ¬ ((-1 : Int) > 0) := by omega
  rw [if_neg h1]
  split
  · rw [show (-(-1) : Int) = 1 by rfl, Int.ediv_one]
    omega
  · omega
theorem sliceApplied_back {sl : Addr} {vs : Value} {n : Nat} {Q : Int × Int × Nat → Shared → Prop} (hs : s.heap.IsSliceOf sl .none .none vs) (ps : IsPart vs (some (-1)))
    (h : Q ((n : Int) - 1, -1, n) s) : wpAny (model prog w) A (Builtin.Slice.sliceApplied (.ref sl) (pure (n : Int))) Q E s := by
  obtain ⟨os, hos, hcs, hds⟩ := id hs
  unfold Builtin.Slice.sliceApplied Builtin.Slice.sliceFields
  refine wpAny_bind (wpAny_bind (wpAny_field hos hds (x := .none) rfl (wpAny_bind (wpAny_field hos hds (x := .none) rfl (wpAny_bind (wpAny_field hos hds (x := vs) rfl (wpAny_pure ?_)))))))
  refine wpAny_bind (HT.slicePart_ ps ?_)
  show wpAny _ _ (if ((-1 : Int) == 0) = true then _ else _) _ _ s
  rw [if_neg (by decide)]
  refine wpAny_bind (slicePart_none (wpAny_bind (slicePart_none (wpAny_bind (wpAny_pure ?_)))))
  show wpAny _ _ (match Builtin.Slice.sliceAdjust none none (-1) (n : Int) with | (lo, hi) => pure (lo, (-1 : Int), Builtin.Slice.slicePlaces lo hi (-1))) _ _ s
  rw [adjust_back n]
  show wpAny _ _ (pure ((n : Int) - 1, (-1 : Int), Builtin.Slice.slicePlaces ((n : Int) - 1) (-1) (-1))) _ _ s
  rw [places_back]
  exact wpAny_pure h
theorem fm_map {α β : Type} {f : α → Option β} {g : α → β} : ∀ {l : List α}, (∀ m ∈ l, f m = some (g m)) → l.filterMap f = l.map g
  | [], _ => rfl
  | a :: l, h => by
    rw [List.filterMap_cons, h a (by simp)]
    show _ :: _ = _ :: _
    rw [fm_map fun m hm => h m (by simp [hm])]
theorem pick_back (xs : Array Value) : ((List.range xs.size).filterMap fun (m : Nat) => xs[((xs.size : Int) - 1 + (m : Int) * (-1)).toNat]?).toArray = xs.toList.reverse.toArray := by
  congr 1
  apply List.ext_getElem?
  intro i
  have e : (List.range xs.size).filterMap (fun (m : Nat) => xs[((xs.size : Int) - 1 + (m : Int) * (-1)).toNat]?) = (List.range xs.size).map fun m => xs.toList.getD (xs.size - 1 - m) Value.none := by
    refine fm_map fun m hm => ?_
    have hm := List.mem_range.mp hm
    have : ((xs.size : Int) - 1 + (m : Int) * (-1)).toNat = xs.size - 1 - m := by omega
    rw [this, List.getD_eq_getElem?_getD, Array.getElem?_toList]
    have hlt : xs.size - 1 - m < xs.size := by omega
    rw [Array.getElem?_eq_getElem hlt]
    rfl
  rw [e, List.getElem?_map]
  by_cases hi : i < xs.size
  · rw [List.getElem?_range hi, List.getElem?_reverse (by simpa using hi)]
    simp only [Array.length_toList, Option.map_some, List.getD_eq_getElem?_getD]
    have hlt : xs.size - 1 - i < xs.size := by omega
    rw [Array.getElem?_toList, Array.getElem?_eq_getElem hlt]
    rfl
  · rw [List.getElem?_eq_none (by simpa using hi), List.getElem?_eq_none (by simpa using hi)]
    rfl
theorem getItem_tuple_back {t sl : Addr} {items : Array Value} {vs : Value} {Q : Value → Shared → Prop} (ht : IsTup s.heap t items) (hs : s.heap.IsSliceOf sl .none .none vs) (ps : IsPart vs (some (-1)))
    (h : Q (.ref s.heap.objs.size) { s with heap := s.heap.push { cls := .type "tuple", data := .seq items.toList.reverse.toArray } })
    (hsz : items.size ≤ sizeLine) : wpAny (model prog w) A (getItem (.ref t) (.ref sl)) Q E s := by
  have htake : sizeOk (.seq items.toList.reverse.toArray) := by
    show items.toList.reverse.toArray.size ≤ sizeLine
    rw [List.size_toArray, List.length_reverse, Array.length_toList]
    exact hsz
  obtain ⟨os, hos, hcs, hds⟩ := id hs
  have hTs : s.TypeIs (.ref sl) "slice" := ⟨os, hos, hcs⟩
  unfold getItem
  try with_reducible refine wpAny_holding ?_
  first | refine wpAny_bind (wpAny_pure ?_) | skip
  refine wpAny_bind (wpAny_sequenceKey ht.typeIs (by decide) ?_)
  refine wpAny_bind (wpAny_callSpecial?_slot (name := Str.ofString "__getitem__") ht.typeIs PyProof.Rows.slot_tuple_getitem
    (wpAny_call_entry PyProof.Rows.slot_tuple_getitem ht.typeIs entry_tuple_getitem ?_ (args_tuple_getitem _ _)))
  show wpAny _ _ (Builtin.Tuple.tupleItemsOf (.ref t) >>= _) _ _ s
  refine wpAny_bind (tupleItemsOf_ ht ?_)
  refine wpAny_bind (wpAny_typeOf hTs ?_)
  rw [if_pos (by decide)]
  refine wpAny_bind (sliceApplied_back hs ps ?_)
  show wpAny _ _ (if (((items.size : Int) - 1) == 0 && (-1 : Int) == 1 && items.size == items.size) = true then _ else _) _ _ s
  have hno : ¬ ((((items.size : Int) - 1) == 0 && (-1 : Int) == 1 && items.size == items.size) = true) := by
    intro q
    rw [Bool.and_eq_true, Bool.and_eq_true] at q
    exact absurd q.1.2 (by decide)
  rw [if_neg hno, pick_back]
  first
    | exact wpAny_bind (m := Builtin.Tuple.tupleExact _) (wpAny_newObj_type (wpAny_pure ⟨_, rfl, wpAny_pure h⟩) htake)
    | exact wpAny_bind (m := Builtin.Tuple.tupleExact _) (wpAny_newObj_type (wpAny_bind (wpAny_pure (wpAny_pure ⟨_, rfl, wpAny_pure h⟩))) htake)
    | exact wpAny_bind (wpAny_bind (m := Builtin.Tuple.tupleExact _) (wpAny_newObj_type (wpAny_pure (wpAny_pure ⟨_, rfl, wpAny_pure h⟩)) htake))
    | exact wpAny_bind (wpAny_bind (m := Builtin.Tuple.tupleExact _) (wpAny_newObj_type (wpAny_pure ⟨_, rfl, wpAny_pure h⟩) htake))
end
def tRevT (K : PySem.W.Frag) (te : TE) : TE := fun σ H Q => te σ H fun x H1 => ∃ a xs, x = .ref a ∧ SqT K H1 a xs ∧ ∀ p, H1 p = none → Q (.ref p) (upd H1 p (.tup xs.reverse))
theorem pe_revT {X : Cx} {e : Expr} {te : TE} {k : Nat} {p1 p2 p3 pos : Pos} (he : PE X e te) : PE X (.Subscript e (.Slice none none (some (.UnaryOp .USub (.Constant (.int 1) k p1) p2)) p3) pos) (tRevT X.K te) := by
  refine ⟨fun pins s σ H Q I h => ?_⟩
  refine Subscript_ (thn (he.run pins s σ H _ I h) fun v s1 ⟨x, H1, I1, r1, q1⟩ => ?_)
  obtain ⟨a, xs, ex, hx, q⟩ := q1
  subst ex
  cases r1
  have hst : PO X (some (.UnaryOp .USub (.Constant (.int 1) k p1) p2)) (tPart (tUn (rU fun i => .int (-i)) (tC (.int 1)))) := po_some (pe_un un_neg pe_int)
  refine wpAny_Slice (thn (po_none.run pins s1 σ H1 (fun o H2 => o = none ∧ H2 = H1) I1 ⟨rfl, rfl⟩) fun vl s2 ⟨l, H2, I2, pl, el, e2⟩ => ?_)
  subst el e2
  refine thn (po_none.run pins s2 σ H2 (fun o H3 => o = none ∧ H3 = H2) I2 ⟨rfl, rfl⟩) fun vu s3 ⟨u, H3, I3, pu, eu, e3⟩ => ?_
  subst eu e3
  refine thn (hst.run pins s3 σ H3 (fun o H4 => o = some (-1) ∧ H4 = H3) I3 ⟨1, rfl, -1, rfl, rfl, rfl⟩) fun vs s4 ⟨o, H4, I4, ps, eo, e4⟩ => ?_
  subst eo e4
  cases pl
  cases pu
  have I5 : Inv X pins σ H4 { s4 with heap := s4.heap.push { cls := .type "slice", data := .fields #[.none, .none, vs] } } := I4.kept (t' := s4.toks) fun b ob q => Heap.get?_push_of_some _ q
  obtain ⟨its, r, ht, hz⟩ := I5.tuple hx
  have hlen := r.length
  show wpAny (model X.prog X.w) X.A (subscriptTail e (.Slice none none (some (.UnaryOp .USub (.Constant (.int 1) k p1) p2)) p3) (.ref a) (.ref s4.heap.objs.size)) (EP X pins σ Q) X.xe { s4 with heap := s4.heap.push { cls := .type "slice", data := .fields #[.none, .none, vs] } }
  refine tail_any (ops := [.ref a, .ref s4.heap.objs.size]) ht.typeIs (PyProof.Rows.slot_tuple_getitem.lookup) ?_ (by with_unfolding_all rfl)
  refine getItem_tuple_back ht (Heap.IsSliceOf.new _ .none .none vs) ps ?_ (by rw [List.size_toArray]; omega)
  refine ⟨.ref _, _, I5.laid (t' := s4.toks) (o := .tup xs.reverse) (fun b ob q => Heap.get?_push_of_some _ q) (Nat.le_refl _) ?_, rfl, q _ (I5.hok.fresh (Nat.le_refl _))⟩
  exact ⟨by rw [List.length_reverse]; exact hz, _, r.reverse, IsTup.new _ _⟩
variable {K : PySem.W.Frag}
theorem rd_revT {te : TE} {σ : L2.St} {H : Hp} {Q : VK} (h : te σ H fun x H1 => ∃ a xs, x = .ref a ∧ SqT K H1 a xs ∧ ∀ p, H1 p = none → Q (.ref p) (upd H1 p (.tup xs.reverse))) : tRevT K te σ H Q := h
end My
namespace My
open PySem PySem.Spec PyProof.Rows L2
variable {K : PySem.W.Frag}
/-! ### where the stalls fit, a ring is even -/
theorem fit_ring {ss : List Stl} {sc : Nat → Rat} {n : Nat} {st : List (Nat × Nat)} (hsc : ∀ i, 0 < sc i) (hf : ∀ s ∈ ss, FitSc sc s) (hok : ∀ s ∈ ss, OkSt n s) (r : Rng ss st) : ¬ Unev ss st := by
  have step : ∀ p ∈ st, ∀ s, ss[p.1]? = some s → hdP ss p * (sc p.2 * sc p.2) = tlP ss p * (sc (s.other p.2) * sc (s.other p.2)) := fun p hp s hs => by
    obtain ⟨s2, hs2, hw⟩ := r.rt.mem p hp
    have e : s2 = s := Option.some.inj (hs2.symm.trans hs)
    subst e
    have hm := List.mem_of_getElem? hs2
    obtain ⟨f1, f2⟩ := hf _ hm
    have ok := hok _ hm
    have pu := hsc s2.u
    have pv' := hsc s2.v
    have nu := ne_of_pos pu
    have nv := ne_of_pos pv'
    have e1 : s2.a * sc s2.u = s2.r * sc s2.v := by
      rw [f1, Rat.mul_assoc, Rat.div_mul_cancel nu]
    have e2 : s2.b * sc s2.v = s2.r * sc s2.u := by
      rw [f2, Rat.div_def, Rat.div_def, Rat.inv_mul_rev, Rat.inv_inv]
      rw [show s2.r * (sc s2.u * (sc s2.v)⁻¹) * sc s2.v = s2.r * sc s2.u * ((sc s2.v)⁻¹ * sc s2.v) by grind, Rat.inv_mul_cancel _ nv, Rat.mul_one]
    unfold hdP tlP
    rw [hs2]
    show s2.hold p.2 * _ = s2.hold (s2.other p.2) * _
    rcases hw with h | h
    · rw [h, show s2.other s2.u = s2.v from if_pos rfl, show s2.hold s2.u = s2.a from if_pos rfl, show s2.hold s2.v = s2.b from if_neg (Ne.symm ok.ne)]
      grind
    · rw [h, show s2.other s2.v = s2.u from if_neg (Ne.symm ok.ne), show s2.hold s2.u = s2.a from if_pos rfl, show s2.hold s2.v = s2.b from if_neg (Ne.symm ok.ne)]
      grind
  have l0 := r.rt.ne
  obtain ⟨p0, h0⟩ : ∃ p, st[0]? = some p := ⟨_, List.getElem?_eq_getElem l0⟩
  have tele : ∀ i, i < st.length → ∀ p s, st[i]? = some p → ss[p.1]? = some s → prodR ((st.take (i + 1)).map (hdP ss)) * (sc p0.2 * sc p0.2) = prodR ((st.take (i + 1)).map (tlP ss)) * (sc (s.other p.2) * sc (s.other p.2)) := by
    intro i
    induction i with
    | zero =>
      intro _ p s hp hs
      rw [h0] at hp
      cases hp
      rw [prod_take h0, prod_take h0]
      show 1 * hdP ss p0 * _ = 1 * tlP ss p0 * _
      rw [Rat.one_mul, Rat.one_mul]
      exact step p0 (List.mem_of_getElem? h0) s hs
    | succ i ih =>
      intro hi p s hp hs
      obtain ⟨q, hq⟩ : ∃ q, st[i]? = some q := ⟨_, List.getElem?_eq_getElem (by omega)⟩
      obtain ⟨s2, hs2, _⟩ := r.rt.mem q (List.mem_of_getElem? hq)
      have h1 := ih (by omega) q s2 hq hs2
      have h2 := step p (List.mem_of_getElem? hp) s hs
      have h3 : s2.other q.2 = p.2 := r.rt.ch i q p s2 hq hp hs2
      rw [h3] at h1
      rw [prod_take hp, prod_take hp]
      grind
  obtain ⟨p1, h1⟩ : ∃ p, st[st.length - 1]? = some p := ⟨_, List.getElem?_eq_getElem (by omega)⟩
  obtain ⟨s1, hs1, _⟩ := r.rt.mem p1 (List.mem_of_getElem? h1)
  have t := tele (st.length - 1) (by omega) p1 s1 h1 hs1
  rw [r.cl p1 p0 s1 h1 h0 hs1, show st.length - 1 + 1 = st.length by omega, List.take_length] at t
  have nz : sc p0.2 * sc p0.2 ≠ 0 := ne_of_pos (Rat.mul_pos (hsc _) (hsc _))
  intro u
  refine u ?_
  have h : ∀ a b c : Rat, c ≠ 0 → a * c = b * c → a = b := fun a b c hc e => by
    rw [← Rat.mul_one a, ← Rat.mul_one b, ← Rat.mul_inv_cancel c hc, ← Rat.mul_assoc, ← Rat.mul_assoc, e]
  exact h _ _ _ nz t
theorem prs_rev {α : Type} {R : V → α → Prop} {vs : List V} {st : List α} (h : Paired R vs st) : Paired R vs.reverse st.reverse := by
  induction h with
  | nil => exact .nil
  | cons h t ih =>
    rw [List.reverse_cons, List.reverse_cons]
    exact Paired.snoc ih h
section
variable {P : Program} {w : World} {K : PySem.W.Frag} {mg : Str → Option Value} {base : Heap} {f_is_integer f_is_row f_is_fraction f_is_some f_multiplied f_squared f_is_stall f_across f_hold_of f_is_index f_is_step f_end_of f_is_walk f_is_ring f_is_uneven f_is_uneven_ring f_l_hand f_l_draw f_l_gcd f_l_frac f_l_times f_l_over f_l_some f_l_shuffled f_l_stall f_l_stalls f_l_sizes f_l_whole f_l_is_flag f_l_is_uneven f_l_ring f_l_back f_l_bent f_law f_Web_init f_Web_eq c_Web c_ONE : Addr} {d_is_integer d_is_row d_is_fraction d_is_some d_multiplied d_squared d_is_stall d_across d_hold_of d_is_index d_is_step d_end_of d_is_walk d_is_ring d_is_uneven d_is_uneven_ring d_l_hand d_l_draw d_l_gcd d_l_frac d_l_times d_l_over d_l_some d_l_shuffled d_l_stall d_l_stalls d_l_sizes d_l_whole d_l_is_flag d_l_is_uneven d_l_ring d_l_back d_l_bent d_law d_Web_init d_Web_eq : FuncData}
def sp_lback (K : PySem.W.Frag) : Sp := fun vs H Q _ => ∃ (S : Addr) (v : V) (n : Nat) (xs : List V) (ss : List Stl) (st : List (Nat × Nat)), vs = [.ref S, v] ∧ H S = some (.lst xs) ∧ Sts K H xs ss ∧ IsRt K H v st ∧ Rng ss st ∧ ss.length ≤ 16 ∧ (∀ s ∈ ss, OkSt n s) ∧ ∀ H' v', Same H H' → IsRt K H' v' (bk ss st) → (∀ t, v' = .ref t → H t = none) → Q v' H'
theorem ok_l_back (T : Txt K mg f_is_integer f_is_row f_is_fraction f_is_some f_multiplied f_squared f_is_stall f_across f_hold_of f_is_index f_is_step f_end_of f_is_walk f_is_ring f_is_uneven f_is_uneven_ring f_l_hand f_l_draw f_l_gcd f_l_frac f_l_times f_l_over f_l_some f_l_shuffled f_l_stall f_l_stalls f_l_sizes f_l_whole f_l_is_flag f_l_is_uneven f_l_ring f_l_back f_l_bent f_law f_Web_init f_Web_eq c_Web c_ONE d_is_integer d_is_row d_is_fraction d_is_some d_multiplied d_squared d_is_stall d_across d_hold_of d_is_index d_is_step d_end_of d_is_walk d_is_ring d_is_uneven d_is_uneven_ring d_l_hand d_l_draw d_l_gcd d_l_frac d_l_times d_l_over d_l_some d_l_shuffled d_l_stall d_l_stalls d_l_sizes d_l_whole d_l_is_flag d_l_is_uneven d_l_ring d_l_back d_l_bent d_law d_Web_init d_Web_eq) : FnOk P w K mg base CX0 1 f_l_back d_l_back ["_law_stalls_here", "_law_ring_here"] (sp_lback K) := by
  refine T.F_l_back.ok sc_l_back (fun vs H Q E h => ?_) (fun cdv A outer sh H vs Q E hr h => ?_)
  · obtain ⟨S, v, n, xs, ss, st, rfl, _⟩ := h
    rfl
  · obtain ⟨S, v, n, xs, ss, st, rfl, hS, hst, ⟨tw, vw, rfl, htw, hpw⟩, rg, l16, hok, q⟩ := h
    refine ⟨_, (pss_cons (ps_set (i := 2) sc_l_back.nd rfl (by first | exact Or.inl rfl | exact Or.inr rfl) (pe_lst pa_nil))
      (pss_cons (ps_for PassesOwn.never rfl (pi_tup (My.pe_revT (pv 1))) (pg_tup rfl (pgs_cons (pg_name (i := 3) sc_l_back.nd rfl (by first | exact Or.inl rfl | exact Or.inr rfl)) (pgs_cons (pg_name (i := 4) sc_l_back.nd rfl (by first | exact Or.inl rfl | exact Or.inr rfl)) pgs_nil)))
        (pss_one (ps_expr (pe_bm PySem.F.plainAttrs_list PySem.F.slot_list_append PySem.F.type_list_append mt_append (pv 2) (pa_cons (pe_tup (pa_cons (pv 3) (pa_cons (pe_op op_sub (pe_op op_add (pe_ix ix_tup (pe_ix ix_list (pv 0) (pv 3) (fun _ _ => rfl)) pe_int (fun _ _ => rfl)) (pe_ix ix_tup (pe_ix ix_list (pv 0) (pv 3) (fun _ _ => rfl)) pe_int (fun _ _ => rfl))) (pv 4)) pa_nil))) pa_nil)))))
      (pss_one (ps_ret (pe_callTy call_tuple_of (by rfl) T.z_tuple (by decide +kernel) (pa_cons (pv 2) pa_nil)))))), ?_⟩
    walk_at "r"
    intro Fa nF
    have s1 := same_upd (o := .lst ([] : List V)) nF
    have hF : upd H Fa (.lst []) Fa = some (.lst []) := upd_same
    generalize upd H Fa (.lst []) = H1 at *
    walk_at "r"
    refine rd_revT ?_
    walk_at "r"
    refine ⟨tw, vw, rfl, .of (s1 _ _ htw), fun rv nrv => ?_⟩
    have s2 := same_upd (o := .tup vw.reverse) nrv
    have hrv : upd H1 rv (.tup vw.reverse) rv = some (.tup vw.reverse) := upd_same
    have k2 := s1.trans s2
    have hF2 := s2 _ _ hF
    have rF : rv ≠ Fa := fun e => by
      rw [e, hF] at nrv
      cases nrv
    generalize upd H1 rv (.tup vw.reverse) = H2 at *
    have hpr := prs_rev hpw
    have lv := Paired.length hpr
    have lrt := rg.rt.len
    rw [List.length_reverse, List.length_reverse] at lv
    refine ⟨rv, rfl, ⟨_, .of hrv⟩, ?_⟩
    refine for_tup (K := K) (a := rv) (xs := vw.reverse) (fun i σ H' => ∃ (t3 t4 : Option V) (fs : List V), σ = [some (.ref S), some (.ref tw), some (.ref Fa), t3, t4] ∧ Same H H' ∧ H' rv = some (.tup vw.reverse) ∧ H' Fa = some (.lst fs) ∧ Paired (fun v (p : Nat × Nat) => ∃ q, v = .ref q ∧ H' q = some (.tup [V.int (p.1 : Nat), .int (p.2 : Nat)])) fs (((st.reverse).take i).map (flipP ss))) ?_ ?_ ?_ ?_
    · exact ⟨_, _, [], rfl, k2, hrv, hF2, .nil⟩
    · rintro i σ H' _ ⟨t3, t4, fs, rfl, s3, hrv3, _⟩
      exact .of hrv3
    · rintro i v σ H' hx ⟨t3, t4, fs, rfl, s3, hrv3, hF3, hpf⟩
      have hi := (List.getElem?_eq_some_iff.mp hx).1
      rw [List.length_reverse] at hi
      obtain ⟨⟨ix, wn⟩, hp0, q0, rfl, hq0⟩ := Paired.at hpr hx
      obtain ⟨s, hs, hwn⟩ := rg.rt.mem _ (List.mem_reverse.mp (List.mem_of_getElem? hp0))
      have oks := hok s (List.mem_of_getElem? hs)
      obtain ⟨zs, hzs, izs⟩ := (hst.same s3).get hs
      obtain ⟨pz, va2, vb2, vr2, rfl, hpz, _⟩ := id izs
      have hS3 := s3 _ _ hS
      have hq3 := s3 _ _ hq0
      have lfs := Paired.length hpf
      rw [List.length_map, List.length_take] at lfs
      have eo : (((s.u : Nat) : Int) + ((s.v : Nat) : Int) - ((wn : Nat) : Int)) = ((s.other wn : Nat) : Int) := by
        unfold Stl.other
        rcases hwn with h | h
        · have h : wn = s.u := h
          rw [if_pos h]
          omega
        · have h : wn = s.v := h
          rw [if_neg (by rw [h]; exact Ne.symm oks.ne)]
          omega
      have efl : flipP ss (ix, wn) = (ix, s.other wn) := by
        unfold flipP
        rw [hs]
      walk_at "r"
      refine ⟨Or.inl ⟨rfl, _, Or.inl (Or.inl hF3)⟩, ?_⟩
      walk_at "r"
      refine rd_ixL hS3 (at_some hzs) ?_
      walk_at "r"
      refine rd_ixL hS3 (at_some hzs) ?_
      walk_at "r"
      rw [eo]
      intro p8 n8'
      have sb := same_upd (o := .tup [V.int (ix : Nat), .int (s.other wn : Nat)]) n8'
      have h8 : upd H' p8 (.tup [V.int (ix : Nat), .int (s.other wn : Nat)]) p8 = some (.tup [V.int (ix : Nat), .int (s.other wn : Nat)]) := upd_same
      generalize upd H' p8 (.tup [V.int (ix : Nat), .int (s.other wn : Nat)]) = Hb at *
      have hFb := sb _ _ hF3
      walk_at "r"
      refine ⟨Fa, _, _, rfl, rfl, hFb, small1000 (by omega), ?_⟩
      have tp := tps_put (H1 := Hb) (o := .lst (fs ++ [V.ref p8])) hFb
      refine ⟨_, _, fs ++ [V.ref p8], rfl, same_putH (s3.trans sb) nF, (upd_ne rF).trans (sb _ _ hrv3), upd_same, ?_⟩
      rw [take_at hp0, List.map_append]
      show Paired _ _ (_ ++ [flipP ss (ix, wn)])
      rw [efl]
      exact Paired.snoc (prs_ts tp (prs_ts (same_tps sb) hpf)) ⟨p8, rfl, tp _ _ h8⟩
    · rintro σ H' ⟨t3, t4, fs, rfl, s3, hrv3, hF3, hpf⟩
      rw [List.length_reverse, lv, ← List.length_reverse (as := st), List.take_length] at hpf
      walk_at "r"
      refine ⟨_, _, rfl, .inl ⟨.of hF3, fun l nl => ?_⟩⟩
      have sl := same_upd (o := .tup fs) nl
      refine q _ _ (s3.trans sl) ⟨l, fs, rfl, upd_same, prs_ts (same_tps sl) hpf⟩ fun t e => ?_
      cases e
      exact s3.free nl
end
end My
namespace My
open PySem PySem.Spec PyProof.Rows L2
variable {K : PySem.W.Frag}
/-! ### rings with one thing changed -/
theorem Hnd.tne {M c : Nat} {D C p : Addr} {H : Hp} {xs : List V} (d : Hnd M D C H c) (h : H p = some (.tup xs)) : p ≠ D := by
  obtain ⟨cells, pos, rest, acc, cnt, n, h1, _⟩ := d
  intro e
  rw [e, h1] at h
  cases h
theorem JTh.fw {D : Addr} {H H' : Hp} {v : V} {o : Option (List (Option (Int × Int)))} (j : JTh K D H v o) (f : Fw D H H') : JTh K D H' v o := by
  rcases j with ⟨p, xs, es, e, n, h, hp, hl, e2⟩ | ⟨i | ⟨od, h⟩, e⟩
  · exact .inl ⟨p, xs, es, e, n, f _ _ n h, Paired.mapP hp fun _ _ h => h.fw f, hl, e2⟩
  · exact .inr ⟨.inl i, e⟩
  · refine .inr ⟨.inr ⟨od.fw f, fun p xs e z => ?_⟩, e⟩
    subst e
    cases od with
    | lst n h3 =>
      rw [f _ _ n h3] at z
      cases z
    | tup n h3 => exact h _ _ rfl h3
    | dK n h3 =>
      rw [f _ _ n h3] at z
      cases z
    | ins n h3 c =>
      rw [f _ _ n h3] at z
      cases z
/-- a thing of any kind, alone and as an element -/
def Oth (K : PySem.W.Frag) (D : Addr) (H : Hp) (v : V) : Prop := (∃ o, JI K D H v o) ∧ ∃ e, JE K D H v e
theorem Oth.fw {D : Addr} {H H' : Hp} {v : V} (j : Oth K D H v) (f : Fw D H H') : Oth K D H' v := ⟨j.1.elim fun o h => ⟨o, h.fw f⟩, j.2.elim fun e h => ⟨e, h.fw f⟩⟩
theorem oth_int {D : Addr} {H : Hp} (i : Int) : Oth K D H (.int i) := ⟨⟨_, .inl ⟨i, rfl, rfl⟩⟩, ⟨_, .inr ⟨.inl ⟨i, rfl⟩, rfl⟩⟩⟩
theorem oth_non {D : Addr} {H : Hp} : Oth K D H .non := ⟨⟨_, .inr ⟨.non, rfl⟩⟩, ⟨_, .inr ⟨.inr ⟨.non, fun p xs e => by cases e⟩, rfl⟩⟩⟩
theorem oth_bl {D : Addr} {H : Hp} (b : Bool) : Oth K D H (.bl b) := ⟨⟨_, .inr ⟨.bl b, rfl⟩⟩, ⟨_, .inr ⟨.inr ⟨.bl b, fun p xs e => by cases e⟩, rfl⟩⟩⟩
theorem oth_str {D : Addr} {H : Hp} (s : Str) : Oth K D H (.str s) := ⟨⟨_, .inr ⟨.str s, rfl⟩⟩, ⟨_, .inr ⟨.inr ⟨.str s, fun p xs e => by cases e⟩, rfl⟩⟩⟩
theorem oth_tup {D p : Addr} {H : Hp} {xs : List V} (n : p ≠ D) (h : H p = some (.tup xs)) (l : xs.length ≠ 2) : Oth K D H (.ref p) := ⟨⟨_, .inr ⟨.tup n h, rfl⟩⟩, ⟨_, .inr ⟨.inr ⟨.tup n h, fun q ys e z => by
  cases e
  rw [h] at z
  cases z
  exact l⟩, rfl⟩⟩⟩
theorem je_tup {D p : Addr} {H : Hp} {xs : List V} (n : p ≠ D) (h : H p = some (.tup xs)) (l : xs.length ≠ 2) : ∃ e, JE K D H (.ref p) e := (oth_tup n h l).2
theorem je_lst {D p : Addr} {H : Hp} {xs : List V} (n : p ≠ D) (h : H p = some (.lst xs)) : ∃ e, JE K D H (.ref p) e := ⟨_, .inr ⟨.inr ⟨.lst n h, fun q ys e z => by
  cases e
  rw [h] at z
  cases z⟩, rfl⟩⟩
theorem je_two {D p : Addr} {H : Hp} {x y : V} (n : p ≠ D) (h : H p = some (.tup [x, y])) (hx : Oth K D H x) (hy : Oth K D H y) : ∃ e, JE K D H (.ref p) e := by
  obtain ⟨⟨a, ha⟩, _⟩ := hx
  obtain ⟨⟨b, hb⟩, _⟩ := hy
  exact ⟨_, .inl ⟨p, x, y, a, b, rfl, n, h, ha, hb, rfl⟩⟩
theorem je_up {M c : Nat} {D C : Addr} {H : Hp} {vs : List V} {st : List (Nat × Nat)} (d : Hnd M D C H c) (h : Paired (fun v (p : Nat × Nat) => ∃ q, v = .ref q ∧ H q = some (.tup [V.int (p.1 : Nat), .int (p.2 : Nat)])) vs st) : Paired (JE K D H) vs (st.map upE) := by
  induction h with
  | nil => exact .nil
  | cons h t ih =>
    obtain ⟨q, rfl, hq⟩ := h
    exact .cons (.inl ⟨q, _, _, _, _, rfl, d.tne hq, hq, .inl ⟨_, rfl, rfl⟩, .inl ⟨_, rfl, rfl⟩, rfl⟩) ih
/-- a row of elements, whatever they are -/
def Els (K : PySem.W.Frag) (D : Addr) (H : Hp) (xs : List V) : Prop := ∃ es, Paired (JE K D H) xs es
theorem Els.fw {D : Addr} {H H' : Hp} {xs : List V} (j : Els K D H xs) (f : Fw D H H') : Els K D H' xs := j.elim fun es h => ⟨es, Paired.mapP h fun _ _ h => h.fw f⟩
theorem Els.app {D : Addr} {H : Hp} {xs ys : List V} (a : Els K D H xs) (b : Els K D H ys) : Els K D H (xs ++ ys) := by
  obtain ⟨es, ha⟩ := a
  obtain ⟨fs, hb⟩ := b
  refine ⟨es ++ fs, ?_⟩
  induction ha with
  | nil => exact hb
  | cons h t ih => exact .cons h ih
theorem Els.one {D : Addr} {H : Hp} {x : V} (a : ∃ e, JE K D H x e) : Els K D H [x] := a.elim fun e h => ⟨[e], .cons h .nil⟩
theorem els_mem {D : Addr} {H : Hp} : ∀ {xs : List V}, (∀ x ∈ xs, ∃ e, JE K D H x e) → Els K D H xs
  | [], _ => ⟨[], .nil⟩
  | x :: xs, h => by
    obtain ⟨e, he⟩ := h x List.mem_cons_self
    obtain ⟨es, hes⟩ := els_mem fun y hy => h y (List.mem_cons_of_mem _ hy)
    exact ⟨e :: es, .cons he hes⟩
theorem Els.mem {D : Addr} {H : Hp} {xs : List V} (h : Els K D H xs) : ∀ x ∈ xs, ∃ e, JE K D H x e := by
  obtain ⟨es, h⟩ := h
  induction h with
  | nil => intro x hx; cases hx
  | cons h t ih =>
    intro x hx
    rcases List.mem_cons.mp hx with rfl | hx
    · exact ⟨_, h⟩
    · exact ih x hx
theorem Els.sub {D : Addr} {H : Hp} {xs ys : List V} (h : Els K D H xs) (s : ∀ y ∈ ys, y ∈ xs) : Els K D H ys := els_mem fun y hy => h.mem y (s y hy)
theorem jth_tup {D p : Addr} {H : Hp} {xs : List V} (n : p ≠ D) (h : H p = some (.tup xs)) (e : Els K D H xs) (l : xs.length ≤ 60) : ∃ o, JTh K D H (.ref p) o := e.elim fun es he => ⟨_, .inl ⟨p, xs, es, rfl, n, h, he, l, rfl⟩⟩
theorem jth_lst {D p : Addr} {H : Hp} {xs : List V} (n : p ≠ D) (h : H p = some (.lst xs)) : ∃ o, JTh K D H (.ref p) o := ⟨_, .inr ⟨.inr ⟨.lst n h, fun q ys e z => by
  cases e
  rw [h] at z
  cases z⟩, rfl⟩⟩
theorem jth_dK {D p : Addr} {H : Hp} {kvs : List (Key × V)} (n : p ≠ D) (h : H p = some (.dK kvs)) : ∃ o, JTh K D H (.ref p) o := ⟨_, .inr ⟨.inr ⟨.dK n h, fun q ys e z => by
  cases e
  rw [h] at z
  cases z⟩, rfl⟩⟩
theorem jth_int {D : Addr} {H : Hp} (i : Int) : ∃ o, JTh K D H (.int i) o := ⟨_, .inr ⟨.inl ⟨i, rfl⟩, rfl⟩⟩
theorem jth_non {D : Addr} {H : Hp} : ∃ o, JTh K D H .non o := ⟨_, .inr ⟨.inr ⟨.non, fun p xs e => by cases e⟩, rfl⟩⟩
theorem jth_bl {D : Addr} {H : Hp} (b : Bool) : ∃ o, JTh K D H (.bl b) o := ⟨_, .inr ⟨.inr ⟨.bl b, fun p xs e => by cases e⟩, rfl⟩⟩
theorem jth_str {D : Addr} {H : Hp} (s : Str) : ∃ o, JTh K D H (.str s) o := ⟨_, .inr ⟨.inr ⟨.str s, fun p xs e => by cases e⟩, rfl⟩⟩
def Ths (K : PySem.W.Frag) (D : Addr) (H : Hp) (xs : List V) : Prop := ∀ v ∈ xs, ∃ o, JTh K D H v o
theorem Ths.fw {D : Addr} {H H' : Hp} {xs : List V} (j : Ths K D H xs) (f : Fw D H H') : Ths K D H' xs := fun v hv => (j v hv).elim fun o h => ⟨o, h.fw f⟩
theorem Ths.app {D : Addr} {H : Hp} {xs ys : List V} (a : Ths K D H xs) (b : Ths K D H ys) : Ths K D H (xs ++ ys) := fun v hv => (List.mem_append.mp hv).elim (a v) (b v)
theorem Ths.cons {D : Addr} {H : Hp} {x : V} {xs : List V} (b : Ths K D H xs) (a : ∃ o, JTh K D H x o) : Ths K D H (x :: xs) := fun v hv => (List.mem_cons.mp hv).elim (fun e => e ▸ a) (b v)
theorem Ths.nil {D : Addr} {H : Hp} : Ths K D H [] := fun v hv => by cases hv
theorem cut_mem {xs : List V} {lo hi : Option Int} {y : V} (h : y ∈ cutV xs lo hi) : y ∈ xs := by
  unfold cutV at h
  exact List.mem_of_mem_drop (List.mem_of_mem_take h)
theorem rd_slAH {H : Hp} {a : Addr} {xs : List V} {lo hi : Option Int} {Q : VK} (ha : H a = some (.tup xs)) (q : ∀ p H', Same H H' → H' p = some (.tup (cutV xs lo hi)) → Q (.ref p) H') : rSlA K (.ref a) lo hi H Q :=
  ⟨a, xs, rfl, .of ha, fun w => q a H (Same.refl _) (by
    have e : cutV xs lo hi = xs := by
      unfold cutV
      rw [w.1, w.2]
      simp
    rw [e]
    exact ha), fun _ p np => q p _ (same_upd np) upd_same⟩
theorem je_ring {M c : Nat} {D C tw : Addr} {H : Hp} {vs : List V} {st : List (Nat × Nat)} (d : Hnd M D C H c) (ht : H tw = some (.tup vs)) (h : Paired (fun v (p : Nat × Nat) => ∃ q, v = .ref q ∧ H q = some (.tup [V.int (p.1 : Nat), .int (p.2 : Nat)])) vs st) : ∃ e, JE K D H (.ref tw) e := by
  by_cases l : vs.length = 2
  · obtain ⟨x, y, rfl⟩ : ∃ x y, vs = [x, y] := by
      match vs, l with
      | [x, y], _ => exact ⟨x, y, rfl⟩
    have o : ∀ (i : Nat) (z : V), [x, y][i]? = some z → JI K D H z none := fun i z hz => by
      obtain ⟨p, _, q, rfl, hq⟩ := Paired.at h hz
      exact .inr ⟨.tup (d.tne hq) hq, rfl⟩
    exact ⟨_, .inl ⟨tw, x, y, none, none, rfl, d.tne ht, ht, o 0 x rfl, o 1 y rfl, rfl⟩⟩
  · exact je_tup (d.tne ht) ht l
structure Bn (K : PySem.W.Frag) (M : Nat) (D C tw : Addr) (vw : List V) (c k : Nat) (H0 H : Hp) (os ps ts : List V) : Prop where
  fw : Fw D H0 H
  dk : Hnd M D C H (c + k)
  hr : H tw = some (.tup vw)
  els : Els K D H vw
  os : ∀ v ∈ os, Oth K D H v
  ps : ∀ v ∈ ps, ∃ e, JE K D H v e
  ts : Ths K D H ts
section
variable {M c k : Nat} {D C tw : Addr} {vw os ps ts : List V} {H0 H H' : Hp}
theorem Bn.t1 {k1 : Nat} (h : Bn K M D C tw vw c k H0 H os ps ts) (d0 : Hnd M D C H0 k1) (b : Addr) (xs : List V) (hb : H0 b = some (.tup xs)) : H b = some (.tup xs) := h.fw _ _ (d0.tne hb) hb
theorem Bn.go {r : Nat} (g : Bn K M D C tw vw c k H0 H os ps ts) (f : Fw D H H') (d : Hnd M D C H' (c + k + r)) : Bn K M D C tw vw c (k + r) H0 H' os ps ts :=
  ⟨g.fw.trans f, by rw [← Nat.add_assoc]; exact d, g.dk.tps f _ _ g.hr, g.els.fw f, fun v hv => (g.os v hv).fw f, fun v hv => (g.ps v hv).elim fun e h => ⟨e, h.fw f⟩, g.ts.fw f⟩
theorem Bn.same (g : Bn K M D C tw vw c k H0 H os ps ts) (s : Same H H') : Bn K M D C tw vw c k H0 H' os ps ts := g.go (r := 0) (Same.fw s) (g.dk.same s)
theorem Bn.addo {v : V} (g : Bn K M D C tw vw c k H0 H os ps ts) (h : Oth K D H v) : Bn K M D C tw vw c k H0 H (v :: os) ps ts := ⟨g.fw, g.dk, g.hr, g.els, fun y hy => (List.mem_cons.mp hy).elim (fun e => e ▸ h) (g.os y), g.ps, g.ts⟩
theorem Bn.addp {v : V} (g : Bn K M D C tw vw c k H0 H os ps ts) (h : ∃ e, JE K D H v e) : Bn K M D C tw vw c k H0 H os (v :: ps) ts := ⟨g.fw, g.dk, g.hr, g.els, g.os, fun y hy => (List.mem_cons.mp hy).elim (fun e => e ▸ h) (g.ps y), g.ts⟩
theorem Bn.addt {v : V} (g : Bn K M D C tw vw c k H0 H os ps ts) (h : ∃ o, JTh K D H v o) : Bn K M D C tw vw c k H0 H os ps (v :: ts) := ⟨g.fw, g.dk, g.hr, g.els, g.os, g.ps, g.ts.cons h⟩
theorem Bn.setos {qs : List V} (g : Bn K M D C tw vw c k H0 H os ps ts) (h : ∀ v ∈ qs, Oth K D H v) : Bn K M D C tw vw c k H0 H qs ps ts := ⟨g.fw, g.dk, g.hr, g.els, h, g.ps, g.ts⟩
theorem Bn.setps {qs : List V} (g : Bn K M D C tw vw c k H0 H os ps ts) (h : ∀ v ∈ qs, ∃ e, JE K D H v e) : Bn K M D C tw vw c k H0 H os qs ts := ⟨g.fw, g.dk, g.hr, g.els, g.os, h, g.ts⟩
end
section
variable {P : Program} {w : World} {K : PySem.W.Frag} {mg : Str → Option Value} {base : Heap} {f_is_integer f_is_row f_is_fraction f_is_some f_multiplied f_squared f_is_stall f_across f_hold_of f_is_index f_is_step f_end_of f_is_walk f_is_ring f_is_uneven f_is_uneven_ring f_l_hand f_l_draw f_l_gcd f_l_frac f_l_times f_l_over f_l_some f_l_shuffled f_l_stall f_l_stalls f_l_sizes f_l_whole f_l_is_flag f_l_is_uneven f_l_ring f_l_back f_l_bent f_law f_Web_init f_Web_eq c_Web c_ONE : Addr} {d_is_integer d_is_row d_is_fraction d_is_some d_multiplied d_squared d_is_stall d_across d_hold_of d_is_index d_is_step d_end_of d_is_walk d_is_ring d_is_uneven d_is_uneven_ring d_l_hand d_l_draw d_l_gcd d_l_frac d_l_times d_l_over d_l_some d_l_shuffled d_l_stall d_l_stalls d_l_sizes d_l_whole d_l_is_flag d_l_is_uneven d_l_ring d_l_back d_l_bent d_law d_Web_init d_Web_eq : FuncData}
def sp_lbent (K : PySem.W.Frag) (M : Nat) : Sp := fun vs H Q _ => ∃ (D C : Addr) (v : V) (c n : Nat) (ss : List Stl) (st : List (Nat × Nat)), vs = [.ref D, v, .int (ss.length : Nat), .int (n : Nat)] ∧ Hnd M D C H c ∧ c ≤ 2 ^ 38 ∧ IsRt K H v st ∧ Rng ss st ∧ ss.length ≤ 16 ∧ 1 ≤ n ∧ n ≤ 8 ∧
  ∀ H' v' o, Fw D H H' → Hnd M D C H' (c + 6) → JTh K D H' v' o → Q v' H'
theorem ok_l_bent {M : Nat} (hM : 64 ≤ M) (hM2 : M ≤ 1048576) (T : Txt K mg f_is_integer f_is_row f_is_fraction f_is_some f_multiplied f_squared f_is_stall f_across f_hold_of f_is_index f_is_step f_end_of f_is_walk f_is_ring f_is_uneven f_is_uneven_ring f_l_hand f_l_draw f_l_gcd f_l_frac f_l_times f_l_over f_l_some f_l_shuffled f_l_stall f_l_stalls f_l_sizes f_l_whole f_l_is_flag f_l_is_uneven f_l_ring f_l_back f_l_bent f_law f_Web_init f_Web_eq c_Web c_ONE d_is_integer d_is_row d_is_fraction d_is_some d_multiplied d_squared d_is_stall d_across d_hold_of d_is_index d_is_step d_end_of d_is_walk d_is_ring d_is_uneven d_is_uneven_ring d_l_hand d_l_draw d_l_gcd d_l_frac d_l_times d_l_over d_l_some d_l_shuffled d_l_stall d_l_stalls d_l_sizes d_l_whole d_l_is_flag d_l_is_uneven d_l_ring d_l_back d_l_bent d_law d_Web_init d_Web_eq) : FnOk P w K mg base CX0 2 f_l_bent d_l_bent ["_law_hand_here", "_law_ring_here", "_law_many", "_law_wares"] (sp_lbent K M) := by
  have G_l_draw : FnOk P w K mg base CX0 1 f_l_draw d_l_draw ["_law_hand_here", "_law_many"] (sp_hdraw M) := ok_l_hdraw hM hM2 T
  refine T.F_l_bent.ok sc_l_bent (fun vs H Q E h => ?_) (fun cdv A outer sh H vs Q E hr h => ?_)
  · obtain ⟨D, C, v, c, n, ss, st, rfl, _⟩ := h
    rfl
  · obtain ⟨D, C, v, c, n, ss, st, rfl, dk, hc, ⟨tw, vw, rfl, htw, hpw⟩, rg, l16, n1, n8, q⟩ := h
    have lvw := Paired.length hpw
    have lst := rg.rt.len
    have l0 := rg.rt.ne
    have el := je_up (K := K) dk hpw
    refine ⟨_, (pss_cons (ps_set (i := 4) sc_l_bent.nd rfl (by first | exact Or.inl rfl | exact Or.inr rfl) (pe_call G_l_draw (hr.mono (by decide)) (by rfl) T.g_l_draw T.k_l_draw T.b_l_draw .nil pass0 (pa_cons (pv 0) (pa_cons (pe_callB call_lenN (by rfl) T.z_len (by decide +kernel) (pa_cons (pv 1) pa_nil)) pa_nil))))
      (pss_cons (ps_set (i := 5) sc_l_bent.nd rfl (by first | exact Or.inl rfl | exact Or.inr rfl) (pe_lst (pa_cons (pv 2) (pa_cons (pe_un un_neg pe_int) (pa_cons pe_bl (pa_cons pe_bl (pa_cons pe_non (pa_cons pe_str (pa_cons (pe_tup (pa_cons pe_int pa_nil)) (pa_cons (pe_op op_pow pe_int pe_int) (pa_cons (pe_call G_l_draw (hr.mono (by decide)) (by rfl) T.g_l_draw T.k_l_draw T.b_l_draw .nil pass0 (pa_cons (pv 0) (pa_cons (pv 2) pa_nil))) (pa_cons (pe_call G_l_draw (hr.mono (by decide)) (by rfl) T.g_l_draw T.k_l_draw T.b_l_draw .nil pass0 (pa_cons (pv 0) (pa_cons (pv 3) pa_nil))) pa_nil))))))))))))
      (pss_cons (ps_asg (pe_ix ix_tup (pv 1) (pv 4) (fun _ _ => rfl)) (pg_tup rfl (pgs_cons (pg_name (i := 6) sc_l_bent.nd rfl (by first | exact Or.inl rfl | exact Or.inr rfl)) (pgs_cons (pg_name (i := 7) sc_l_bent.nd rfl (by first | exact Or.inl rfl | exact Or.inr rfl)) pgs_nil))))
      (pss_cons (ps_set (i := 8) sc_l_bent.nd rfl (by first | exact Or.inl rfl | exact Or.inr rfl) (pe_ix ix_list (pv 5) (pe_call G_l_draw (hr.mono (by decide)) (by rfl) T.g_l_draw T.k_l_draw T.b_l_draw .nil pass0 (pa_cons (pv 0) (pa_cons pe_int pa_nil))) (fun _ _ => rfl)))
      (pss_cons (ps_set (i := 9) sc_l_bent.nd rfl (by first | exact Or.inl rfl | exact Or.inr rfl) (pe_lst (pa_cons (pe_tup (pa_cons (pv 8) (pa_cons (pv 7) pa_nil))) (pa_cons (pe_tup (pa_cons (pv 6) (pa_cons (pv 8) pa_nil))) (pa_cons (pe_tup (pa_cons (pv 6) (pa_cons (pv 8) pa_nil))) (pa_cons (pe_lst (pa_cons (pv 6) (pa_cons (pv 7) pa_nil))) (pa_cons (pe_tup (pa_cons (pv 6) pa_nil)) (pa_cons (pe_tup (pa_cons (pv 6) (pa_cons (pv 7) (pa_cons pe_int pa_nil)))) (pa_cons (pv 8) (pa_cons (pe_tup pa_nil) pa_nil))))))))))
      (pss_cons (ps_set (i := 10) sc_l_bent.nd rfl (by first | exact Or.inl rfl | exact Or.inr rfl) (pe_ix ix_list (pv 9) (pe_call G_l_draw (hr.mono (by decide)) (by rfl) T.g_l_draw T.k_l_draw T.b_l_draw .nil pass0 (pa_cons (pv 0) (pa_cons pe_int pa_nil))) (fun _ _ => rfl)))
      (pss_cons (ps_set (i := 11) sc_l_bent.nd rfl (by first | exact Or.inl rfl | exact Or.inr rfl) (pe_lst (pa_cons (pe_op op_catA (pe_op op_catA (pe_slice sl_tupA (pv 1) po_none (po_some (pv 4))) (pe_tup (pa_cons (pv 10) pa_nil))) (pe_slice sl_tupA (pv 1) (po_some (pe_op op_add (pv 4) pe_int)) po_none)) (pa_cons (pe_op op_catA (pe_op op_catA (pe_slice sl_tupA (pv 1) po_none (po_some (pv 4))) (pe_tup (pa_cons (pv 10) pa_nil))) (pe_slice sl_tupA (pv 1) (po_some (pe_op op_add (pv 4) pe_int)) po_none)) (pa_cons (pe_op op_catA (pe_slice sl_tupA (pv 1) po_none (po_some (pv 4))) (pe_slice sl_tupA (pv 1) (po_some (pe_op op_add (pv 4) pe_int)) po_none)) pa_nil)))))
      (pss_cons (ps_set (i := 11) sc_l_bent.nd rfl (by first | exact Or.inl rfl | exact Or.inr rfl) (pe_op op_cat (pv 11) (pe_lst (pa_cons (pe_op op_catA (pv 1) (pv 1)) (pa_cons (pe_op op_catA (pe_op op_catA (pe_slice sl_tupA (pv 1) po_none (po_some (pv 4))) (pe_slice sl_tupA (pv 1) (po_some (pv 4)) (po_some (pe_op op_add (pv 4) pe_int)))) (pe_slice sl_tupA (pv 1) (po_some (pv 4)) po_none)) (pa_cons (My.pe_revT (pv 1)) (pa_cons (pe_callTy call_list_of (by rfl) T.z_list (by decide +kernel) (pa_cons (pv 1) pa_nil)) (pa_cons (pe_tup (pa_cons (pv 1) pa_nil)) (pa_cons (pe_tup pa_nil) pa_nil)))))))))
      (pss_one (ps_ret (pe_ix ix_list (pe_op op_cat (pv 11) (pe_lst (pa_cons pe_non (pa_cons pe_int (pa_cons pe_dnewK (pa_cons pe_str (pa_cons pe_bl pa_nil))))))) (pe_call G_l_draw (hr.mono (by decide)) (by rfl) T.g_l_draw T.k_l_draw T.b_l_draw .nil pass0 (pa_cons (pv 0) (pa_cons pe_int pa_nil))) (fun _ _ => rfl)))))))))))), ?_⟩
    walk_at "r"
    refine ⟨_, _, _, _, rfl, ⟨by omega, by omega⟩, dk, by omega, fun H1 r1 w1 k1 a1 b1 => ?_⟩
    obtain ⟨j, rfl⟩ := Int.eq_ofNat_of_zero_le a1
    have htw1 := dk.tps w1 _ _ htw
    have els : Els K D H1 vw := Els.fw ⟨_, el⟩ w1
    have hpw1 := prs_ts (dk.tps w1) hpw
    -- steps by mk29.py
    have g : Bn K M D C tw vw c 1 H1 H1 [] [] [] := ⟨Same.fw (Same.refl _), k1, htw1, els, by simp, by simp, Ths.nil⟩
    walk_at "r"
    intro p1 np1
    have s := same_upd (o := .tup [V.int 0]) np1
    have h1 : upd H1 p1 (.tup [V.int 0]) p1 = some (.tup [V.int 0]) := upd_same
    have n1 := g.dk.ne np1
    have g := g.same s
    generalize upd H1 p1 (.tup [V.int 0]) = K1 at *
    have g := g.addo (oth_tup n1 h1 (by show ¬ (1 = 2); decide))
    walk_at "r"
    walk_at "r"
    refine ⟨_, _, _, _, rfl, ⟨by omega, by omega⟩, g.dk, by omega, fun K2 r2 w2 k2 a2 b2 => ?_⟩
    have g := g.go w2 k2
    walk_at "r"
    refine ⟨_, _, _, _, rfl, ⟨by omega, by omega⟩, g.dk, by omega, fun K3 r3 w3 k3 a3 b3 => ?_⟩
    have g := g.go w3 k3
    have hO : ∀ v ∈ [V.int (ss.length : Nat), .int (-1), .bl true, .bl false, .non, .str "0", .ref p1, .int (10 ^ (11 : Int).toNat), .int r2, .int r3], Oth K D K3 v := by
      intro v hv
      simp only [List.mem_cons, List.not_mem_nil, or_false] at hv
      rcases hv with rfl | rfl | rfl | rfl | rfl | rfl | rfl | rfl | rfl | rfl
      · exact oth_int _
      · exact oth_int _
      · exact oth_bl _
      · exact oth_bl _
      · exact oth_non
      · exact oth_str _
      · exact g.os _ List.mem_cons_self
      · exact oth_int _
      · exact oth_int _
      · exact oth_int _
    have g := g.setos hO
    walk_at "r"
    intro p4 np4
    have s := same_upd (o := .lst [V.int (ss.length : Nat), .int (-1), .bl true, .bl false, .non, .str "0", .ref p1, .int (10 ^ (11 : Int).toNat), .int r2, .int r3]) np4
    have h4 : upd K3 p4 (.lst [V.int (ss.length : Nat), .int (-1), .bl true, .bl false, .non, .str "0", .ref p1, .int (10 ^ (11 : Int).toNat), .int r2, .int r3]) p4 = some (.lst [V.int (ss.length : Nat), .int (-1), .bl true, .bl false, .non, .str "0", .ref p1, .int (10 ^ (11 : Int).toNat), .int r2, .int r3]) := upd_same
    have n4 := g.dk.ne np4
    have g := g.same s
    generalize upd K3 p4 (.lst [V.int (ss.length : Nat), .int (-1), .bl true, .bl false, .non, .str "0", .ref p1, .int (10 ^ (11 : Int).toNat), .int r2, .int r3]) = K4 at *
    obtain ⟨y0, hy0⟩ : ∃ y, vw[j]? = some y := ⟨_, List.getElem?_eq_getElem (by omega)⟩
    obtain ⟨⟨ix, wn⟩, hp0, q0, rfl, hq0⟩ := Paired.at hpw1 hy0
    have hq0 := g.t1 k1 _ _ hq0
    walk_at "r"
    refine rd_ixT g.hr (at_some hy0) ?_
    walk_at "r"
    refine ⟨_, _, _, _, rfl, ⟨by omega, by omega⟩, g.dk, by omega, fun K5 r5 w5 k5 a5 b5 => ?_⟩
    have g := g.go w5 k5
    have h4 := w5 _ _ n4 h4
    obtain ⟨pt, hpt, ept⟩ := at_any a5 (show r5 < ([V.int (ss.length : Nat), .int (-1), .bl true, .bl false, .non, .str "0", .ref p1, .int (10 ^ (11 : Int).toNat), .int r2, .int r3] : List V).length from b5)
    refine rd_ixL h4 ept ?_
    have hpt := g.os pt hpt
    have g := g.setos (qs := [pt]) fun v hv => by rw [List.mem_singleton.mp hv]; exact hpt
    walk_at "r"
    intro p6 np6
    have s := same_upd (o := .tup [pt, V.int (wn : Nat)]) np6
    have h6 : upd K5 p6 (.tup [pt, V.int (wn : Nat)]) p6 = some (.tup [pt, V.int (wn : Nat)]) := upd_same
    have n6 := g.dk.ne np6
    have g := g.same s
    generalize upd K5 p6 (.tup [pt, V.int (wn : Nat)]) = K6 at *
    have g := g.addp (je_two n6 h6 (g.os pt List.mem_cons_self) (oth_int _))
    walk_at "r"
    intro p7 np7
    have s := same_upd (o := .tup [V.int (ix : Nat), pt]) np7
    have h7 : upd K6 p7 (.tup [V.int (ix : Nat), pt]) p7 = some (.tup [V.int (ix : Nat), pt]) := upd_same
    have n7 := g.dk.ne np7
    have g := g.same s
    generalize upd K6 p7 (.tup [V.int (ix : Nat), pt]) = K7 at *
    have g := g.addp (je_two n7 h7 (oth_int _) (g.os pt List.mem_cons_self))
    walk_at "r"
    intro p8 np8
    have s := same_upd (o := .tup [V.int (ix : Nat), pt]) np8
    have h8 : upd K7 p8 (.tup [V.int (ix : Nat), pt]) p8 = some (.tup [V.int (ix : Nat), pt]) := upd_same
    have n8 := g.dk.ne np8
    have g := g.same s
    generalize upd K7 p8 (.tup [V.int (ix : Nat), pt]) = K8 at *
    have g := g.addp (je_two n8 h8 (oth_int _) (g.os pt List.mem_cons_self))
    walk_at "r"
    intro p9 np9
    have s := same_upd (o := .lst [V.int (ix : Nat), V.int (wn : Nat)]) np9
    have h9 : upd K8 p9 (.lst [V.int (ix : Nat), V.int (wn : Nat)]) p9 = some (.lst [V.int (ix : Nat), V.int (wn : Nat)]) := upd_same
    have n9 := g.dk.ne np9
    have g := g.same s
    generalize upd K8 p9 (.lst [V.int (ix : Nat), V.int (wn : Nat)]) = K9 at *
    have g := g.addp (je_lst n9 h9)
    walk_at "r"
    intro p10 np10
    have s := same_upd (o := .tup [V.int (ix : Nat)]) np10
    have h10 : upd K9 p10 (.tup [V.int (ix : Nat)]) p10 = some (.tup [V.int (ix : Nat)]) := upd_same
    have n10 := g.dk.ne np10
    have g := g.same s
    generalize upd K9 p10 (.tup [V.int (ix : Nat)]) = K10 at *
    have g := g.addp (je_tup n10 h10 (by show ¬ (1 = 2); decide))
    walk_at "r"
    intro p11 np11
    have s := same_upd (o := .tup [V.int (ix : Nat), V.int (wn : Nat), V.int 0]) np11
    have h11 : upd K10 p11 (.tup [V.int (ix : Nat), V.int (wn : Nat), V.int 0]) p11 = some (.tup [V.int (ix : Nat), V.int (wn : Nat), V.int 0]) := upd_same
    have n11 := g.dk.ne np11
    have g := g.same s
    generalize upd K10 p11 (.tup [V.int (ix : Nat), V.int (wn : Nat), V.int 0]) = K11 at *
    have g := g.addp (je_tup n11 h11 (by show ¬ (3 = 2); decide))
    have g := g.addp (g.os pt List.mem_cons_self).2
    walk_at "r"
    intro p12 np12
    have s := same_upd (o := .tup ([] : List V)) np12
    have h12 : upd K11 p12 (.tup ([] : List V)) p12 = some (.tup ([] : List V)) := upd_same
    have n12 := g.dk.ne np12
    have g := g.same s
    generalize upd K11 p12 (.tup ([] : List V)) = K12 at *
    have g := g.addp (je_tup n12 h12 (by show ¬ (0 = 2); decide))
    walk_at "r"
    intro p13 np13
    have s := same_upd (o := .lst [V.ref p6, V.ref p7, V.ref p8, V.ref p9, V.ref p10, V.ref p11, pt, V.ref p12]) np13
    have h13 : upd K12 p13 (.lst [V.ref p6, V.ref p7, V.ref p8, V.ref p9, V.ref p10, V.ref p11, pt, V.ref p12]) p13 = some (.lst [V.ref p6, V.ref p7, V.ref p8, V.ref p9, V.ref p10, V.ref p11, pt, V.ref p12]) := upd_same
    have n13 := g.dk.ne np13
    have g := g.same s
    generalize upd K12 p13 (.lst [V.ref p6, V.ref p7, V.ref p8, V.ref p9, V.ref p10, V.ref p11, pt, V.ref p12]) = K13 at *
    walk_at "r"
    refine ⟨_, _, _, _, rfl, ⟨by omega, by omega⟩, g.dk, by omega, fun K14 r14 w14 k14 a14 b14 => ?_⟩
    have g := g.go w14 k14
    have h13 := w14 _ _ n13 h13
    obtain ⟨pr, hpr, epr⟩ := at_any a14 (show r14 < ([V.ref p6, V.ref p7, V.ref p8, V.ref p9, V.ref p10, V.ref p11, pt, V.ref p12] : List V).length from b14)
    refine rd_ixL h13 epr ?_
    have hpr0 : pr ∈ _ := List.mem_reverse.mpr hpr
    have hpr := g.ps pr hpr0
    have g := g.setps (qs := [pr]) fun v hv => by rw [List.mem_singleton.mp hv]; exact hpr
    have hpr : pr ∈ [pr] := List.mem_cons_self
    walk_at "r"
    refine rd_slAH g.hr fun p15 K15 s h15 => ?_
    have g := g.same s
    have n15 := g.dk.tne h15
    have e15 : Els K D K15 _ := g.els.sub (ys := cutV vw none (some (j : Int))) fun y hy => cut_mem hy
    have l15 := cutV_length vw none (some (j : Int))
    walk_at "r"
    intro p16 np16
    have s := same_upd (o := .tup [pr]) np16
    have h16 : upd K15 p16 (.tup [pr]) p16 = some (.tup [pr]) := upd_same
    have n16 := g.dk.ne np16
    have g := g.same s
    have h15 := s _ _ h15
    have e15 := Els.fw e15 (Same.fw s)
    generalize upd K15 p16 (.tup [pr]) = K16 at *
    have n16 := g.dk.tne h16
    have e16 : Els K D K16 _ := Els.one (g.ps pr hpr)
    have l16 : ([pr] : List V).length ≤ 1 := Nat.le_refl _
    walk_at "r"
    refine rd_catAH h15 h16 (by rw [sizeLine_eq]; omega) fun p17 K17 s h17 => ?_
    have g := g.same s
    have h15 := s _ _ h15
    have h16 := s _ _ h16
    have e15 := Els.fw e15 (Same.fw s)
    have e16 := Els.fw e16 (Same.fw s)
    have n17 := g.dk.tne h17
    have e17 : Els K D K17 _ := e15.app e16
    have l17 := Nat.le_of_eq (List.length_append (as := (cutV vw none (some (j : Int)))) (bs := [pr]))
    walk_at "r"
    refine rd_slAH g.hr fun p18 K18 s h18 => ?_
    have g := g.same s
    have h17 := s _ _ h17
    have e17 := Els.fw e17 (Same.fw s)
    have n18 := g.dk.tne h18
    have e18 : Els K D K18 _ := g.els.sub (ys := cutV vw (some ((j : Int) + 1)) none) fun y hy => cut_mem hy
    have l18 := cutV_length vw (some ((j : Int) + 1)) none
    walk_at "r"
    refine rd_catAH h17 h18 (by rw [sizeLine_eq]; omega) fun p19 K19 s h19 => ?_
    have g := g.same s
    have h17 := s _ _ h17
    have h18 := s _ _ h18
    have e17 := Els.fw e17 (Same.fw s)
    have e18 := Els.fw e18 (Same.fw s)
    have n19 := g.dk.tne h19
    have e19 : Els K D K19 _ := e17.app e18
    have l19 := Nat.le_of_eq (List.length_append (as := (cutV vw none (some (j : Int)) ++ [pr])) (bs := (cutV vw (some ((j : Int) + 1)) none)))
    have g := g.addt (jth_tup n19 h19 e19 (by omega))
    walk_at "r"
    refine rd_slAH g.hr fun p20 K20 s h20 => ?_
    have g := g.same s
    have n20 := g.dk.tne h20
    have e20 : Els K D K20 _ := g.els.sub (ys := cutV vw none (some (j : Int))) fun y hy => cut_mem hy
    have l20 := cutV_length vw none (some (j : Int))
    walk_at "r"
    intro p21 np21
    have s := same_upd (o := .tup [pr]) np21
    have h21 : upd K20 p21 (.tup [pr]) p21 = some (.tup [pr]) := upd_same
    have n21 := g.dk.ne np21
    have g := g.same s
    have h20 := s _ _ h20
    have e20 := Els.fw e20 (Same.fw s)
    generalize upd K20 p21 (.tup [pr]) = K21 at *
    have n21 := g.dk.tne h21
    have e21 : Els K D K21 _ := Els.one (g.ps pr hpr)
    have l21 : ([pr] : List V).length ≤ 1 := Nat.le_refl _
    walk_at "r"
    refine rd_catAH h20 h21 (by rw [sizeLine_eq]; omega) fun p22 K22 s h22 => ?_
    have g := g.same s
    have h20 := s _ _ h20
    have h21 := s _ _ h21
    have e20 := Els.fw e20 (Same.fw s)
    have e21 := Els.fw e21 (Same.fw s)
    have n22 := g.dk.tne h22
    have e22 : Els K D K22 _ := e20.app e21
    have l22 := Nat.le_of_eq (List.length_append (as := (cutV vw none (some (j : Int)))) (bs := [pr]))
    walk_at "r"
    refine rd_slAH g.hr fun p23 K23 s h23 => ?_
    have g := g.same s
    have h22 := s _ _ h22
    have e22 := Els.fw e22 (Same.fw s)
    have n23 := g.dk.tne h23
    have e23 : Els K D K23 _ := g.els.sub (ys := cutV vw (some ((j : Int) + 1)) none) fun y hy => cut_mem hy
    have l23 := cutV_length vw (some ((j : Int) + 1)) none
    walk_at "r"
    refine rd_catAH h22 h23 (by rw [sizeLine_eq]; omega) fun p24 K24 s h24 => ?_
    have g := g.same s
    have h22 := s _ _ h22
    have h23 := s _ _ h23
    have e22 := Els.fw e22 (Same.fw s)
    have e23 := Els.fw e23 (Same.fw s)
    have n24 := g.dk.tne h24
    have e24 : Els K D K24 _ := e22.app e23
    have l24 := Nat.le_of_eq (List.length_append (as := (cutV vw none (some (j : Int)) ++ [pr])) (bs := (cutV vw (some ((j : Int) + 1)) none)))
    have g := g.addt (jth_tup n24 h24 e24 (by omega))
    walk_at "r"
    refine rd_slAH g.hr fun p25 K25 s h25 => ?_
    have g := g.same s
    have n25 := g.dk.tne h25
    have e25 : Els K D K25 _ := g.els.sub (ys := cutV vw none (some (j : Int))) fun y hy => cut_mem hy
    have l25 := cutV_length vw none (some (j : Int))
    walk_at "r"
    refine rd_slAH g.hr fun p26 K26 s h26 => ?_
    have g := g.same s
    have h25 := s _ _ h25
    have e25 := Els.fw e25 (Same.fw s)
    have n26 := g.dk.tne h26
    have e26 : Els K D K26 _ := g.els.sub (ys := cutV vw (some ((j : Int) + 1)) none) fun y hy => cut_mem hy
    have l26 := cutV_length vw (some ((j : Int) + 1)) none
    walk_at "r"
    refine rd_catAH h25 h26 (by rw [sizeLine_eq]; omega) fun p27 K27 s h27 => ?_
    have g := g.same s
    have h25 := s _ _ h25
    have h26 := s _ _ h26
    have e25 := Els.fw e25 (Same.fw s)
    have e26 := Els.fw e26 (Same.fw s)
    have n27 := g.dk.tne h27
    have e27 : Els K D K27 _ := e25.app e26
    have l27 := Nat.le_of_eq (List.length_append (as := (cutV vw none (some (j : Int)))) (bs := (cutV vw (some ((j : Int) + 1)) none)))
    have g := g.addt (jth_tup n27 h27 e27 (by omega))
    walk_at "r"
    intro p28 np28
    have s := same_upd (o := .lst [V.ref p19, V.ref p24, V.ref p27]) np28
    have h28 : upd K27 p28 (.lst [V.ref p19, V.ref p24, V.ref p27]) p28 = some (.lst [V.ref p19, V.ref p24, V.ref p27]) := upd_same
    have n28 := g.dk.ne np28
    have g := g.same s
    generalize upd K27 p28 (.lst [V.ref p19, V.ref p24, V.ref p27]) = K28 at *
    walk_at "r"
    refine rd_catAH g.hr g.hr (by rw [sizeLine_eq]; omega) fun p29 K29 s h29 => ?_
    have g := g.same s
    have h28 := s _ _ h28
    have n29 := g.dk.tne h29
    have e29 : Els K D K29 _ := g.els.app g.els
    have l29 := Nat.le_of_eq (List.length_append (as := vw) (bs := vw))
    have g := g.addt (jth_tup n29 h29 e29 (by omega))
    walk_at "r"
    refine rd_slAH g.hr fun p30 K30 s h30 => ?_
    have g := g.same s
    have h28 := s _ _ h28
    have n30 := g.dk.tne h30
    have e30 : Els K D K30 _ := g.els.sub (ys := cutV vw none (some (j : Int))) fun y hy => cut_mem hy
    have l30 := cutV_length vw none (some (j : Int))
    walk_at "r"
    refine rd_slAH g.hr fun p31 K31 s h31 => ?_
    have g := g.same s
    have h28 := s _ _ h28
    have h30 := s _ _ h30
    have e30 := Els.fw e30 (Same.fw s)
    have n31 := g.dk.tne h31
    have e31 : Els K D K31 _ := g.els.sub (ys := cutV vw (some (j : Int)) (some ((j : Int) + 1))) fun y hy => cut_mem hy
    have l31 := cutV_length vw (some (j : Int)) (some ((j : Int) + 1))
    walk_at "r"
    refine rd_catAH h30 h31 (by rw [sizeLine_eq]; omega) fun p32 K32 s h32 => ?_
    have g := g.same s
    have h28 := s _ _ h28
    have h30 := s _ _ h30
    have h31 := s _ _ h31
    have e30 := Els.fw e30 (Same.fw s)
    have e31 := Els.fw e31 (Same.fw s)
    have n32 := g.dk.tne h32
    have e32 : Els K D K32 _ := e30.app e31
    have l32 := Nat.le_of_eq (List.length_append (as := (cutV vw none (some (j : Int)))) (bs := (cutV vw (some (j : Int)) (some ((j : Int) + 1)))))
    walk_at "r"
    refine rd_slAH g.hr fun p33 K33 s h33 => ?_
    have g := g.same s
    have h28 := s _ _ h28
    have h32 := s _ _ h32
    have e32 := Els.fw e32 (Same.fw s)
    have n33 := g.dk.tne h33
    have e33 : Els K D K33 _ := g.els.sub (ys := cutV vw (some (j : Int)) none) fun y hy => cut_mem hy
    have l33 := cutV_length vw (some (j : Int)) none
    walk_at "r"
    refine rd_catAH h32 h33 (by rw [sizeLine_eq]; omega) fun p34 K34 s h34 => ?_
    have g := g.same s
    have h28 := s _ _ h28
    have h32 := s _ _ h32
    have h33 := s _ _ h33
    have e32 := Els.fw e32 (Same.fw s)
    have e33 := Els.fw e33 (Same.fw s)
    have n34 := g.dk.tne h34
    have e34 : Els K D K34 _ := e32.app e33
    have l34 := Nat.le_of_eq (List.length_append (as := (cutV vw none (some (j : Int)) ++ cutV vw (some (j : Int)) (some ((j : Int) + 1)))) (bs := (cutV vw (some (j : Int)) none)))
    have g := g.addt (jth_tup n34 h34 e34 (by omega))
    walk_at "r"
    refine rd_revT ?_
    walk_at "r"
    refine ⟨tw, vw, rfl, .of g.hr, fun p35 np35 => ?_⟩
    have s := same_upd (o := .tup vw.reverse) np35
    have h35 : upd K34 p35 (.tup vw.reverse) p35 = some (.tup vw.reverse) := upd_same
    have n35 := g.dk.ne np35
    have g := g.same s
    have h28 := s _ _ h28
    generalize upd K34 p35 (.tup vw.reverse) = K35 at *
    have n35 := g.dk.tne h35
    have e35 : Els K D K35 _ := g.els.sub (ys := vw.reverse) fun y hy => List.mem_reverse.mp hy
    have l35 := List.length_reverse (as := vw)
    have g := g.addt (jth_tup n35 h35 e35 (by omega))
    walk_at "r"
    refine ⟨_, vw, rfl, .inr (.of g.hr), fun p36 np36 => ?_⟩
    have s := same_upd (o := .lst vw) np36
    have h36 : upd K35 p36 (.lst vw) p36 = some (.lst vw) := upd_same
    have n36 := g.dk.ne np36
    have g := g.same s
    have h28 := s _ _ h28
    generalize upd K35 p36 (.lst vw) = K36 at *
    have g := g.addt (jth_lst n36 h36)
    walk_at "r"
    intro p37 np37
    have s := same_upd (o := .tup [V.ref tw]) np37
    have h37 : upd K36 p37 (.tup [V.ref tw]) p37 = some (.tup [V.ref tw]) := upd_same
    have n37 := g.dk.ne np37
    have g := g.same s
    have h28 := s _ _ h28
    generalize upd K36 p37 (.tup [V.ref tw]) = K37 at *
    have n37 := g.dk.tne h37
    have e37 : Els K D K37 _ := Els.one (je_ring g.dk g.hr (prs_ts (g.t1 k1) hpw1))
    have l37 : ([V.ref tw] : List V).length ≤ 1 := Nat.le_refl _
    have g := g.addt (jth_tup n37 h37 e37 (by omega))
    walk_at "r"
    intro p38 np38
    have s := same_upd (o := .tup ([] : List V)) np38
    have h38 : upd K37 p38 (.tup ([] : List V)) p38 = some (.tup ([] : List V)) := upd_same
    have n38 := g.dk.ne np38
    have g := g.same s
    have h28 := s _ _ h28
    generalize upd K37 p38 (.tup ([] : List V)) = K38 at *
    have n38 := g.dk.tne h38
    have e38 : Els K D K38 _ := ⟨[], .nil⟩
    have l38 : ([] : List V).length ≤ 1 := Nat.zero_le _
    have g := g.addt (jth_tup n38 h38 e38 (by omega))
    walk_at "r"
    intro p39 np39
    have s := same_upd (o := .lst [V.ref p29, V.ref p34, V.ref p35, V.ref p36, V.ref p37, V.ref p38]) np39
    have h39 : upd K38 p39 (.lst [V.ref p29, V.ref p34, V.ref p35, V.ref p36, V.ref p37, V.ref p38]) p39 = some (.lst [V.ref p29, V.ref p34, V.ref p35, V.ref p36, V.ref p37, V.ref p38]) := upd_same
    have n39 := g.dk.ne np39
    have g := g.same s
    have h28 := s _ _ h28
    generalize upd K38 p39 (.lst [V.ref p29, V.ref p34, V.ref p35, V.ref p36, V.ref p37, V.ref p38]) = K39 at *
    walk_at "r"
    refine ⟨_, _, _, _, rfl, rfl, h28, h39, by rw [sizeLine_eq]; show 3 + 6 ≤ 16777216; decide, fun p40 np40 => ?_⟩
    have s := same_upd (o := .lst ([V.ref p19, V.ref p24, V.ref p27] ++ [V.ref p29, V.ref p34, V.ref p35, V.ref p36, V.ref p37, V.ref p38])) np40
    have h40 : upd K39 p40 (.lst ([V.ref p19, V.ref p24, V.ref p27] ++ [V.ref p29, V.ref p34, V.ref p35, V.ref p36, V.ref p37, V.ref p38])) p40 = some (.lst ([V.ref p19, V.ref p24, V.ref p27] ++ [V.ref p29, V.ref p34, V.ref p35, V.ref p36, V.ref p37, V.ref p38])) := upd_same
    have n40 := g.dk.ne np40
    have g := g.same s
    have h28 := s _ _ h28
    generalize upd K39 p40 (.lst ([V.ref p19, V.ref p24, V.ref p27] ++ [V.ref p29, V.ref p34, V.ref p35, V.ref p36, V.ref p37, V.ref p38])) = K40 at *
    walk_at "r"
    intro p41 np41
    have s := same_upd (o := .dK []) np41
    have h41 : upd K40 p41 (.dK []) p41 = some (.dK []) := upd_same
    have n41 := g.dk.ne np41
    have g := g.same s
    have h40 := s _ _ h40
    generalize upd K40 p41 (.dK []) = K41 at *
    have g := g.addt (jth_dK n41 h41)
    walk_at "r"
    intro p42 np42
    have s := same_upd (o := .lst [V.non, .int 0, .ref p41, .str "ring", .bl true]) np42
    have h42 : upd K41 p42 (.lst [V.non, .int 0, .ref p41, .str "ring", .bl true]) p42 = some (.lst [V.non, .int 0, .ref p41, .str "ring", .bl true]) := upd_same
    have n42 := g.dk.ne np42
    have g := g.same s
    have h40 := s _ _ h40
    generalize upd K41 p42 (.lst [V.non, .int 0, .ref p41, .str "ring", .bl true]) = K42 at *
    walk_at "r"
    refine ⟨_, _, _, _, rfl, rfl, h40, h42, by rw [sizeLine_eq]; show 9 + 5 ≤ 16777216; decide, fun p43 np43 => ?_⟩
    have s := same_upd (o := .lst (([V.ref p19, V.ref p24, V.ref p27] ++ [V.ref p29, V.ref p34, V.ref p35, V.ref p36, V.ref p37, V.ref p38]) ++ [V.non, .int 0, .ref p41, .str "ring", .bl true])) np43
    have h43 : upd K42 p43 (.lst (([V.ref p19, V.ref p24, V.ref p27] ++ [V.ref p29, V.ref p34, V.ref p35, V.ref p36, V.ref p37, V.ref p38]) ++ [V.non, .int 0, .ref p41, .str "ring", .bl true])) p43 = some (.lst (([V.ref p19, V.ref p24, V.ref p27] ++ [V.ref p29, V.ref p34, V.ref p35, V.ref p36, V.ref p37, V.ref p38]) ++ [V.non, .int 0, .ref p41, .str "ring", .bl true])) := upd_same
    have n43 := g.dk.ne np43
    have g := g.same s
    have h40 := s _ _ h40
    generalize upd K42 p43 (.lst (([V.ref p19, V.ref p24, V.ref p27] ++ [V.ref p29, V.ref p34, V.ref p35, V.ref p36, V.ref p37, V.ref p38]) ++ [V.non, .int 0, .ref p41, .str "ring", .bl true])) = K43 at *
    walk_at "r"
    refine ⟨_, _, _, _, rfl, ⟨by omega, by omega⟩, g.dk, by omega, fun K44 r44 w44 k44 a44 b44 => ?_⟩
    have g := g.go w44 k44
    have h43 := w44 _ _ n43 h43
    obtain ⟨th, hth, eth⟩ := at_any a44 (show r44 < (([V.ref p19, V.ref p24, V.ref p27] ++ [V.ref p29, V.ref p34, V.ref p35, V.ref p36, V.ref p37, V.ref p38]) ++ [V.non, .int 0, .ref p41, .str "ring", .bl true] : List V).length from b44)
    refine rd_ixL h43 eth ?_
    have hall : Ths K D K44 (([V.ref p19, V.ref p24, V.ref p27] ++ [V.ref p29, V.ref p34, V.ref p35, V.ref p36, V.ref p37, V.ref p38]) ++ [V.non, .int 0, .ref p41, .str "ring", .bl true]) := by
      have ht : Ths K D K44 [V.ref p41, V.ref p38, V.ref p37, V.ref p36, V.ref p35, V.ref p34, V.ref p29, V.ref p27, V.ref p24, V.ref p19] := g.ts
      intro v hv
      rcases List.mem_append.mp hv with hv | hv
      · exact ht v (by
          simp only [List.mem_append, List.mem_cons, List.not_mem_nil, or_false] at hv ⊢
          rcases hv with (h | h | h) | (h | h | h | h | h | h) <;> simp [h])
      · simp only [List.mem_cons, List.not_mem_nil, or_false] at hv
        rcases hv with rfl | rfl | rfl | rfl | rfl
        · exact jth_non
        · exact jth_int _
        · exact ht _ List.mem_cons_self
        · exact jth_str _
        · exact jth_bl _
    obtain ⟨o, ho⟩ := hall th hth
    exact q _ _ o (w1.trans g.fw) (g.dk.mono (by omega)) ho
    -- end
end
end My
namespace My
open PySem PySem.Spec PyProof.Rows L2
variable {K : PySem.W.Frag}
theorem BdSt.monoH {k l : Nat} {s : Stl} (h : BdSt k s) (hl : k ≤ l) : BdSt l s := ⟨h.a.mono hl, h.b.mono hl, h.r.mono hl⟩
theorem Sts.takeH {H : Hp} {xs : List V} {ss : List Stl} (h : Sts K H xs ss) : ∀ i, Sts K H (xs.take i) (ss.take i) := by
  unfold Sts at *
  induction h with
  | nil =>
    intro i
    rw [List.take_nil, List.take_nil]
    exact .nil
  | cons h t ih =>
    intro i
    cases i with
    | zero => exact .nil
    | succ i => exact .cons h (ih i)
theorem jth_ring {M c : Nat} {D C : Addr} {H : Hp} {v : V} {st : List (Nat × Nat)} (d : Hnd M D C H c) (h : IsRt K H v st) (l : st.length ≤ 60) : JTh K D H v (some (st.map upE)) := by
  obtain ⟨t, vs, rfl, h1, h2⟩ := h
  exact .inl ⟨t, vs, _, rfl, d.tne h1, h1, je_up d h2, by rw [Paired.length h2]; exact l, rfl⟩
theorem prs_take {α : Type} {R : V → α → Prop} {vs : List V} {st : List α} (h : Paired R vs st) : ∀ b, Paired R (vs.take b) (st.take b) := by
  induction h with
  | nil =>
    intro b
    rw [List.take_nil, List.take_nil]
    exact .nil
  | cons h t ih =>
    intro b
    cases b with
    | zero => exact .nil
    | succ b => exact .cons h (ih b)
theorem prs_app {α : Type} {R : V → α → Prop} {vs ws : List V} {st tt : List α} (h : Paired R vs st) (g : Paired R ws tt) : Paired R (vs ++ ws) (st ++ tt) := by
  induction h with
  | nil => exact g
  | cons h t ih => exact .cons h ih
theorem iw_fw {M c n : Nat} {D C : Addr} {H H' : Hp} {B : Addr} {v : V} {ss : List Stl} (d : Hnd M D C H c) (f : Fw D H H') (h : IsWeb K B H v n ss) : IsWeb K B H' v n ss := by
  obtain ⟨p, dx, t, xs, rfl, hp, ht, hss⟩ := h
  obtain ⟨cells, pos, rest, acc, cnt, nn, h1, _⟩ := id d
  refine ⟨p, dx, t, xs, rfl, f _ _ (fun e => ?_) hp, d.tps f _ _ ht, hss.ts (d.tps f)⟩
  rw [e, h1] at hp
  cases hp
theorem unevO_ring {ss : List Stl} {st : List (Nat × Nat)} (r : Rng ss st) : UnevO ss (some (st.map upE)) ↔ Unev ss st :=
  ⟨fun ⟨st2, e, _, u⟩ => by
    have e := upE_inj (Option.some.inj e)
    subst e
    exact u, fun u => ⟨st, rfl, r, u⟩⟩
section
variable {P : Program} {w : World} {K : PySem.W.Frag} {mg : Str → Option Value} {base : Heap} {f_is_integer f_is_row f_is_fraction f_is_some f_multiplied f_squared f_is_stall f_across f_hold_of f_is_index f_is_step f_end_of f_is_walk f_is_ring f_is_uneven f_is_uneven_ring f_l_hand f_l_draw f_l_gcd f_l_frac f_l_times f_l_over f_l_some f_l_shuffled f_l_stall f_l_stalls f_l_sizes f_l_whole f_l_is_flag f_l_is_uneven f_l_ring f_l_back f_l_bent f_law f_Web_init f_Web_eq c_Web c_ONE : Addr} {d_is_integer d_is_row d_is_fraction d_is_some d_multiplied d_squared d_is_stall d_across d_hold_of d_is_index d_is_step d_end_of d_is_walk d_is_ring d_is_uneven d_is_uneven_ring d_l_hand d_l_draw d_l_gcd d_l_frac d_l_times d_l_over d_l_some d_l_shuffled d_l_stall d_l_stalls d_l_sizes d_l_whole d_l_is_flag d_l_is_uneven d_l_ring d_l_back d_l_bent d_law d_Web_init d_Web_eq : FuncData}
def sp_law (K : PySem.W.Frag) : Sp := fun vs H Q _ => ∃ (a : Addr) (ns : List Int), vs = [.ref a] ∧ SqL K H a (ns.map V.int) ∧ ns.length ≤ 63 ∧ (∀ z ∈ ns, Builtin.Int.intBits z ≤ 1048576) ∧ ∀ H', Q (.bl true) H'
theorem ok_law (T : Txt K mg f_is_integer f_is_row f_is_fraction f_is_some f_multiplied f_squared f_is_stall f_across f_hold_of f_is_index f_is_step f_end_of f_is_walk f_is_ring f_is_uneven f_is_uneven_ring f_l_hand f_l_draw f_l_gcd f_l_frac f_l_times f_l_over f_l_some f_l_shuffled f_l_stall f_l_stalls f_l_sizes f_l_whole f_l_is_flag f_l_is_uneven f_l_ring f_l_back f_l_bent f_law f_Web_init f_Web_eq c_Web c_ONE d_is_integer d_is_row d_is_fraction d_is_some d_multiplied d_squared d_is_stall d_across d_hold_of d_is_index d_is_step d_end_of d_is_walk d_is_ring d_is_uneven d_is_uneven_ring d_l_hand d_l_draw d_l_gcd d_l_frac d_l_times d_l_over d_l_some d_l_shuffled d_l_stall d_l_stalls d_l_sizes d_l_whole d_l_is_flag d_l_is_uneven d_l_ring d_l_back d_l_bent d_law d_Web_init d_Web_eq) : FnOk P w K mg base CX0 7 f_law d_law ["_law_script"] (sp_law K) := by
  have G_l_hand : FnOk P w K mg base CX0 1 f_l_hand d_l_hand ["_law_script"] (sp_hand K) := ok_l_hand T
  have G_l_draw : FnOk P w K mg base CX0 1 f_l_draw d_l_draw ["_law_hand_here", "_law_many"] (sp_hdraw 1048576) := ok_l_hdraw (by decide) (by decide) T
  have G_l_sizes : FnOk P w K mg base CX0 2 f_l_sizes d_l_sizes ["_law_hand_here"] (sp_hsizes 1048576) := ok_l_sizes (by decide) (by decide) T
  have G_l_stalls : FnOk P w K mg base CX0 5 f_l_stalls d_l_stalls ["_law_hand_here", "_law_wares", "_law_many", "_law_way"] (sp_hstalls K 1048576) := ok_l_hstalls (by decide) (by decide) T
  have G_l_ring : FnOk P w K mg base CX0 2 f_l_ring d_l_ring ["_law_hand_here", "_law_stalls_here", "_law_wares"] (sp_lring K 1048576) := ok_l_ring (by decide) (by decide) T
  have G_l_is_uneven : FnOk P w K mg base CX0 4 f_l_is_uneven d_l_is_uneven ["_law_stalls_here", "_law_thing"] (sp_lunev K) := ok_l_is_uneven T
  have G_l_back : FnOk P w K mg base CX0 1 f_l_back d_l_back ["_law_stalls_here", "_law_ring_here"] (sp_lback K) := ok_l_back T
  have G_l_bent : FnOk P w K mg base CX0 2 f_l_bent d_l_bent ["_law_hand_here", "_law_ring_here", "_law_many", "_law_wares"] (sp_lbent K 1048576) := ok_l_bent (by decide) (by decide) T
  have G_l_is_flag : FnOk P w K mg base CX0 1 f_l_is_flag d_l_is_flag ["_law_told", "_law_due"] sp_isflag := ok_l_is_flag T
  have G_is_uneven_ring : FnOk P w K mg base CX0 6 f_is_uneven_ring d_is_uneven_ring ["web", "thing"] (sp_unevJ K c_Web) := ok_is_uneven_ringJ T
  have G_Web_init : FnOk P w K mg base CX0 5 f_Web_init d_Web_init ["self", "wares", "stalls"] (sp_web K c_Web) := ok_Web_init T
  refine T.F_law.ok sc_law (fun vs H Q E h => ?_) (fun cdv A outer s H vs Q E hr h => ?_)
  · obtain ⟨a, ns, rfl, _⟩ := h
    rfl
  · obtain ⟨a, ns, rfl, hS, hl, hb, q⟩ := h
    refine ⟨_, (pss_cons (ps_set (i := 1) sc_law.nd rfl (by first | exact Or.inl rfl | exact Or.inr rfl) (pe_call G_l_hand (hr.mono (by decide)) (by rfl) T.g_l_hand T.k_l_hand T.b_l_hand .nil pass0 (pa_cons (pv 0) pa_nil)))
      (pss_cons (ps_set (i := 2) sc_law.nd rfl (by first | exact Or.inl rfl | exact Or.inr rfl) (pe_call G_l_draw (hr.mono (by decide)) (by rfl) T.g_l_draw T.k_l_draw T.b_l_draw .nil pass0 (pa_cons (pv 1) (pa_cons pe_int pa_nil))))
      (pss_cons (ps_asg (pe_call G_l_sizes (hr.mono (by decide)) (by rfl) T.g_l_sizes T.k_l_sizes T.b_l_sizes .nil pass0 (pa_cons (pv 1) pa_nil)) (pg_tup rfl (pgs_cons (pg_name (i := 3) sc_law.nd rfl (by first | exact Or.inl rfl | exact Or.inr rfl)) (pgs_cons (pg_name (i := 4) sc_law.nd rfl (by first | exact Or.inl rfl | exact Or.inr rfl)) pgs_nil))))
      (pss_cons (ps_set (i := 3) sc_law.nd rfl (by first | exact Or.inl rfl | exact Or.inr rfl) (pe_callB (call_max2 rfl) (by rfl) T.z_max (by decide +kernel) (pa_cons pe_int (pa_cons (pv 3) pa_nil))))
      (pss_cons (ps_set (i := 5) sc_law.nd rfl (by first | exact Or.inl rfl | exact Or.inr rfl) (pe_slice sl_list (pe_call G_l_stalls (hr.mono (by decide)) (by rfl) T.g_l_stalls T.k_l_stalls T.b_l_stalls .nil pass0 (pa_cons (pv 1) (pa_cons (pv 3) (pa_cons (pe_op op_add pe_int (pv 4)) (pa_cons (pv 2) pa_nil))))) po_none (po_some pe_int)))
      (pss_cons (ps_set (i := 6) sc_law.nd rfl (by first | exact Or.inl rfl | exact Or.inr rfl) (pe_make T.w_Web.mks G_Web_init (hr.mono (by decide)) (by rfl) T.w_Web.g T.b_Web_init .nil pass0 (pa_cons (pv 3) (pa_cons (pv 5) pa_nil))))
      (pss_cons (ps_for PassesOwn.never rfl (pi_range1 (by rfl) T.z_range (pa_cons pe_int pa_nil)) (pg_name (i := 7) sc_law.nd rfl (by first | exact Or.inl rfl | exact Or.inr rfl))
        (pss_cons (ps_set (i := 8) sc_law.nd rfl (by first | exact Or.inl rfl | exact Or.inr rfl) (pe_call G_l_ring (hr.mono (by decide)) (by rfl) T.g_l_ring T.k_l_ring T.b_l_ring .nil pass0 (pa_cons (pv 1) (pa_cons (pv 5) (pa_cons (pv 3) pa_nil)))))
          (pss_one (ps_if (pt_cmpR op_notN (pv 8) pe_non (nomark _))
            (pss_cons (ps_set (i := 9) sc_law.nd rfl (by first | exact Or.inl rfl | exact Or.inr rfl) (pe_call G_l_is_uneven (hr.mono (by decide)) (by rfl) T.g_l_is_uneven T.k_l_is_uneven T.b_l_is_uneven .nil pass0 (pa_cons (pv 5) (pa_cons (pv 8) pa_nil))))
              (pss_cons (ps_set (i := 10) sc_law.nd rfl (by first | exact Or.inl rfl | exact Or.inr rfl) (pe_call G_l_draw (hr.mono (by decide)) (by rfl) T.g_l_draw T.k_l_draw T.b_l_draw .nil pass0 (pa_cons (pv 1) (pa_cons (pe_callB call_lenN (by rfl) T.z_len (by decide +kernel) (pa_cons (pv 8) pa_nil)) pa_nil))))
              (pss_cons (ps_for PassesOwn.never rfl (pi_list (pe_lst (pa_cons (pv 8) (pa_cons (pe_op op_catA (pe_slice sl_tupA (pv 8) (po_some (pv 10)) po_none) (pe_slice sl_tupA (pv 8) po_none (po_some (pv 10)))) (pa_cons (pe_call G_l_back (hr.mono (by decide)) (by rfl) T.g_l_back T.k_l_back T.b_l_back .nil pass0 (pa_cons (pv 5) (pa_cons (pv 8) pa_nil))) pa_nil))))) (pg_name (i := 11) sc_law.nd rfl (by first | exact Or.inl rfl | exact Or.inr rfl))
                (pss_one (ps_if (pt_not (pt_val (pe_call G_l_is_flag (hr.mono (by decide)) (by rfl) T.g_l_is_flag T.k_l_is_flag T.b_l_is_flag .nil pass0 (pa_cons (pe_call G_is_uneven_ring (hr.mono (by decide)) (by rfl) T.g_is_uneven_ring T.k_is_uneven_ring T.b_is_uneven_ring .nil pass0 (pa_cons (pv 6) (pa_cons (pv 11) pa_nil))) (pa_cons (pv 9) pa_nil)))))
                    (pss_one (ps_ret pe_bl))
                    pss_nil)))
              (pss_cons (ps_if (PW.pt (pw_and (pt_cmpR op_eq (pv 2) pe_int (nomark _)) (pw_and1 (pt_val (pv 9)))))
                (pss_one (ps_ret pe_bl))
                pss_nil)
              (pss_one (ps_for PassesOwn.never rfl (pi_range1 (by rfl) T.z_range (pa_cons pe_int pa_nil)) (pg_name (i := 12) sc_law.nd rfl (by first | exact Or.inl rfl | exact Or.inr rfl))
                (pss_cons (ps_set (i := 11) sc_law.nd rfl (by first | exact Or.inl rfl | exact Or.inr rfl) (pe_call G_l_bent (hr.mono (by decide)) (by rfl) T.g_l_bent T.k_l_bent T.b_l_bent .nil pass0 (pa_cons (pv 1) (pa_cons (pv 8) (pa_cons (pe_callB call_lenN (by rfl) T.z_len (by decide +kernel) (pa_cons (pv 5) pa_nil)) (pa_cons (pv 3) pa_nil))))))
                  (pss_one (ps_if (pt_not (pt_val (pe_call G_l_is_flag (hr.mono (by decide)) (by rfl) T.g_l_is_flag T.k_l_is_flag T.b_l_is_flag .nil pass0 (pa_cons (pe_call G_is_uneven_ring (hr.mono (by decide)) (by rfl) T.g_is_uneven_ring T.k_is_uneven_ring T.b_is_uneven_ring .nil pass0 (pa_cons (pv 6) (pa_cons (pv 11) pa_nil))) (pa_cons (pe_call G_l_is_uneven (hr.mono (by decide)) (by rfl) T.g_l_is_uneven T.k_l_is_uneven T.b_l_is_uneven .nil pass0 (pa_cons (pv 5) (pa_cons (pv 11) pa_nil))) pa_nil)))))
                    (pss_one (ps_ret pe_bl))
                    pss_nil)))))))))
            pss_nil))))
      (pss_one (ps_ret (pe_and (pe_call G_l_is_flag (hr.mono (by decide)) (by rfl) T.g_l_is_flag T.k_l_is_flag T.b_l_is_flag .nil pass0 (pa_cons (pe_call G_is_uneven_ring (hr.mono (by decide)) (by rfl) T.g_is_uneven_ring T.k_is_uneven_ring T.b_is_uneven_ring .nil pass0 (pa_cons (pv 6) (pa_cons (pe_tup pa_nil) pa_nil))) (pa_cons pe_bl pa_nil))) (pe_one (pe_call G_l_is_flag (hr.mono (by decide)) (by rfl) T.g_l_is_flag T.k_l_is_flag T.b_l_is_flag .nil pass0 (pa_cons (pe_call G_is_uneven_ring (hr.mono (by decide)) (by rfl) T.g_is_uneven_ring T.k_is_uneven_ring T.b_is_uneven_ring .nil pass0 (pa_cons (pv 6) (pa_cons pe_non pa_nil))) (pa_cons pe_bl pa_nil)))))))))))))), ?_⟩
    walk_at "r"
    refine ⟨a, ns, rfl, hS, hl, hb, fun H1 D C s1 k1 => ?_⟩
    walk_at "r"
    refine ⟨_, _, _, _, rfl, ⟨by decide, by decide⟩, k1, by omega, fun H2 way w2 k2 a2 b2 => ?_⟩
    walk_at "r"
    refine ⟨_, _, _, rfl, k2, by omega, fun H3 p3 n m w3 k3 h3 n1 n8 m16 => ?_⟩
    walk_at "r"
    refine ⟨_, _, rfl, ?_⟩
    obtain ⟨n', en, n2, n9⟩ : ∃ n' : Nat, (if ((n : Nat) : Int) > 2 then ((n : Nat) : Int) else 2) = (n' : Nat) ∧ 2 ≤ n' ∧ n' ≤ 8 := by
      by_cases h : ((n : Nat) : Int) > 2
      · exact ⟨n, if_pos h, by omega, n8⟩
      · exact ⟨2, if_neg h, by omega, by omega⟩
    rw [en]
    walk_at "r"
    refine ⟨D, C, _, n', 2 + m, way, by rw [Int.natCast_add]; rfl, k3, by omega, by omega, n9, by omega, fun H4 F zs ss w4 k4 nF hF hst hlen hok hfit => ?_⟩
    walk_at "r"
    refine rd_slL (.of hF) (fun S nS => ?_)
    have ec : cutV zs none (some 16) = zs.take 16 := cut_take zs 16
    rw [ec]
    have l16 : (ss.take 16).length ≤ 16 := by rw [List.length_take]; omega
    have hst5 := (hst.takeH 16).same (same_upd (o := .lst (zs.take 16)) nS)
    have ok5 : ∀ s ∈ ss.take 16, OkSt n' s ∧ BdSt 9 s := fun s hs => ⟨(hok s (List.mem_of_mem_take hs)).1, (hok s (List.mem_of_mem_take hs)).2.1⟩
    have fit5 : way = 1 → ∃ sc : Nat → Rat, (∀ i, 0 < sc i) ∧ ∀ s ∈ ss.take 16, FitSc sc s := fun h => (hfit h).elim fun sc ⟨h1, h2⟩ => ⟨sc, h1, fun s hs => h2 s (List.mem_of_mem_take hs)⟩
    have hS5 : upd H4 S (.lst (zs.take 16)) S = some (.lst (zs.take 16)) := upd_same
    have SD : S ≠ D := k4.ne nS
    have SC : S ≠ C := k4.neC nS
    have k5 := k4.same (same_upd (o := .lst (zs.take 16)) nS)
    generalize upd H4 S (.lst (zs.take 16)) = H5 at *
    generalize zs.take 16 = ys at *
    generalize ss.take 16 = tt at *
    have ly := hst5.len
    clear hst hlen hok hfit hF w4 k4 nS h3
    walk_at "r"
    intro x6 dx6 nx nd ne
    have xS := ne_of_none hS5 nx
    have dS := ne_of_none hS5 nd
    refine ⟨x6, dx6, S, n', ys, tt, rfl, upd_same, .inl ((upd_ne xS).trans ((upd_ne dS).trans hS5)), by omega, n9, by omega, ?_, fun s hs => ⟨(ok5 s hs).1, (ok5 s hs).2.monoH (by decide)⟩, fun H6 hweb kp => ⟨rfl, ?_⟩⟩
    · refine hst5.ts fun b zs hb => ?_
      rw [upd_ne (ne_of_none hb nx), upd_ne (ne_of_none hb nd)]
      exact hb
    have s6 := Same.made nx nd kp
    have k6 := k5.same s6
    have hS6 := s6 _ _ hS5
    have hst6 := hst5.same s6
    clear k5 hS5 hst5 xS dS nx nd ne kp s6
    have ok1 : ∀ s ∈ tt, OkSt n' s := fun s hs => (ok5 s hs).1
    walk_at "r"
    refine ⟨by decide, by decide, ?_⟩
    refine for_range (lo := 0) (n := 6) (fun i σ H' => ∃ (t7 t8 t9 t10 t11 t12 : Option V), σ = [some (.ref a), some (.ref D), some (.int way), some (.int (n' : Nat)), some (.int (m : Nat)), some (.ref S), some (.ref x6), t7, t8, t9, t10, t11, t12] ∧ Fw D H6 H' ∧ Hnd 1048576 D C H' (300 + 80 * i)) ?_ ?_ ?_
    · exact ⟨_, _, _, _, _, _, rfl, Same.fw (Same.refl _), k6.mono (by omega)⟩
    · rintro i σ H7 hi ⟨t7, t8, t9, t10, t11, t12, rfl, f7, k7⟩
      have web : ∀ {H' : Hp}, Fw D H7 H' → IsWeb K c_Web H' (.ref x6) n' tt ∧ H' S = some (.lst ys) ∧ Sts K H' ys tt := fun f =>
        ⟨iw_fw k6 (f7.trans f) hweb, (f7.trans f) _ _ SD hS6, hst6.ts (k6.tps (f7.trans f))⟩
      walk_at "r"
      refine ⟨D, C, S, _, n', ys, tt, rfl, k7, by omega, SD, SC, (web (Same.fw (Same.refl _))).2.1, (web (Same.fw (Same.refl _))).2.2, l16, by omega, n9, ok1, fun H8 v w8 k8 hv => ?_⟩
      rcases hv with rfl | ⟨st, irt, rg, hnew⟩
      · walk_at "r"
        refine ⟨rfl, ?_⟩
        rw [decide_eq_true rfl]
        walk_at "r"
        exact ⟨_, _, _, _, _, _, rfl, f7.trans w8, k8.mono (by omega)⟩
      · obtain ⟨t, vs, rfl, ht, hpp⟩ := id irt
        have lvs := Paired.length hpp
        have lst := rg.rt.len
        have l0 := rg.rt.ne
        walk_at "r"
        refine ⟨rfl, ?_⟩
        rw [decide_eq_false (show ¬ V.ref t = V.non from fun h => by cases h)]
        walk_at "r"
        refine ⟨S, _, D, n', ys, tt, _, rfl, (web w8).2.1, (web w8).2.2, jth_ring k8 irt (by omega), l16, ok5, fun H9 due s9 hdue => ?_⟩
        rw [unevO_ring rg] at hdue
        have k9 := k8.same s9
        have f9 : Fw D H7 H9 := w8.trans (Same.fw s9)
        have ht9 := s9 _ _ ht
        have irt9 := irt.same s9
        walk_at "r"
        refine ⟨_, _, _, _, rfl, ⟨by omega, by omega⟩, k9, by omega, fun H10 r10 w10 k10 a10 b10 => ?_⟩
        obtain ⟨j, rfl⟩ := Int.eq_ofNat_of_zero_le a10
        have f10 := f9.trans w10
        have ht10 := k9.tps w10 _ _ ht9
        have irt10 := irt9.ts (k9.tps w10)
        have hpp10 := prs_ts (k9.tps w10) (prs_ts (same_tps s9) hpp)
        clear irt9 ht9 hpp
        walk_at "r"
        refine rd_slAH ht10 fun pa Ha sa ha => ?_
        walk_at "r"
        refine rd_slAH (sa _ _ ht10) fun pb Hb sb hb => ?_
        walk_at "r"
        refine rd_catAH (sb _ _ ha) hb (by rw [sizeLine_eq]; have h1 := cutV_length vs (some (j : Int)) none; have h2 := cutV_length vs none (some (j : Int)); omega) fun pc Hc sc hc => ?_
        have sab := (sa.trans sb).trans sc
        rw [cut_take, cut_drop] at hc
        have irtc := irt10.same sab
        walk_at "r"
        refine ⟨S, _, n', ys, tt, st, rfl, (web (f10.trans (Same.fw sab))).2.1, (web (f10.trans (Same.fw sab))).2.2, irtc, rg, l16, ok1, fun Hd vb sd ib nb => ?_⟩
        have sabd := sab.trans sd
        walk_at "r"
        intro L nL
        have sL := same_upd (o := .lst [V.ref t, .ref pc, vb]) nL
        have hL : upd Hd L (.lst [V.ref t, .ref pc, vb]) L = some (.lst [V.ref t, .ref pc, vb]) := upd_same
        generalize upd Hd L (.lst [V.ref t, .ref pc, vb]) = HL at *
        have sall := sabd.trans sL
        have kL := k10.same sall
        have fL := f10.trans (Same.fw sall)
        have irtL := irt10.same sall
        have hth : ∀ x ∈ [V.ref t, .ref pc, vb], ∃ st', IsRt K HL x st' ∧ Rng tt st' ∧ (Unev tt st' ↔ Unev tt st) := by
          intro x hx
          simp only [List.mem_cons, List.not_mem_nil, or_false] at hx
          rcases hx with rfl | rfl | rfl
          · exact ⟨st, irtL, rg, Iff.rfl⟩
          · have rg2 : Rng tt (st.take j ++ st.drop j) := by rw [List.take_append_drop]; exact rg
            refine ⟨st.drop j ++ st.take j, ⟨pc, vs.drop j ++ vs.take j, rfl, sL _ _ (sd _ _ hc), ?_⟩, rg2.rot, ?_⟩
            · exact prs_app (prs_drop (prs_ts (same_tps sall) hpp10) j) (prs_take (prs_ts (same_tps sall) hpp10) j)
            · exact unev_perm (List.perm_append_comm.trans (by rw [List.take_append_drop]))
          · obtain ⟨b1, b2⟩ := rg.back fun s hs => (ok1 s hs).ne
            exact ⟨bk tt st, ib.same sL, b1, b2⟩
        clear ha hb hc sa sb sc sab sd sabd ib nb irtc
        refine ⟨L, rfl, ⟨_, .of hL⟩, ?_⟩
        refine for_list (K := K) (a := L) (xs := [V.ref t, .ref pc, vb]) (fun i' σ H' => ∃ (t11 : Option V), σ = [some (.ref a), some (.ref D), some (.int way), some (.int (n' : Nat)), some (.int (m : Nat)), some (.ref S), some (.ref x6), some (.int (0 + (i : Nat))), some (.ref t), some (.bl due), some (.int (j : Nat)), t11, t12] ∧ Same HL H') ?_ ?_ ?_ ?_
        · exact ⟨_, rfl, Same.refl _⟩
        · rintro i' σ H' _ ⟨t11, rfl, s'⟩
          exact .of (s' _ _ hL)
        · rintro i' x σ H' hx ⟨t11, rfl, s'⟩
          obtain ⟨st', ir, rg', hu⟩ := hth x (List.mem_of_getElem? hx)
          have lst' := rg'.rt.len
          walk_at "r"
          refine ⟨_, x, D, n', tt, _, rfl, (web (fL.trans (Same.fw s'))).1, jth_ring (kL.same s') (ir.same s') (by omega), l16, ok5, fun H2 b sb hb => ?_⟩
          rw [unevO_ring rg', hu] at hb
          have eb : b = due := Bool.eq_iff_iff.mpr (hb.trans hdue.symm)
          subst eb
          walk_at "r"
          refine ⟨b, b, rfl, ?_⟩
          rw [decide_eq_true rfl]
          walk_at "r"
          exact s'.trans sb
        · rintro σ H' ⟨t11, rfl, s'⟩
          have kq := kL.same s'
          have fq := fL.trans (Same.fw s')
          have irq := irtL.same s'
          have ev : way = 1 → due = false := fun h => by
            obtain ⟨sc, h1, h2⟩ := fit5 h
            cases due
            · rfl
            · exact absurd (hdue.mp rfl) (fit_ring h1 h2 ok1 rg)
          walk_at "r"
          walk_at "if"
          · rename_i hw1
            have e := ev hw1
            subst e
            walk_at "r"
            refine ⟨by decide, by decide, ?_⟩
            refine for_range (lo := 0) (n := 3) (fun i2 σ H2 => ∃ (t11 t12 : Option V), σ = [some (.ref a), some (.ref D), some (.int way), some (.int (n' : Nat)), some (.int (m : Nat)), some (.ref S), some (.ref x6), some (.int (0 + (i : Nat))), some (.ref t), some (.bl false), some (.int (j : Nat)), t11, t12] ∧ Fw D H' H2 ∧ Hnd 1048576 D C H2 (300 + 80 * i + 41 + 6 * i2)) ?_ ?_ ?_
            · exact ⟨_, _, rfl, Same.fw (Same.refl _), kq.mono (by omega)⟩
            · rintro i2 σ H2 hi2 ⟨t11, t12, rfl, f2, k2⟩
              have hS2 := (web (fq.trans f2)).2.1
              walk_at "r"
              refine ⟨D, C, _, _, n', tt, st, by rw [← ly]; rfl, k2, by omega, irq.ts (kq.tps f2), rg, l16, by omega, n9, fun H3 v2 o w3 k3 ho => ?_⟩
              have f3 := (fq.trans f2).trans w3
              walk_at "r"
              refine ⟨_, v2, D, n', tt, o, rfl, (web f3).1, ho, l16, ok5, fun H4 b sb hb => ?_⟩
              have f4 := f3.trans (Same.fw sb)
              walk_at "r"
              refine ⟨S, v2, D, n', ys, tt, o, rfl, (web f4).2.1, (web f4).2.2, ho.fw (Same.fw sb), l16, ok5, fun H5 b' sb' hb' => ?_⟩
              have eb : b = b' := Bool.eq_iff_iff.mpr (hb.trans hb'.symm)
              subst eb
              walk_at "r"
              refine ⟨b, b, rfl, ?_⟩
              rw [decide_eq_true rfl]
              walk_at "r"
              exact ⟨_, _, rfl, (f2.trans w3).trans (Same.fw (sb.trans sb')), (k3.same (sb.trans sb')).mono (by omega)⟩
            · rintro σ H2 ⟨t11, t12, rfl, f2, k2⟩
              walk_at "r"
              exact ⟨_, _, _, _, _, _, rfl, f7.trans (fq.trans f2), k2.mono (by omega)⟩
          · walk_at "r"
            refine ⟨by decide, by decide, ?_⟩
            refine for_range (lo := 0) (n := 3) (fun i2 σ H2 => ∃ (t11 t12 : Option V), σ = [some (.ref a), some (.ref D), some (.int way), some (.int (n' : Nat)), some (.int (m : Nat)), some (.ref S), some (.ref x6), some (.int (0 + (i : Nat))), some (.ref t), some (.bl due), some (.int (j : Nat)), t11, t12] ∧ Fw D H' H2 ∧ Hnd 1048576 D C H2 (300 + 80 * i + 41 + 6 * i2)) ?_ ?_ ?_
            · exact ⟨_, _, rfl, Same.fw (Same.refl _), kq.mono (by omega)⟩
            · rintro i2 σ H2 hi2 ⟨t11, t12, rfl, f2, k2⟩
              have hS2 := (web (fq.trans f2)).2.1
              walk_at "r"
              refine ⟨D, C, _, _, n', tt, st, by rw [← ly]; rfl, k2, by omega, irq.ts (kq.tps f2), rg, l16, by omega, n9, fun H3 v2 o w3 k3 ho => ?_⟩
              have f3 := (fq.trans f2).trans w3
              walk_at "r"
              refine ⟨_, v2, D, n', tt, o, rfl, (web f3).1, ho, l16, ok5, fun H4 b sb hb => ?_⟩
              have f4 := f3.trans (Same.fw sb)
              walk_at "r"
              refine ⟨S, v2, D, n', ys, tt, o, rfl, (web f4).2.1, (web f4).2.2, ho.fw (Same.fw sb), l16, ok5, fun H5 b' sb' hb' => ?_⟩
              have eb : b = b' := Bool.eq_iff_iff.mpr (hb.trans hb'.symm)
              subst eb
              walk_at "r"
              refine ⟨b, b, rfl, ?_⟩
              rw [decide_eq_true rfl]
              walk_at "r"
              exact ⟨_, _, rfl, (f2.trans w3).trans (Same.fw (sb.trans sb')), (k3.same (sb.trans sb')).mono (by omega)⟩
            · rintro σ H2 ⟨t11, t12, rfl, f2, k2⟩
              walk_at "r"
              exact ⟨_, _, _, _, _, _, rfl, f7.trans (fq.trans f2), k2.mono (by omega)⟩
    · rintro σ H7 ⟨t7, t8, t9, t10, t11, t12, rfl, f7, k7⟩
      have web : ∀ {H' : Hp}, Fw D H7 H' → IsWeb K c_Web H' (.ref x6) n' tt := fun f => iw_fw k6 (f7.trans f) hweb
      walk_at "r"
      intro p0 np0
      have s0 := same_upd (o := .tup ([] : List V)) np0
      have h0 : upd H7 p0 (.tup []) p0 = some (.tup []) := upd_same
      have n0 := k7.ne np0
      generalize upd H7 p0 (.tup []) = H8 at *
      walk_at "r"
      refine ⟨_, _, D, n', tt, _, rfl, web (Same.fw s0), .inl ⟨p0, [], [], rfl, n0, h0, .nil, by decide, rfl⟩, l16, ok5, fun H9 b s9 hb => ?_⟩
      have eb : b = false := by
        cases b
        · rfl
        · obtain ⟨st, e, r, _⟩ := hb.mp rfl
          have e := Option.some.inj e
          have := r.rt.ne
          rw [← List.length_map (f := upE), ← e] at this
          exact absurd this (by decide)
      subst eb
      walk_at "r"
      refine ⟨false, false, rfl, ?_⟩
      walk_at "r"
      refine ⟨_, _, D, n', tt, none, rfl, web (Same.fw (s0.trans s9)), .inr ⟨.inr ⟨.non, fun p xs e => by cases e⟩, rfl⟩, l16, ok5, fun H10 b s10 hb => ?_⟩
      have eb : b = false := by
        cases b
        · rfl
        · obtain ⟨st, e, r, _⟩ := hb.mp rfl
          cases e
      subst eb
      walk_at "r"
      refine ⟨false, false, rfl, ?_⟩
      exact q _
theorem ok_all (T : Txt K mg f_is_integer f_is_row f_is_fraction f_is_some f_multiplied f_squared f_is_stall f_across f_hold_of f_is_index f_is_step f_end_of f_is_walk f_is_ring f_is_uneven f_is_uneven_ring f_l_hand f_l_draw f_l_gcd f_l_frac f_l_times f_l_over f_l_some f_l_shuffled f_l_stall f_l_stalls f_l_sizes f_l_whole f_l_is_flag f_l_is_uneven f_l_ring f_l_back f_l_bent f_law f_Web_init f_Web_eq c_Web c_ONE d_is_integer d_is_row d_is_fraction d_is_some d_multiplied d_squared d_is_stall d_across d_hold_of d_is_index d_is_step d_end_of d_is_walk d_is_ring d_is_uneven d_is_uneven_ring d_l_hand d_l_draw d_l_gcd d_l_frac d_l_times d_l_over d_l_some d_l_shuffled d_l_stall d_l_stalls d_l_sizes d_l_whole d_l_is_flag d_l_is_uneven d_l_ring d_l_back d_l_bent d_law d_Web_init d_Web_eq) : FnOk P w K mg base CX0 7 f_law d_law ["_law_script"] (sp_law K) := ok_law T
end
end My
namespace My
open PySem PySem.Spec PyProof.Rows L2
theorem all_mk {l : PySem.W.OpenLaw} {w : World} {K : PySem.W.Frag} {h : Heap} {mg : Str → Option Value} {fa : Addr} (X : K.In h) (G : h.Ns mainGlobals mg) (hfa : mg "law" = some (.ref fa))
    {c_Web : Addr}
    {c_ONE : Addr} {dd_ONE : Option Addr} {its_ONE : Array Value} {n_ONE : Nat} {sl_ONE : Array (Option Value)}
    {tk_MOST_STALLS : Tok}
    {tk_MOST_WARES : Tok}
    {od0 an0 : Option Addr} {sl0 : Array (Option Value)} {oc0 kV0 dc0 pm0 cd0 ct0 : Value} {f_is_integer : Addr}
    {od1 an1 : Option Addr} {sl1 : Array (Option Value)} {oc1 kV1 dc1 pm1 cd1 ct1 : Value} {f_is_row : Addr}
    {od2 an2 : Option Addr} {sl2 : Array (Option Value)} {oc2 kV2 dc2 pm2 cd2 ct2 : Value} {f_is_fraction : Addr}
    {od3 an3 : Option Addr} {sl3 : Array (Option Value)} {oc3 kV3 dc3 pm3 cd3 ct3 : Value} {f_is_some : Addr}
    {od4 an4 : Option Addr} {sl4 : Array (Option Value)} {oc4 kV4 dc4 pm4 cd4 ct4 : Value} {f_multiplied : Addr}
    {od5 an5 : Option Addr} {sl5 : Array (Option Value)} {oc5 kV5 dc5 pm5 cd5 ct5 : Value} {f_squared : Addr}
    {od6 an6 : Option Addr} {sl6 : Array (Option Value)} {oc6 kV6 dc6 pm6 cd6 ct6 : Value} {f_is_stall : Addr}
    {od7 an7 : Option Addr} {sl7 : Array (Option Value)} {oc7 kV7 dc7 pm7 cd7 ct7 : Value} {f_across : Addr}
    {od8 an8 : Option Addr} {sl8 : Array (Option Value)} {oc8 kV8 dc8 pm8 cd8 ct8 : Value} {f_hold_of : Addr}
    {od9 an9 : Option Addr} {sl9 : Array (Option Value)} {oc9 kV9 dc9 pm9 cd9 ct9 : Value} {f_is_index : Addr}
    {od10 an10 : Option Addr} {sl10 : Array (Option Value)} {oc10 kV10 dc10 pm10 cd10 ct10 : Value} {f_is_step : Addr}
    {od11 an11 : Option Addr} {sl11 : Array (Option Value)} {oc11 kV11 dc11 pm11 cd11 ct11 : Value} {f_end_of : Addr}
    {od12 an12 : Option Addr} {sl12 : Array (Option Value)} {oc12 kV12 dc12 pm12 cd12 ct12 : Value} {f_is_walk : Addr}
    {od13 an13 : Option Addr} {sl13 : Array (Option Value)} {oc13 kV13 dc13 pm13 cd13 ct13 : Value} {f_is_ring : Addr}
    {od14 an14 : Option Addr} {sl14 : Array (Option Value)} {oc14 kV14 dc14 pm14 cd14 ct14 : Value} {f_is_uneven : Addr}
    {od15 an15 : Option Addr} {sl15 : Array (Option Value)} {oc15 kV15 dc15 pm15 cd15 ct15 : Value} {f_is_uneven_ring : Addr}
    {od16 an16 : Option Addr} {sl16 : Array (Option Value)} {oc16 kV16 dc16 pm16 cd16 ct16 : Value} {f_l_hand : Addr}
    {od17 an17 : Option Addr} {sl17 : Array (Option Value)} {oc17 kV17 dc17 pm17 cd17 ct17 : Value} {f_l_draw : Addr}
    {od18 an18 : Option Addr} {sl18 : Array (Option Value)} {oc18 kV18 dc18 pm18 cd18 ct18 : Value} {f_l_gcd : Addr}
    {od19 an19 : Option Addr} {sl19 : Array (Option Value)} {oc19 kV19 dc19 pm19 cd19 ct19 : Value} {f_l_frac : Addr}
    {od20 an20 : Option Addr} {sl20 : Array (Option Value)} {oc20 kV20 dc20 pm20 cd20 ct20 : Value} {f_l_times : Addr}
    {od21 an21 : Option Addr} {sl21 : Array (Option Value)} {oc21 kV21 dc21 pm21 cd21 ct21 : Value} {f_l_over : Addr}
    {od22 an22 : Option Addr} {sl22 : Array (Option Value)} {oc22 kV22 dc22 pm22 cd22 ct22 : Value} {f_l_some : Addr}
    {od23 an23 : Option Addr} {sl23 : Array (Option Value)} {oc23 kV23 dc23 pm23 cd23 ct23 : Value} {f_l_shuffled : Addr}
    {od24 an24 : Option Addr} {sl24 : Array (Option Value)} {oc24 kV24 dc24 pm24 cd24 ct24 : Value} {f_l_stall : Addr}
    {od25 an25 : Option Addr} {sl25 : Array (Option Value)} {oc25 kV25 dc25 pm25 cd25 ct25 : Value} {f_l_stalls : Addr}
    {od26 an26 : Option Addr} {sl26 : Array (Option Value)} {oc26 kV26 dc26 pm26 cd26 ct26 : Value} {f_l_sizes : Addr}
    {od27 an27 : Option Addr} {sl27 : Array (Option Value)} {oc27 kV27 dc27 pm27 cd27 ct27 : Value} {f_l_whole : Addr}
    {od28 an28 : Option Addr} {sl28 : Array (Option Value)} {oc28 kV28 dc28 pm28 cd28 ct28 : Value} {f_l_is_flag : Addr}
    {od29 an29 : Option Addr} {sl29 : Array (Option Value)} {oc29 kV29 dc29 pm29 cd29 ct29 : Value} {f_l_is_uneven : Addr}
    {od30 an30 : Option Addr} {sl30 : Array (Option Value)} {oc30 kV30 dc30 pm30 cd30 ct30 : Value} {f_l_ring : Addr}
    {od31 an31 : Option Addr} {sl31 : Array (Option Value)} {oc31 kV31 dc31 pm31 cd31 ct31 : Value} {f_l_back : Addr}
    {od32 an32 : Option Addr} {sl32 : Array (Option Value)} {oc32 kV32 dc32 pm32 cd32 ct32 : Value} {f_l_bent : Addr}
    {od33 an33 : Option Addr} {sl33 : Array (Option Value)} {oc33 kV33 dc33 pm33 cd33 ct33 : Value} {f_law : Addr}
    {od34 an34 : Option Addr} {sl34 : Array (Option Value)} {oc34 kV34 dc34 pm34 cd34 ct34 : Value} {f_Web_init : Addr}
    {od35 an35 : Option Addr} {sl35 : Array (Option Value)} {oc35 kV35 dc35 pm35 cd35 ct35 : Value} {f_Web_eq : Addr}
    (z_abs : PySem.W.nsIn K mainGlobals "abs" = some none)
    (z_all : PySem.W.nsIn K mainGlobals "all" = some none)
    (z_bool : PySem.W.nsIn K mainGlobals "bool" = some none)
    (z_enumerate : PySem.W.nsIn K mainGlobals "enumerate" = some none)
    (z_int : PySem.W.nsIn K mainGlobals "int" = some none)
    (z_isinstance : PySem.W.nsIn K mainGlobals "isinstance" = some none)
    (z_len : PySem.W.nsIn K mainGlobals "len" = some none)
    (z_list : PySem.W.nsIn K mainGlobals "list" = some none)
    (z_max : PySem.W.nsIn K mainGlobals "max" = some none)
    (z_range : PySem.W.nsIn K mainGlobals "range" = some none)
    (z_set : PySem.W.nsIn K mainGlobals "set" = some none)
    (z_tuple : PySem.W.nsIn K mainGlobals "tuple" = some none)
    (z_zip : PySem.W.nsIn K mainGlobals "zip" = some none)
    (m_gcd : PySem.W.nsIn K mainGlobals "gcd" = some (some (.builtin "math.gcd")))
    (a_Web : PySem.W.nsIn K mainGlobals "Web" = some (some (.ref c_Web)))
    (mk_Web : PySem.W.makesIn K c_Web = true)
    (in_Web : PySem.W.findIn K (.ref c_Web) "__init__" = some (some (.ref f_Web_init)))
    (fn_Web : PySem.W.isFn K (.ref f_Web_init) = true)
    (kp_Web : PySem.W.keepIn K (.ref c_Web) = true)
    (pg_Web : PySem.W.plainGet K c_Web Str.empty = true)
    (hd_Web : PySem.W.hasDictIn K c_Web = true)
    (po_Web : PySem.W.plainOver K c_Web = true)
    (sa_Web : PySem.W.findIn K (.ref c_Web) "__setattr__" = some (some (.builtin "object.__setattr__")))
    (ha_Web : PySem.W.findIn K (.ref c_Web) "__class__" = some (some (.builtin "object.__class__")))
    (hn_Web : PySem.W.specialIn K (.builtin "object.__class__") "__get__" = some (some (.builtin "getset_descriptor.__get__")))
    (ht_Web : PySem.W.takesIn K (.builtin "object.__class__") = some true)
    (mo_Web : PySem.W.mroIn K c_Web (.type "object") = some true)
    (i_int_Web : PySem.W.kitOne K (.ref c_Web) (.type "int") = some false)
    (i_bool_Web : PySem.W.kitOne K (.ref c_Web) (.type "bool") = some false)
    (i_tuple_Web : PySem.W.kitOne K (.ref c_Web) (.type "tuple") = some false)
    (i_list_Web : PySem.W.kitOne K (.ref c_Web) (.type "list") = some false)
    (na_Web_wares : PySem.W.findIn K (.ref c_Web) "wares" = some none)
    (na_Web_stalls : PySem.W.findIn K (.ref c_Web) "stalls" = some none)
    (v_ONE : PySem.W.nsIn K mainGlobals "ONE" = some (some (.ref c_ONE)))
    (o_ONE : K.lookup c_ONE = some ⟨.type "tuple", dd_ONE, .seq its_ONE n_ONE, sl_ONE⟩)
    (tv_ONE : Vals [V.int 1, V.int 1] its_ONE.toList ∧ its_ONE.size ≤ sizeLine)
    (v_MOST_STALLS : PySem.W.nsIn K mainGlobals "MOST_STALLS" = some (some (.int 16 tk_MOST_STALLS)))
    (v_MOST_WARES : PySem.W.nsIn K mainGlobals "MOST_WARES" = some (some (.int 8 tk_MOST_WARES)))
    (a_is_integer : PySem.W.nsIn K mainGlobals "is_integer" = some (some (.ref f_is_integer)))
    (l_is_integer : K.lookup f_is_integer = some ⟨oc0, od0, .func (PySem.W.fnOf "is_integer" "is_integer" (defArgs s_is_integer) (defBody s_is_integer) (defScope s_is_integer) .none kV0 dc0 pm0 an0 cd0 ct0), sl0⟩)
    (c_is_integer : PySem.W.codeIn K cd0 "is_integer" = true)
    (k_is_integer : PySem.W.keepIn K (.ref f_is_integer) = true)
    (a_is_row : PySem.W.nsIn K mainGlobals "is_row" = some (some (.ref f_is_row)))
    (l_is_row : K.lookup f_is_row = some ⟨oc1, od1, .func (PySem.W.fnOf "is_row" "is_row" (defArgs s_is_row) (defBody s_is_row) (defScope s_is_row) .none kV1 dc1 pm1 an1 cd1 ct1), sl1⟩)
    (c_is_row : PySem.W.codeIn K cd1 "is_row" = true)
    (k_is_row : PySem.W.keepIn K (.ref f_is_row) = true)
    (a_is_fraction : PySem.W.nsIn K mainGlobals "is_fraction" = some (some (.ref f_is_fraction)))
    (l_is_fraction : K.lookup f_is_fraction = some ⟨oc2, od2, .func (PySem.W.fnOf "is_fraction" "is_fraction" (defArgs s_is_fraction) (defBody s_is_fraction) (defScope s_is_fraction) .none kV2 dc2 pm2 an2 cd2 ct2), sl2⟩)
    (c_is_fraction : PySem.W.codeIn K cd2 "is_fraction" = true)
    (k_is_fraction : PySem.W.keepIn K (.ref f_is_fraction) = true)
    (a_is_some : PySem.W.nsIn K mainGlobals "is_some" = some (some (.ref f_is_some)))
    (l_is_some : K.lookup f_is_some = some ⟨oc3, od3, .func (PySem.W.fnOf "is_some" "is_some" (defArgs s_is_some) (defBody s_is_some) (defScope s_is_some) .none kV3 dc3 pm3 an3 cd3 ct3), sl3⟩)
    (c_is_some : PySem.W.codeIn K cd3 "is_some" = true)
    (k_is_some : PySem.W.keepIn K (.ref f_is_some) = true)
    (a_multiplied : PySem.W.nsIn K mainGlobals "multiplied" = some (some (.ref f_multiplied)))
    (l_multiplied : K.lookup f_multiplied = some ⟨oc4, od4, .func (PySem.W.fnOf "multiplied" "multiplied" (defArgs s_multiplied) (defBody s_multiplied) (defScope s_multiplied) .none kV4 dc4 pm4 an4 cd4 ct4), sl4⟩)
    (c_multiplied : PySem.W.codeIn K cd4 "multiplied" = true)
    (k_multiplied : PySem.W.keepIn K (.ref f_multiplied) = true)
    (a_squared : PySem.W.nsIn K mainGlobals "squared" = some (some (.ref f_squared)))
    (l_squared : K.lookup f_squared = some ⟨oc5, od5, .func (PySem.W.fnOf "squared" "squared" (defArgs s_squared) (defBody s_squared) (defScope s_squared) .none kV5 dc5 pm5 an5 cd5 ct5), sl5⟩)
    (c_squared : PySem.W.codeIn K cd5 "squared" = true)
    (k_squared : PySem.W.keepIn K (.ref f_squared) = true)
    (a_is_stall : PySem.W.nsIn K mainGlobals "is_stall" = some (some (.ref f_is_stall)))
    (l_is_stall : K.lookup f_is_stall = some ⟨oc6, od6, .func (PySem.W.fnOf "is_stall" "is_stall" (defArgs s_is_stall) (defBody s_is_stall) (defScope s_is_stall) .none kV6 dc6 pm6 an6 cd6 ct6), sl6⟩)
    (c_is_stall : PySem.W.codeIn K cd6 "is_stall" = true)
    (k_is_stall : PySem.W.keepIn K (.ref f_is_stall) = true)
    (a_across : PySem.W.nsIn K mainGlobals "across" = some (some (.ref f_across)))
    (l_across : K.lookup f_across = some ⟨oc7, od7, .func (PySem.W.fnOf "across" "across" (defArgs s_across) (defBody s_across) (defScope s_across) .none kV7 dc7 pm7 an7 cd7 ct7), sl7⟩)
    (c_across : PySem.W.codeIn K cd7 "across" = true)
    (k_across : PySem.W.keepIn K (.ref f_across) = true)
    (a_hold_of : PySem.W.nsIn K mainGlobals "hold_of" = some (some (.ref f_hold_of)))
    (l_hold_of : K.lookup f_hold_of = some ⟨oc8, od8, .func (PySem.W.fnOf "hold_of" "hold_of" (defArgs s_hold_of) (defBody s_hold_of) (defScope s_hold_of) .none kV8 dc8 pm8 an8 cd8 ct8), sl8⟩)
    (c_hold_of : PySem.W.codeIn K cd8 "hold_of" = true)
    (k_hold_of : PySem.W.keepIn K (.ref f_hold_of) = true)
    (a_is_index : PySem.W.nsIn K mainGlobals "is_index" = some (some (.ref f_is_index)))
    (l_is_index : K.lookup f_is_index = some ⟨oc9, od9, .func (PySem.W.fnOf "is_index" "is_index" (defArgs s_is_index) (defBody s_is_index) (defScope s_is_index) .none kV9 dc9 pm9 an9 cd9 ct9), sl9⟩)
    (c_is_index : PySem.W.codeIn K cd9 "is_index" = true)
    (k_is_index : PySem.W.keepIn K (.ref f_is_index) = true)
    (a_is_step : PySem.W.nsIn K mainGlobals "is_step" = some (some (.ref f_is_step)))
    (l_is_step : K.lookup f_is_step = some ⟨oc10, od10, .func (PySem.W.fnOf "is_step" "is_step" (defArgs s_is_step) (defBody s_is_step) (defScope s_is_step) .none kV10 dc10 pm10 an10 cd10 ct10), sl10⟩)
    (c_is_step : PySem.W.codeIn K cd10 "is_step" = true)
    (k_is_step : PySem.W.keepIn K (.ref f_is_step) = true)
    (a_end_of : PySem.W.nsIn K mainGlobals "end_of" = some (some (.ref f_end_of)))
    (l_end_of : K.lookup f_end_of = some ⟨oc11, od11, .func (PySem.W.fnOf "end_of" "end_of" (defArgs s_end_of) (defBody s_end_of) (defScope s_end_of) .none kV11 dc11 pm11 an11 cd11 ct11), sl11⟩)
    (c_end_of : PySem.W.codeIn K cd11 "end_of" = true)
    (k_end_of : PySem.W.keepIn K (.ref f_end_of) = true)
    (a_is_walk : PySem.W.nsIn K mainGlobals "is_walk" = some (some (.ref f_is_walk)))
    (l_is_walk : K.lookup f_is_walk = some ⟨oc12, od12, .func (PySem.W.fnOf "is_walk" "is_walk" (defArgs s_is_walk) (defBody s_is_walk) (defScope s_is_walk) .none kV12 dc12 pm12 an12 cd12 ct12), sl12⟩)
    (c_is_walk : PySem.W.codeIn K cd12 "is_walk" = true)
    (k_is_walk : PySem.W.keepIn K (.ref f_is_walk) = true)
    (a_is_ring : PySem.W.nsIn K mainGlobals "is_ring" = some (some (.ref f_is_ring)))
    (l_is_ring : K.lookup f_is_ring = some ⟨oc13, od13, .func (PySem.W.fnOf "is_ring" "is_ring" (defArgs s_is_ring) (defBody s_is_ring) (defScope s_is_ring) .none kV13 dc13 pm13 an13 cd13 ct13), sl13⟩)
    (c_is_ring : PySem.W.codeIn K cd13 "is_ring" = true)
    (k_is_ring : PySem.W.keepIn K (.ref f_is_ring) = true)
    (a_is_uneven : PySem.W.nsIn K mainGlobals "is_uneven" = some (some (.ref f_is_uneven)))
    (l_is_uneven : K.lookup f_is_uneven = some ⟨oc14, od14, .func (PySem.W.fnOf "is_uneven" "is_uneven" (defArgs s_is_uneven) (defBody s_is_uneven) (defScope s_is_uneven) .none kV14 dc14 pm14 an14 cd14 ct14), sl14⟩)
    (c_is_uneven : PySem.W.codeIn K cd14 "is_uneven" = true)
    (k_is_uneven : PySem.W.keepIn K (.ref f_is_uneven) = true)
    (a_is_uneven_ring : PySem.W.nsIn K mainGlobals "is_uneven_ring" = some (some (.ref f_is_uneven_ring)))
    (l_is_uneven_ring : K.lookup f_is_uneven_ring = some ⟨oc15, od15, .func (PySem.W.fnOf "is_uneven_ring" "is_uneven_ring" (defArgs s_is_uneven_ring) (defBody s_is_uneven_ring) (defScope s_is_uneven_ring) .none kV15 dc15 pm15 an15 cd15 ct15), sl15⟩)
    (c_is_uneven_ring : PySem.W.codeIn K cd15 "is_uneven_ring" = true)
    (k_is_uneven_ring : PySem.W.keepIn K (.ref f_is_uneven_ring) = true)
    (a_l_hand : PySem.W.nsIn K mainGlobals "_law_hand" = some (some (.ref f_l_hand)))
    (l_l_hand : K.lookup f_l_hand = some ⟨oc16, od16, .func (PySem.W.fnOf "_law_hand" "_law_hand" (defArgs s_l_hand) (defBody s_l_hand) (defScope s_l_hand) .none kV16 dc16 pm16 an16 cd16 ct16), sl16⟩)
    (c_l_hand : PySem.W.codeIn K cd16 "_law_hand" = true)
    (k_l_hand : PySem.W.keepIn K (.ref f_l_hand) = true)
    (a_l_draw : PySem.W.nsIn K mainGlobals "_law_draw" = some (some (.ref f_l_draw)))
    (l_l_draw : K.lookup f_l_draw = some ⟨oc17, od17, .func (PySem.W.fnOf "_law_draw" "_law_draw" (defArgs s_l_draw) (defBody s_l_draw) (defScope s_l_draw) .none kV17 dc17 pm17 an17 cd17 ct17), sl17⟩)
    (c_l_draw : PySem.W.codeIn K cd17 "_law_draw" = true)
    (k_l_draw : PySem.W.keepIn K (.ref f_l_draw) = true)
    (a_l_gcd : PySem.W.nsIn K mainGlobals "_law_gcd" = some (some (.ref f_l_gcd)))
    (l_l_gcd : K.lookup f_l_gcd = some ⟨oc18, od18, .func (PySem.W.fnOf "_law_gcd" "_law_gcd" (defArgs s_l_gcd) (defBody s_l_gcd) (defScope s_l_gcd) .none kV18 dc18 pm18 an18 cd18 ct18), sl18⟩)
    (c_l_gcd : PySem.W.codeIn K cd18 "_law_gcd" = true)
    (k_l_gcd : PySem.W.keepIn K (.ref f_l_gcd) = true)
    (a_l_frac : PySem.W.nsIn K mainGlobals "_law_frac" = some (some (.ref f_l_frac)))
    (l_l_frac : K.lookup f_l_frac = some ⟨oc19, od19, .func (PySem.W.fnOf "_law_frac" "_law_frac" (defArgs s_l_frac) (defBody s_l_frac) (defScope s_l_frac) .none kV19 dc19 pm19 an19 cd19 ct19), sl19⟩)
    (c_l_frac : PySem.W.codeIn K cd19 "_law_frac" = true)
    (k_l_frac : PySem.W.keepIn K (.ref f_l_frac) = true)
    (a_l_times : PySem.W.nsIn K mainGlobals "_law_times" = some (some (.ref f_l_times)))
    (l_l_times : K.lookup f_l_times = some ⟨oc20, od20, .func (PySem.W.fnOf "_law_times" "_law_times" (defArgs s_l_times) (defBody s_l_times) (defScope s_l_times) .none kV20 dc20 pm20 an20 cd20 ct20), sl20⟩)
    (c_l_times : PySem.W.codeIn K cd20 "_law_times" = true)
    (k_l_times : PySem.W.keepIn K (.ref f_l_times) = true)
    (a_l_over : PySem.W.nsIn K mainGlobals "_law_over" = some (some (.ref f_l_over)))
    (l_l_over : K.lookup f_l_over = some ⟨oc21, od21, .func (PySem.W.fnOf "_law_over" "_law_over" (defArgs s_l_over) (defBody s_l_over) (defScope s_l_over) .none kV21 dc21 pm21 an21 cd21 ct21), sl21⟩)
    (c_l_over : PySem.W.codeIn K cd21 "_law_over" = true)
    (k_l_over : PySem.W.keepIn K (.ref f_l_over) = true)
    (a_l_some : PySem.W.nsIn K mainGlobals "_law_some" = some (some (.ref f_l_some)))
    (l_l_some : K.lookup f_l_some = some ⟨oc22, od22, .func (PySem.W.fnOf "_law_some" "_law_some" (defArgs s_l_some) (defBody s_l_some) (defScope s_l_some) .none kV22 dc22 pm22 an22 cd22 ct22), sl22⟩)
    (c_l_some : PySem.W.codeIn K cd22 "_law_some" = true)
    (k_l_some : PySem.W.keepIn K (.ref f_l_some) = true)
    (a_l_shuffled : PySem.W.nsIn K mainGlobals "_law_shuffled" = some (some (.ref f_l_shuffled)))
    (l_l_shuffled : K.lookup f_l_shuffled = some ⟨oc23, od23, .func (PySem.W.fnOf "_law_shuffled" "_law_shuffled" (defArgs s_l_shuffled) (defBody s_l_shuffled) (defScope s_l_shuffled) .none kV23 dc23 pm23 an23 cd23 ct23), sl23⟩)
    (c_l_shuffled : PySem.W.codeIn K cd23 "_law_shuffled" = true)
    (k_l_shuffled : PySem.W.keepIn K (.ref f_l_shuffled) = true)
    (a_l_stall : PySem.W.nsIn K mainGlobals "_law_stall" = some (some (.ref f_l_stall)))
    (l_l_stall : K.lookup f_l_stall = some ⟨oc24, od24, .func (PySem.W.fnOf "_law_stall" "_law_stall" (defArgs s_l_stall) (defBody s_l_stall) (defScope s_l_stall) .none kV24 dc24 pm24 an24 cd24 ct24), sl24⟩)
    (c_l_stall : PySem.W.codeIn K cd24 "_law_stall" = true)
    (k_l_stall : PySem.W.keepIn K (.ref f_l_stall) = true)
    (a_l_stalls : PySem.W.nsIn K mainGlobals "_law_stalls" = some (some (.ref f_l_stalls)))
    (l_l_stalls : K.lookup f_l_stalls = some ⟨oc25, od25, .func (PySem.W.fnOf "_law_stalls" "_law_stalls" (defArgs s_l_stalls) (defBody s_l_stalls) (defScope s_l_stalls) .none kV25 dc25 pm25 an25 cd25 ct25), sl25⟩)
    (c_l_stalls : PySem.W.codeIn K cd25 "_law_stalls" = true)
    (k_l_stalls : PySem.W.keepIn K (.ref f_l_stalls) = true)
    (a_l_sizes : PySem.W.nsIn K mainGlobals "_law_sizes" = some (some (.ref f_l_sizes)))
    (l_l_sizes : K.lookup f_l_sizes = some ⟨oc26, od26, .func (PySem.W.fnOf "_law_sizes" "_law_sizes" (defArgs s_l_sizes) (defBody s_l_sizes) (defScope s_l_sizes) .none kV26 dc26 pm26 an26 cd26 ct26), sl26⟩)
    (c_l_sizes : PySem.W.codeIn K cd26 "_law_sizes" = true)
    (k_l_sizes : PySem.W.keepIn K (.ref f_l_sizes) = true)
    (a_l_whole : PySem.W.nsIn K mainGlobals "_law_whole" = some (some (.ref f_l_whole)))
    (l_l_whole : K.lookup f_l_whole = some ⟨oc27, od27, .func (PySem.W.fnOf "_law_whole" "_law_whole" (defArgs s_l_whole) (defBody s_l_whole) (defScope s_l_whole) .none kV27 dc27 pm27 an27 cd27 ct27), sl27⟩)
    (c_l_whole : PySem.W.codeIn K cd27 "_law_whole" = true)
    (k_l_whole : PySem.W.keepIn K (.ref f_l_whole) = true)
    (a_l_is_flag : PySem.W.nsIn K mainGlobals "_law_is_flag" = some (some (.ref f_l_is_flag)))
    (l_l_is_flag : K.lookup f_l_is_flag = some ⟨oc28, od28, .func (PySem.W.fnOf "_law_is_flag" "_law_is_flag" (defArgs s_l_is_flag) (defBody s_l_is_flag) (defScope s_l_is_flag) .none kV28 dc28 pm28 an28 cd28 ct28), sl28⟩)
    (c_l_is_flag : PySem.W.codeIn K cd28 "_law_is_flag" = true)
    (k_l_is_flag : PySem.W.keepIn K (.ref f_l_is_flag) = true)
    (a_l_is_uneven : PySem.W.nsIn K mainGlobals "_law_is_uneven" = some (some (.ref f_l_is_uneven)))
    (l_l_is_uneven : K.lookup f_l_is_uneven = some ⟨oc29, od29, .func (PySem.W.fnOf "_law_is_uneven" "_law_is_uneven" (defArgs s_l_is_uneven) (defBody s_l_is_uneven) (defScope s_l_is_uneven) .none kV29 dc29 pm29 an29 cd29 ct29), sl29⟩)
    (c_l_is_uneven : PySem.W.codeIn K cd29 "_law_is_uneven" = true)
    (k_l_is_uneven : PySem.W.keepIn K (.ref f_l_is_uneven) = true)
    (a_l_ring : PySem.W.nsIn K mainGlobals "_law_ring" = some (some (.ref f_l_ring)))
    (l_l_ring : K.lookup f_l_ring = some ⟨oc30, od30, .func (PySem.W.fnOf "_law_ring" "_law_ring" (defArgs s_l_ring) (defBody s_l_ring) (defScope s_l_ring) .none kV30 dc30 pm30 an30 cd30 ct30), sl30⟩)
    (c_l_ring : PySem.W.codeIn K cd30 "_law_ring" = true)
    (k_l_ring : PySem.W.keepIn K (.ref f_l_ring) = true)
    (a_l_back : PySem.W.nsIn K mainGlobals "_law_back" = some (some (.ref f_l_back)))
    (l_l_back : K.lookup f_l_back = some ⟨oc31, od31, .func (PySem.W.fnOf "_law_back" "_law_back" (defArgs s_l_back) (defBody s_l_back) (defScope s_l_back) .none kV31 dc31 pm31 an31 cd31 ct31), sl31⟩)
    (c_l_back : PySem.W.codeIn K cd31 "_law_back" = true)
    (k_l_back : PySem.W.keepIn K (.ref f_l_back) = true)
    (a_l_bent : PySem.W.nsIn K mainGlobals "_law_bent" = some (some (.ref f_l_bent)))
    (l_l_bent : K.lookup f_l_bent = some ⟨oc32, od32, .func (PySem.W.fnOf "_law_bent" "_law_bent" (defArgs s_l_bent) (defBody s_l_bent) (defScope s_l_bent) .none kV32 dc32 pm32 an32 cd32 ct32), sl32⟩)
    (c_l_bent : PySem.W.codeIn K cd32 "_law_bent" = true)
    (k_l_bent : PySem.W.keepIn K (.ref f_l_bent) = true)
    (a_law : PySem.W.nsIn K mainGlobals "law" = some (some (.ref f_law)))
    (l_law : K.lookup f_law = some ⟨oc33, od33, .func (PySem.W.fnOf "law" "law" (defArgs s_law) (defBody s_law) (defScope s_law) .none kV33 dc33 pm33 an33 cd33 ct33), sl33⟩)
    (c_law : PySem.W.codeIn K cd33 "law" = true)
    (k_law : PySem.W.keepIn K (.ref f_law) = true)
    (l_Web_init : K.lookup f_Web_init = some ⟨oc34, od34, .func (PySem.W.fnOf "__init__" "Web.__init__" (defArgs s_Web_init) (defBody s_Web_init) (defScope s_Web_init) .none kV34 dc34 pm34 an34 cd34 ct34), sl34⟩)
    (c_Web_init : PySem.W.codeIn K cd34 "Web.__init__" = true)
    (k_Web_init : PySem.W.keepIn K (.ref f_Web_init) = true)
    (mi_Web_eq : PySem.W.findIn K (.ref c_Web) "__eq__" = some (some (.ref f_Web_eq)))
    (l_Web_eq : K.lookup f_Web_eq = some ⟨oc35, od35, .func (PySem.W.fnOf "__eq__" "Web.__eq__" (defArgs s_Web_eq) (defBody s_Web_eq) (defScope s_Web_eq) .none kV35 dc35 pm35 an35 cd35 ct35), sl35⟩)
    (c_Web_eq : PySem.W.codeIn K cd35 "Web.__eq__" = true)
    (k_Web_eq : PySem.W.keepIn K (.ref f_Web_eq) = true)
    (mf_Web_eq : PySem.W.isFn K (.ref f_Web_eq) = true)
    (mn_Web : PySem.W.findIn K (.ref c_Web) "__ne__" = some (some (.builtin "object.__ne__")))
    : ∃ fd : FuncData, (∀ (s : Shared) (v : Value), BindsTo s fd ⟨[v], []⟩ [("_law_script", v)]) ∧ ∀ base : Heap, K.In base → base.Ns mainGlobals mg → FnOk l.prog w K mg base CX0 7 fa fd ["_law_script"] (sp_law K) := by
  have e := hfa.symm.trans (PySem.W.mg_of X G a_law)
  cases e
  have T : Txt K mg f_is_integer f_is_row f_is_fraction f_is_some f_multiplied f_squared f_is_stall f_across f_hold_of f_is_index f_is_step f_end_of f_is_walk f_is_ring f_is_uneven f_is_uneven_ring f_l_hand f_l_draw f_l_gcd f_l_frac f_l_times f_l_over f_l_some f_l_shuffled f_l_stall f_l_stalls f_l_sizes f_l_whole f_l_is_flag f_l_is_uneven f_l_ring f_l_back f_l_bent fa f_Web_init f_Web_eq c_Web c_ONE _ _ _ _ _ _ _ _ _ _ _ _ _ _ _ _ _ _ _ _ _ _ _ _ _ _ _ _ _ _ _ _ _ _ _ _ := {
    z_abs := PySem.W.mg_none_of X G z_abs
    z_all := PySem.W.mg_none_of X G z_all
    z_bool := PySem.W.mg_none_of X G z_bool
    z_enumerate := PySem.W.mg_none_of X G z_enumerate
    z_int := PySem.W.mg_none_of X G z_int
    z_isinstance := PySem.W.mg_none_of X G z_isinstance
    z_len := PySem.W.mg_none_of X G z_len
    z_list := PySem.W.mg_none_of X G z_list
    z_max := PySem.W.mg_none_of X G z_max
    z_range := PySem.W.mg_none_of X G z_range
    z_set := PySem.W.mg_none_of X G z_set
    z_tuple := PySem.W.mg_none_of X G z_tuple
    z_zip := PySem.W.mg_none_of X G z_zip
    m_gcd := PySem.W.mg_of X G m_gcd
    w_Web := ⟨PySem.W.mg_of X G a_Web, ⟨mk_Web, in_Web, fn_Web, kp_Web⟩, ⟨⟨pg_Web, hd_Web, po_Web, sa_Web⟩, ha_Web, hn_Web, ht_Web, mo_Web, i_int_Web, i_bool_Web, i_tuple_Web, i_list_Web⟩⟩
    n_Web_wares := na_Web_wares
    n_Web_stalls := na_Web_stalls
    v_ONE := PySem.W.mg_of X G v_ONE
    t_ONE := .inr ⟨_, _, _, o_ONE, rfl, rfl, tv_ONE.2, tv_ONE.1⟩
    v_MOST_STALLS := ⟨_, PySem.W.mg_of X G v_MOST_STALLS, ⟨_, rfl⟩⟩
    v_MOST_WARES := ⟨_, PySem.W.mg_of X G v_MOST_WARES, ⟨_, rfl⟩⟩
    g_is_integer := PySem.W.mg_of X G a_is_integer
    F_is_integer := fun_mk (st := s_is_integer) l_is_integer c_is_integer k_is_integer
    k_is_integer := k_is_integer
    b_is_integer := (fun_mk (st := s_is_integer) l_is_integer c_is_integer k_is_integer).binds (ps := ["thing"]) fun _ _ _ _ _ _ us hl => match us, hl with | [_], _ => rfl
    g_is_row := PySem.W.mg_of X G a_is_row
    F_is_row := fun_mk (st := s_is_row) l_is_row c_is_row k_is_row
    k_is_row := k_is_row
    b_is_row := (fun_mk (st := s_is_row) l_is_row c_is_row k_is_row).binds (ps := ["thing"]) fun _ _ _ _ _ _ us hl => match us, hl with | [_], _ => rfl
    g_is_fraction := PySem.W.mg_of X G a_is_fraction
    F_is_fraction := fun_mk (st := s_is_fraction) l_is_fraction c_is_fraction k_is_fraction
    k_is_fraction := k_is_fraction
    b_is_fraction := (fun_mk (st := s_is_fraction) l_is_fraction c_is_fraction k_is_fraction).binds (ps := ["thing"]) fun _ _ _ _ _ _ us hl => match us, hl with | [_], _ => rfl
    g_is_some := PySem.W.mg_of X G a_is_some
    F_is_some := fun_mk (st := s_is_some) l_is_some c_is_some k_is_some
    k_is_some := k_is_some
    b_is_some := (fun_mk (st := s_is_some) l_is_some c_is_some k_is_some).binds (ps := ["thing"]) fun _ _ _ _ _ _ us hl => match us, hl with | [_], _ => rfl
    g_multiplied := PySem.W.mg_of X G a_multiplied
    F_multiplied := fun_mk (st := s_multiplied) l_multiplied c_multiplied k_multiplied
    k_multiplied := k_multiplied
    b_multiplied := (fun_mk (st := s_multiplied) l_multiplied c_multiplied k_multiplied).binds (ps := ["one", "other"]) fun _ _ _ _ _ _ us hl => match us, hl with | [_, _], _ => rfl
    g_squared := PySem.W.mg_of X G a_squared
    F_squared := fun_mk (st := s_squared) l_squared c_squared k_squared
    k_squared := k_squared
    b_squared := (fun_mk (st := s_squared) l_squared c_squared k_squared).binds (ps := ["one"]) fun _ _ _ _ _ _ us hl => match us, hl with | [_], _ => rfl
    g_is_stall := PySem.W.mg_of X G a_is_stall
    F_is_stall := fun_mk (st := s_is_stall) l_is_stall c_is_stall k_is_stall
    k_is_stall := k_is_stall
    b_is_stall := (fun_mk (st := s_is_stall) l_is_stall c_is_stall k_is_stall).binds (ps := ["wares", "thing"]) fun _ _ _ _ _ _ us hl => match us, hl with | [_, _], _ => rfl
    g_across := PySem.W.mg_of X G a_across
    F_across := fun_mk (st := s_across) l_across c_across k_across
    k_across := k_across
    b_across := (fun_mk (st := s_across) l_across c_across k_across).binds (ps := ["stall", "ware"]) fun _ _ _ _ _ _ us hl => match us, hl with | [_, _], _ => rfl
    g_hold_of := PySem.W.mg_of X G a_hold_of
    F_hold_of := fun_mk (st := s_hold_of) l_hold_of c_hold_of k_hold_of
    k_hold_of := k_hold_of
    b_hold_of := (fun_mk (st := s_hold_of) l_hold_of c_hold_of k_hold_of).binds (ps := ["stall", "ware"]) fun _ _ _ _ _ _ us hl => match us, hl with | [_, _], _ => rfl
    g_is_index := PySem.W.mg_of X G a_is_index
    F_is_index := fun_mk (st := s_is_index) l_is_index c_is_index k_is_index
    k_is_index := k_is_index
    b_is_index := (fun_mk (st := s_is_index) l_is_index c_is_index k_is_index).binds (ps := ["web", "thing"]) fun _ _ _ _ _ _ us hl => match us, hl with | [_, _], _ => rfl
    g_is_step := PySem.W.mg_of X G a_is_step
    F_is_step := fun_mk (st := s_is_step) l_is_step c_is_step k_is_step
    k_is_step := k_is_step
    b_is_step := (fun_mk (st := s_is_step) l_is_step c_is_step k_is_step).binds (ps := ["web", "thing"]) fun _ _ _ _ _ _ us hl => match us, hl with | [_, _], _ => rfl
    g_end_of := PySem.W.mg_of X G a_end_of
    F_end_of := fun_mk (st := s_end_of) l_end_of c_end_of k_end_of
    k_end_of := k_end_of
    b_end_of := (fun_mk (st := s_end_of) l_end_of c_end_of k_end_of).binds (ps := ["web", "step"]) fun _ _ _ _ _ _ us hl => match us, hl with | [_, _], _ => rfl
    g_is_walk := PySem.W.mg_of X G a_is_walk
    F_is_walk := fun_mk (st := s_is_walk) l_is_walk c_is_walk k_is_walk
    k_is_walk := k_is_walk
    b_is_walk := (fun_mk (st := s_is_walk) l_is_walk c_is_walk k_is_walk).binds (ps := ["web", "thing"]) fun _ _ _ _ _ _ us hl => match us, hl with | [_, _], _ => rfl
    g_is_ring := PySem.W.mg_of X G a_is_ring
    F_is_ring := fun_mk (st := s_is_ring) l_is_ring c_is_ring k_is_ring
    k_is_ring := k_is_ring
    b_is_ring := (fun_mk (st := s_is_ring) l_is_ring c_is_ring k_is_ring).binds (ps := ["web", "thing"]) fun _ _ _ _ _ _ us hl => match us, hl with | [_, _], _ => rfl
    g_is_uneven := PySem.W.mg_of X G a_is_uneven
    F_is_uneven := fun_mk (st := s_is_uneven) l_is_uneven c_is_uneven k_is_uneven
    k_is_uneven := k_is_uneven
    b_is_uneven := (fun_mk (st := s_is_uneven) l_is_uneven c_is_uneven k_is_uneven).binds (ps := ["web", "ring"]) fun _ _ _ _ _ _ us hl => match us, hl with | [_, _], _ => rfl
    g_is_uneven_ring := PySem.W.mg_of X G a_is_uneven_ring
    F_is_uneven_ring := fun_mk (st := s_is_uneven_ring) l_is_uneven_ring c_is_uneven_ring k_is_uneven_ring
    k_is_uneven_ring := k_is_uneven_ring
    b_is_uneven_ring := (fun_mk (st := s_is_uneven_ring) l_is_uneven_ring c_is_uneven_ring k_is_uneven_ring).binds (ps := ["web", "thing"]) fun _ _ _ _ _ _ us hl => match us, hl with | [_, _], _ => rfl
    g_l_hand := PySem.W.mg_of X G a_l_hand
    F_l_hand := fun_mk (st := s_l_hand) l_l_hand c_l_hand k_l_hand
    k_l_hand := k_l_hand
    b_l_hand := (fun_mk (st := s_l_hand) l_l_hand c_l_hand k_l_hand).binds (ps := ["_law_script"]) fun _ _ _ _ _ _ us hl => match us, hl with | [_], _ => rfl
    g_l_draw := PySem.W.mg_of X G a_l_draw
    F_l_draw := fun_mk (st := s_l_draw) l_l_draw c_l_draw k_l_draw
    k_l_draw := k_l_draw
    b_l_draw := (fun_mk (st := s_l_draw) l_l_draw c_l_draw k_l_draw).binds (ps := ["_law_hand_here", "_law_many"]) fun _ _ _ _ _ _ us hl => match us, hl with | [_, _], _ => rfl
    g_l_gcd := PySem.W.mg_of X G a_l_gcd
    F_l_gcd := fun_mk (st := s_l_gcd) l_l_gcd c_l_gcd k_l_gcd
    k_l_gcd := k_l_gcd
    b_l_gcd := (fun_mk (st := s_l_gcd) l_l_gcd c_l_gcd k_l_gcd).binds (ps := ["_law_one", "_law_other"]) fun _ _ _ _ _ _ us hl => match us, hl with | [_, _], _ => rfl
    g_l_frac := PySem.W.mg_of X G a_l_frac
    F_l_frac := fun_mk (st := s_l_frac) l_l_frac c_l_frac k_l_frac
    k_l_frac := k_l_frac
    b_l_frac := (fun_mk (st := s_l_frac) l_l_frac c_l_frac k_l_frac).binds (ps := ["_law_top", "_law_bottom"]) fun _ _ _ _ _ _ us hl => match us, hl with | [_, _], _ => rfl
    g_l_times := PySem.W.mg_of X G a_l_times
    F_l_times := fun_mk (st := s_l_times) l_l_times c_l_times k_l_times
    k_l_times := k_l_times
    b_l_times := (fun_mk (st := s_l_times) l_l_times c_l_times k_l_times).binds (ps := ["_law_one", "_law_other"]) fun _ _ _ _ _ _ us hl => match us, hl with | [_, _], _ => rfl
    g_l_over := PySem.W.mg_of X G a_l_over
    F_l_over := fun_mk (st := s_l_over) l_l_over c_l_over k_l_over
    k_l_over := k_l_over
    b_l_over := (fun_mk (st := s_l_over) l_l_over c_l_over k_l_over).binds (ps := ["_law_one", "_law_other"]) fun _ _ _ _ _ _ us hl => match us, hl with | [_, _], _ => rfl
    g_l_some := PySem.W.mg_of X G a_l_some
    F_l_some := fun_mk (st := s_l_some) l_l_some c_l_some k_l_some
    k_l_some := k_l_some
    b_l_some := (fun_mk (st := s_l_some) l_l_some c_l_some k_l_some).binds (ps := ["_law_hand_here"]) fun _ _ _ _ _ _ us hl => match us, hl with | [_], _ => rfl
    g_l_shuffled := PySem.W.mg_of X G a_l_shuffled
    F_l_shuffled := fun_mk (st := s_l_shuffled) l_l_shuffled c_l_shuffled k_l_shuffled
    k_l_shuffled := k_l_shuffled
    b_l_shuffled := (fun_mk (st := s_l_shuffled) l_l_shuffled c_l_shuffled k_l_shuffled).binds (ps := ["_law_hand_here", "_law_things"]) fun _ _ _ _ _ _ us hl => match us, hl with | [_, _], _ => rfl
    g_l_stall := PySem.W.mg_of X G a_l_stall
    F_l_stall := fun_mk (st := s_l_stall) l_l_stall c_l_stall k_l_stall
    k_l_stall := k_l_stall
    b_l_stall := (fun_mk (st := s_l_stall) l_l_stall c_l_stall k_l_stall).binds (ps := ["_law_hand_here", "_law_one", "_law_other", "_law_quotient"]) fun _ _ _ _ _ _ us hl => match us, hl with | [_, _, _, _], _ => rfl
    g_l_stalls := PySem.W.mg_of X G a_l_stalls
    F_l_stalls := fun_mk (st := s_l_stalls) l_l_stalls c_l_stalls k_l_stalls
    k_l_stalls := k_l_stalls
    b_l_stalls := (fun_mk (st := s_l_stalls) l_l_stalls c_l_stalls k_l_stalls).binds (ps := ["_law_hand_here", "_law_wares", "_law_many", "_law_way"]) fun _ _ _ _ _ _ us hl => match us, hl with | [_, _, _, _], _ => rfl
    g_l_sizes := PySem.W.mg_of X G a_l_sizes
    F_l_sizes := fun_mk (st := s_l_sizes) l_l_sizes c_l_sizes k_l_sizes
    k_l_sizes := k_l_sizes
    b_l_sizes := (fun_mk (st := s_l_sizes) l_l_sizes c_l_sizes k_l_sizes).binds (ps := ["_law_hand_here"]) fun _ _ _ _ _ _ us hl => match us, hl with | [_], _ => rfl
    g_l_whole := PySem.W.mg_of X G a_l_whole
    F_l_whole := fun_mk (st := s_l_whole) l_l_whole c_l_whole k_l_whole
    k_l_whole := k_l_whole
    b_l_whole := (fun_mk (st := s_l_whole) l_l_whole c_l_whole k_l_whole).binds (ps := ["_law_thing"]) fun _ _ _ _ _ _ us hl => match us, hl with | [_], _ => rfl
    g_l_is_flag := PySem.W.mg_of X G a_l_is_flag
    F_l_is_flag := fun_mk (st := s_l_is_flag) l_l_is_flag c_l_is_flag k_l_is_flag
    k_l_is_flag := k_l_is_flag
    b_l_is_flag := (fun_mk (st := s_l_is_flag) l_l_is_flag c_l_is_flag k_l_is_flag).binds (ps := ["_law_told", "_law_due"]) fun _ _ _ _ _ _ us hl => match us, hl with | [_, _], _ => rfl
    g_l_is_uneven := PySem.W.mg_of X G a_l_is_uneven
    F_l_is_uneven := fun_mk (st := s_l_is_uneven) l_l_is_uneven c_l_is_uneven k_l_is_uneven
    k_l_is_uneven := k_l_is_uneven
    b_l_is_uneven := (fun_mk (st := s_l_is_uneven) l_l_is_uneven c_l_is_uneven k_l_is_uneven).binds (ps := ["_law_stalls_here", "_law_thing"]) fun _ _ _ _ _ _ us hl => match us, hl with | [_, _], _ => rfl
    g_l_ring := PySem.W.mg_of X G a_l_ring
    F_l_ring := fun_mk (st := s_l_ring) l_l_ring c_l_ring k_l_ring
    k_l_ring := k_l_ring
    b_l_ring := (fun_mk (st := s_l_ring) l_l_ring c_l_ring k_l_ring).binds (ps := ["_law_hand_here", "_law_stalls_here", "_law_wares"]) fun _ _ _ _ _ _ us hl => match us, hl with | [_, _, _], _ => rfl
    g_l_back := PySem.W.mg_of X G a_l_back
    F_l_back := fun_mk (st := s_l_back) l_l_back c_l_back k_l_back
    k_l_back := k_l_back
    b_l_back := (fun_mk (st := s_l_back) l_l_back c_l_back k_l_back).binds (ps := ["_law_stalls_here", "_law_ring_here"]) fun _ _ _ _ _ _ us hl => match us, hl with | [_, _], _ => rfl
    g_l_bent := PySem.W.mg_of X G a_l_bent
    F_l_bent := fun_mk (st := s_l_bent) l_l_bent c_l_bent k_l_bent
    k_l_bent := k_l_bent
    b_l_bent := (fun_mk (st := s_l_bent) l_l_bent c_l_bent k_l_bent).binds (ps := ["_law_hand_here", "_law_ring_here", "_law_many", "_law_wares"]) fun _ _ _ _ _ _ us hl => match us, hl with | [_, _, _, _], _ => rfl
    g_law := PySem.W.mg_of X G a_law
    F_law := fun_mk (st := s_law) l_law c_law k_law
    k_law := k_law
    b_law := (fun_mk (st := s_law) l_law c_law k_law).binds (ps := ["_law_script"]) fun _ _ _ _ _ _ us hl => match us, hl with | [_], _ => rfl
    F_Web_init := fun_mk (st := s_Web_init) l_Web_init c_Web_init k_Web_init
    b_Web_init := (fun_mk (st := s_Web_init) l_Web_init c_Web_init k_Web_init).binds (ps := ["self", "wares", "stalls"]) fun _ _ _ _ _ _ us hl => match us, hl with | [_, _, _], _ => rfl
    i_Web_eq := mi_Web_eq
    fn_Web_eq := mf_Web_eq
    ne_Web := mn_Web
    F_Web_eq := fun_mk (st := s_Web_eq) l_Web_eq c_Web_eq k_Web_eq
    k_Web_eq := k_Web_eq
    b_Web_eq := (fun_mk (st := s_Web_eq) l_Web_eq c_Web_eq k_Web_eq).binds (ps := ["self", "other"]) fun _ _ _ _ _ _ us hl => match us, hl with | [_, _], _ => rfl
  }
  exact ⟨_, fun s v => .of_eq rfl, fun base _ _ => ok_all T⟩
end My
open PySem PySem.W PyProof.Rows
set_option maxRecDepth 100000 in
set_option maxHeartbeats 0 in
theorem PySem.Challenge.cw_rootstalls_k29_uneven_rings_judged_holds : PySem.Challenge.rw_rootstalls_k29_uneven_rings_judged.Holds := by
  w_on; o_law; k_head; (case hw => w_witness2)
  k_fill
  refine L2.walk_ofB (l := PySem.Challenge.rw_rootstalls_k29_uneven_rings_judged) (n := 63) (k := 7) (x := "_law_script") (CX := fun _ => L2.CX0) (sp := fun w => My.sp_law _) rfl (by decide) rfl ⟨rfl, by decide, by decide⟩ (fun w h Y => PySem.W.kIn_of Y) ?F (fun _ _ a ns hl hb _ hS => ⟨a, ns, rfl, hS, hl, hb, fun _ => rfl⟩) (fun _ _ _ _ _ h => h)
  case F =>
    intro w mg fa h KX G hmg
    refine' My.all_mk KX G hmg ?z_abs ?z_all ?z_bool ?z_enumerate ?z_int ?z_isinstance ?z_len ?z_list ?z_max ?z_range ?z_set ?z_tuple ?z_zip ?m_gcd ?a_Web ?mk_Web ?in_Web ?fn_Web ?kp_Web ?pg_Web ?hd_Web ?po_Web ?sa_Web ?ha_Web ?hn_Web ?ht_Web ?mo_Web ?i_int_Web ?i_bool_Web ?i_tuple_Web ?i_list_Web ?na_Web_wares ?na_Web_stalls ?v_ONE ?o_ONE ?tv_ONE ?v_MOST_STALLS ?v_MOST_WARES ?a_is_integer ?l_is_integer ?c_is_integer ?k_is_integer ?a_is_row ?l_is_row ?c_is_row ?k_is_row ?a_is_fraction ?l_is_fraction ?c_is_fraction ?k_is_fraction ?a_is_some ?l_is_some ?c_is_some ?k_is_some ?a_multiplied ?l_multiplied ?c_multiplied ?k_multiplied ?a_squared ?l_squared ?c_squared ?k_squared ?a_is_stall ?l_is_stall ?c_is_stall ?k_is_stall ?a_across ?l_across ?c_across ?k_across ?a_hold_of ?l_hold_of ?c_hold_of ?k_hold_of ?a_is_index ?l_is_index ?c_is_index ?k_is_index ?a_is_step ?l_is_step ?c_is_step ?k_is_step ?a_end_of ?l_end_of ?c_end_of ?k_end_of ?a_is_walk ?l_is_walk ?c_is_walk ?k_is_walk ?a_is_ring ?l_is_ring ?c_is_ring ?k_is_ring ?a_is_uneven ?l_is_uneven ?c_is_uneven ?k_is_uneven ?a_is_uneven_ring ?l_is_uneven_ring ?c_is_uneven_ring ?k_is_uneven_ring ?a_l_hand ?l_l_hand ?c_l_hand ?k_l_hand ?a_l_draw ?l_l_draw ?c_l_draw ?k_l_draw ?a_l_gcd ?l_l_gcd ?c_l_gcd ?k_l_gcd ?a_l_frac ?l_l_frac ?c_l_frac ?k_l_frac ?a_l_times ?l_l_times ?c_l_times ?k_l_times ?a_l_over ?l_l_over ?c_l_over ?k_l_over ?a_l_some ?l_l_some ?c_l_some ?k_l_some ?a_l_shuffled ?l_l_shuffled ?c_l_shuffled ?k_l_shuffled ?a_l_stall ?l_l_stall ?c_l_stall ?k_l_stall ?a_l_stalls ?l_l_stalls ?c_l_stalls ?k_l_stalls ?a_l_sizes ?l_l_sizes ?c_l_sizes ?k_l_sizes ?a_l_whole ?l_l_whole ?c_l_whole ?k_l_whole ?a_l_is_flag ?l_l_is_flag ?c_l_is_flag ?k_l_is_flag ?a_l_is_uneven ?l_l_is_uneven ?c_l_is_uneven ?k_l_is_uneven ?a_l_ring ?l_l_ring ?c_l_ring ?k_l_ring ?a_l_back ?l_l_back ?c_l_back ?k_l_back ?a_l_bent ?l_l_bent ?c_l_bent ?k_l_bent ?a_law ?l_law ?c_law ?k_law ?l_Web_init ?c_Web_init ?k_Web_init ?mi_Web_eq ?l_Web_eq ?c_Web_eq ?k_Web_eq ?mf_Web_eq ?mn_Web
    (case z_abs => k_is)
    (case z_all => k_is)
    (case z_bool => k_is)
    (case z_enumerate => k_is)
    (case z_int => k_is)
    (case z_isinstance => k_is)
    (case z_len => k_is)
    (case z_list => k_is)
    (case z_max => k_is)
    (case z_range => k_is)
    (case z_set => k_is)
    (case z_tuple => k_is)
    (case z_zip => k_is)
    (case m_gcd => k_is)
    (case a_Web => k_is)
    (case mk_Web => k_is)
    (case in_Web => k_is)
    (case fn_Web => k_is)
    (case kp_Web => k_is)
    (case pg_Web => k_is)
    (case hd_Web => k_is)
    (case po_Web => k_is)
    (case sa_Web => k_is)
    (case ha_Web => k_is)
    (case hn_Web => k_is)
    (case ht_Web => k_is)
    (case mo_Web => k_is)
    (case i_int_Web => first | rfl | k_is | decide +kernel)
    (case i_bool_Web => first | rfl | k_is | decide +kernel)
    (case i_tuple_Web => first | rfl | k_is | decide +kernel)
    (case i_list_Web => first | rfl | k_is | decide +kernel)
    (case na_Web_wares => k_is)
    (case na_Web_stalls => k_is)
    (case v_ONE => k_is)
    (case o_ONE => k_is)
    (case tv_ONE => exact ⟨(.cons ⟨_, rfl⟩ (.cons ⟨_, rfl⟩ .nil)), by decide⟩)
    (case v_MOST_STALLS => k_is)
    (case v_MOST_WARES => k_is)
    (case a_is_integer => k_is)
    (case l_is_integer => k_is)
    (case c_is_integer => k_is)
    (case k_is_integer => k_is)
    (case a_is_row => k_is)
    (case l_is_row => k_is)
    (case c_is_row => k_is)
    (case k_is_row => k_is)
    (case a_is_fraction => k_is)
    (case l_is_fraction => k_is)
    (case c_is_fraction => k_is)
    (case k_is_fraction => k_is)
    (case a_is_some => k_is)
    (case l_is_some => k_is)
    (case c_is_some => k_is)
    (case k_is_some => k_is)
    (case a_multiplied => k_is)
    (case l_multiplied => k_is)
    (case c_multiplied => k_is)
    (case k_multiplied => k_is)
    (case a_squared => k_is)
    (case l_squared => k_is)
    (case c_squared => k_is)
    (case k_squared => k_is)
    (case a_is_stall => k_is)
    (case l_is_stall => k_is)
    (case c_is_stall => k_is)
    (case k_is_stall => k_is)
    (case a_across => k_is)
    (case l_across => k_is)
    (case c_across => k_is)
    (case k_across => k_is)
    (case a_hold_of => k_is)
    (case l_hold_of => k_is)
    (case c_hold_of => k_is)
    (case k_hold_of => k_is)
    (case a_is_index => k_is)
    (case l_is_index => k_is)
    (case c_is_index => k_is)
    (case k_is_index => k_is)
    (case a_is_step => k_is)
    (case l_is_step => k_is)
    (case c_is_step => k_is)
    (case k_is_step => k_is)
    (case a_end_of => k_is)
    (case l_end_of => k_is)
    (case c_end_of => k_is)
    (case k_end_of => k_is)
    (case a_is_walk => k_is)
    (case l_is_walk => k_is)
    (case c_is_walk => k_is)
    (case k_is_walk => k_is)
    (case a_is_ring => k_is)
    (case l_is_ring => k_is)
    (case c_is_ring => k_is)
    (case k_is_ring => k_is)
    (case a_is_uneven => k_is)
    (case l_is_uneven => k_is)
    (case c_is_uneven => k_is)
    (case k_is_uneven => k_is)
    (case a_is_uneven_ring => k_is)
    (case l_is_uneven_ring => k_is)
    (case c_is_uneven_ring => k_is)
    (case k_is_uneven_ring => k_is)
    (case a_l_hand => k_is)
    (case l_l_hand => k_is)
    (case c_l_hand => k_is)
    (case k_l_hand => k_is)
    (case a_l_draw => k_is)
    (case l_l_draw => k_is)
    (case c_l_draw => k_is)
    (case k_l_draw => k_is)
    (case a_l_gcd => k_is)
    (case l_l_gcd => k_is)
    (case c_l_gcd => k_is)
    (case k_l_gcd => k_is)
    (case a_l_frac => k_is)
    (case l_l_frac => k_is)
    (case c_l_frac => k_is)
    (case k_l_frac => k_is)
    (case a_l_times => k_is)
    (case l_l_times => k_is)
    (case c_l_times => k_is)
    (case k_l_times => k_is)
    (case a_l_over => k_is)
    (case l_l_over => k_is)
    (case c_l_over => k_is)
    (case k_l_over => k_is)
    (case a_l_some => k_is)
    (case l_l_some => k_is)
    (case c_l_some => k_is)
    (case k_l_some => k_is)
    (case a_l_shuffled => k_is)
    (case l_l_shuffled => k_is)
    (case c_l_shuffled => k_is)
    (case k_l_shuffled => k_is)
    (case a_l_stall => k_is)
    (case l_l_stall => k_is)
    (case c_l_stall => k_is)
    (case k_l_stall => k_is)
    (case a_l_stalls => k_is)
    (case l_l_stalls => k_is)
    (case c_l_stalls => k_is)
    (case k_l_stalls => k_is)
    (case a_l_sizes => k_is)
    (case l_l_sizes => k_is)
    (case c_l_sizes => k_is)
    (case k_l_sizes => k_is)
    (case a_l_whole => k_is)
    (case l_l_whole => k_is)
    (case c_l_whole => k_is)
    (case k_l_whole => k_is)
    (case a_l_is_flag => k_is)
    (case l_l_is_flag => k_is)
    (case c_l_is_flag => k_is)
    (case k_l_is_flag => k_is)
    (case a_l_is_uneven => k_is)
    (case l_l_is_uneven => k_is)
    (case c_l_is_uneven => k_is)
    (case k_l_is_uneven => k_is)
    (case a_l_ring => k_is)
    (case l_l_ring => k_is)
    (case c_l_ring => k_is)
    (case k_l_ring => k_is)
    (case a_l_back => k_is)
    (case l_l_back => k_is)
    (case c_l_back => k_is)
    (case k_l_back => k_is)
    (case a_l_bent => k_is)
    (case l_l_bent => k_is)
    (case c_l_bent => k_is)
    (case k_l_bent => k_is)
    (case a_law => k_is)
    (case l_law => k_is)
    (case c_law => k_is)
    (case k_law => k_is)
    (case l_Web_init => k_is)
    (case c_Web_init => k_is)
    (case k_Web_init => k_is)
    (case mi_Web_eq => k_is)
    (case l_Web_eq => k_is)
    (case c_Web_eq => k_is)
    (case k_Web_eq => k_is)
    (case mf_Web_eq => k_is)
    (case mn_Web => k_is)
