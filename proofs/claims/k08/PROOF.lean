import PyProof.Rows.All
import Wide.All
import OpenK.AllK
import Wide.FinOn
import HandS.ForMost
import HandS.WideBits
import HandS.Gcd
import HandS.IsInst
import HandS.Style
import HandS.SetFor
import HandS.EndBits
import HandS.Codes
import HandS.ForExc
import HandS.Small
import HandS.Exc
import HandS.ExcOwn
import HandS.TryOnly
import HandS.WordsExc
import HandS.ExcInit
import HandS.ExcField
import Flt.RightSqrt
import HandS.GenYield
import HandS.OwnEq
import HandS.TupAny
import PyProof.Draws
import KE.DataMinMax
import HandS.Zip
import KE.GoesZip
import HandS.TupMul
import HandS.Strs
import HandS.Conv
import HandS.DictComp
import HandS.WordsDict
import HandS.Dict
import KE.SortData
import KE.DataCmp
import PySem.Challenge.RW_rootstalls_k08_whole_pieces
set_option Elab.async false
set_option linter.all false
set_option maxRecDepth 100000
set_option maxHeartbeats 4000000
namespace My
/-! ### fractions in lowest terms are the rationals -/
theorem rat_of {n : Int} {d : Nat} {r : Rat} (hd : d ≠ 0) (hc : n.natAbs.Coprime d) (h : Rat.divInt n (d : Int) = r) : r.num = n ∧ r.den = d := by
  subst h
  rw [← Rat.mk_eq_divInt (nz := hd) (c := hc)]
  exact ⟨rfl, rfl⟩
theorem rat_cross {n d : Int} {r : Rat} (hd : d ≠ 0) : Rat.divInt n d = r ↔ n * r.den = r.num * d := by
  have h := Rat.num_divInt_den r
  have hz : (r.den : Int) ≠ 0 := by
    have := r.den_pos
    omega
  constructor
  · intro e
    rw [← h] at e
    exact (Rat.divInt_eq_divInt_iff hd hz).mp e
  · intro e
    rw [← h]
    exact (Rat.divInt_eq_divInt_iff hd hz).mpr e
theorem den_pos (r : Rat) : (0 : Int) < r.den := by
  have := r.den_pos
  omega
theorem gcd_den (r : Rat) : Nat.gcd r.num.natAbs r.den = 1 := r.reduced
/-- the sum -/
theorem add_form (r s : Rat) (g ad bd : Nat) (top : Int) (g1 : Nat) (hg : g = r.den.gcd s.den) (had : ad = r.den / g) (hbd : bd = s.den / g) (ht : top = r.num * bd + s.num * ad) (h1 : g1 = top.natAbs.gcd g) :
    (r + s).num = top / g1 ∧ (r + s).den = ad * (s.den / g1) := by
  have hd := r.den_pos
  have hs := s.den_pos
  have gpos : 0 < g := hg ▸ Nat.gcd_pos_of_pos_left _ hd
  have ae : ad * g = r.den := had ▸ Nat.div_mul_cancel (hg ▸ Nat.gcd_dvd_left ..)
  have be : bd * g = s.den := hbd ▸ Nat.div_mul_cancel (hg ▸ Nat.gcd_dvd_right ..)
  have adpos : 0 < ad := by
    rcases Nat.eq_zero_or_pos ad with e | e
    · rw [e] at ae
      omega
    · exact e
  have aux : top.natAbs.gcd g = top.natAbs.gcd (ad * s.den) := by
    rw [ht]
    exact Rat.add.aux r s hg had hbd
  have g1pos : 0 < g1 := h1 ▸ Nat.gcd_pos_of_pos_right _ gpos
  have d1 : g1 ∣ top.natAbs := h1 ▸ Nat.gcd_dvd_left ..
  have d2 : g1 ∣ g := h1 ▸ Nat.gcd_dvd_right ..
  have d3 : g1 ∣ s.den := Nat.dvd_trans d2 ⟨bd, by rw [← be, Nat.mul_comm]⟩
  have e1 : ad * (s.den / g1) = ad * s.den / g1 := (Nat.mul_div_assoc ad d3).symm
  have d4 : g1 ∣ ad * s.den := Nat.dvd_trans d3 (Nat.dvd_mul_left ..)
  rw [e1]
  have tz : (g1 : Int) ∣ top := Int.ofNat_dvd_left.mpr d1
  have tm : top / g1 * g1 = top := Int.ediv_mul_cancel tz
  have dm : ad * s.den / g1 * g1 = ad * s.den := Nat.div_mul_cancel d4
  have nz : ad * s.den / g1 ≠ 0 := by
    intro e
    rw [e] at dm
    have : 0 < ad * s.den := Nat.mul_pos adpos hs
    omega
  refine rat_of nz ?_ ?_
  · have na : (top / (g1 : Int)).natAbs = top.natAbs / g1 := by
      rw [Int.natAbs_ediv_of_dvd tz, Int.natAbs_natCast]
    rw [na, h1, aux]
    exact Nat.coprime_div_gcd_div_gcd (Nat.gcd_pos_of_pos_right _ (Nat.mul_pos adpos hs))
  · have z1 : (g1 : Int) ≠ 0 := by omega
    have z2 : (g : Int) ≠ 0 := by omega
    rw [← Rat.divInt_mul_right z1, tm, ← Int.natCast_mul, dm, ← Rat.divInt_mul_right z2]
    have er := Rat.num_divInt_den r
    have es := Rat.num_divInt_den s
    have rz : (r.den : Int) ≠ 0 := by omega
    have sz : (s.den : Int) ≠ 0 := by omega
    have key := Rat.divInt_add_divInt r.num s.num rz sz
    rw [er, es] at key
    rw [key]
    have k1 : top * g = r.num * s.den + s.num * r.den := by
      rw [ht, ← be, ← ae, Int.natCast_mul, Int.natCast_mul, Int.add_mul, Int.mul_assoc, Int.mul_assoc]
    have k2 : ((ad * s.den : Nat) : Int) * (g : Int) = r.den * s.den := by
      rw [← ae, Int.natCast_mul, Int.natCast_mul, Int.mul_assoc, Int.mul_comm (s.den : Int), ← Int.mul_assoc]
    rw [k1, k2]
/-- the product -/
theorem mul_form (r s : Rat) (g1 g2 : Nat) (h1 : g1 = r.num.natAbs.gcd s.den) (h2 : g2 = s.num.natAbs.gcd r.den) :
    (r * s).num = r.num / g1 * (s.num / g2) ∧ (r * s).den = r.den / g2 * (s.den / g1) := by
  subst h1 h2
  have e : r * s = Rat.mul r s := rfl
  rw [e]
  unfold Rat.mul
  refine ⟨?_, ?_⟩
  · show r.num.divExact _ _ * s.num.divExact _ _ = _
    rw [Int.divExact_eq_tdiv, Int.divExact_eq_tdiv, Int.tdiv_eq_ediv_of_dvd, Int.tdiv_eq_ediv_of_dvd]
    · exact Int.ofNat_dvd_left.mpr (Nat.gcd_dvd_left ..)
    · exact Int.ofNat_dvd_left.mpr (Nat.gcd_dvd_left ..)
  · show r.den.divExact _ _ * s.den.divExact _ _ = _
    rw [Nat.divExact_eq_div, Nat.divExact_eq_div]
/-- lowest terms of any pair -/
theorem low_form (n d : Int) (hd : d ≠ 0) : (Rat.divInt n d).num = (if d < 0 then n / (-(n.natAbs.gcd d.natAbs : Nat) : Int) else n / (n.natAbs.gcd d.natAbs : Nat)) ∧
    ((Rat.divInt n d).den : Int) = (if d < 0 then d / (-(n.natAbs.gcd d.natAbs : Nat) : Int) else d / (n.natAbs.gcd d.natAbs : Nat)) := by
  have pos : ∀ (n d : Int), 0 < d → (Rat.divInt n d).num = n / (n.natAbs.gcd d.natAbs : Nat) ∧ ((Rat.divInt n d).den : Int) = d / (n.natAbs.gcd d.natAbs : Nat) := by
    intro n d h
    have gp : 0 < n.natAbs.gcd d.natAbs := Nat.gcd_pos_of_pos_right _ (by omega)
    have z1 : ((n.natAbs.gcd d.natAbs : Nat) : Int) ≠ 0 := by omega
    have dn : ((n.natAbs.gcd d.natAbs : Nat) : Int) ∣ n := Int.ofNat_dvd_left.mpr (Nat.gcd_dvd_left ..)
    have dd : ((n.natAbs.gcd d.natAbs : Nat) : Int) ∣ d := Int.ofNat_dvd_left.mpr (Nat.gcd_dvd_right ..)
    have e : d / ((n.natAbs.gcd d.natAbs : Nat) : Int) = ((d.natAbs / n.natAbs.gcd d.natAbs : Nat) : Int) := by
      rw [Int.natCast_ediv]
      congr 1
      omega
    have dpos : d.natAbs / n.natAbs.gcd d.natAbs ≠ 0 := Nat.ne_of_gt (Nat.div_pos (Nat.le_of_dvd (by omega) (Nat.gcd_dvd_right ..)) gp)
    have key := rat_of (n := n / ((n.natAbs.gcd d.natAbs : Nat) : Int)) (d := d.natAbs / n.natAbs.gcd d.natAbs) (r := Rat.divInt n d) dpos
      (by
        rw [Int.natAbs_ediv_of_dvd dn, Int.natAbs_natCast]
        exact Nat.coprime_div_gcd_div_gcd gp)
      (by rw [← e, ← Rat.divInt_mul_right z1, Int.ediv_mul_cancel dn, Int.ediv_mul_cancel dd])
    exact ⟨key.1, by rw [key.2, e]⟩
  rcases Int.lt_or_gt_of_ne hd with h | h
  · rw [if_pos h, if_pos h, ← Rat.neg_divInt_neg]
    have k := pos (-n) (-d) (by omega)
    rw [Int.natAbs_neg, Int.natAbs_neg] at k
    rw [k.1, k.2]
    have dn : ((n.natAbs.gcd d.natAbs : Nat) : Int) ∣ n := Int.ofNat_dvd_left.mpr (Nat.gcd_dvd_left ..)
    have dd : ((n.natAbs.gcd d.natAbs : Nat) : Int) ∣ d := Int.ofNat_dvd_left.mpr (Nat.gcd_dvd_right ..)
    rw [Int.neg_ediv_of_dvd dn, Int.neg_ediv_of_dvd dd, Int.ediv_neg, Int.ediv_neg]
    exact ⟨rfl, rfl⟩
  · have k := pos n d h
    rw [if_neg (by omega), if_neg (by omega)]
    exact k
theorem low_self (r : Rat) : Rat.divInt r.num r.den = r := Rat.num_divInt_den r
/-! ### sizes -/
def Bd (k : Nat) (r : Rat) : Prop := r.num.natAbs < 2 ^ k ∧ r.den < 2 ^ k
theorem Bd.mono {k l : Nat} {r : Rat} (h : Bd k r) (hl : k ≤ l) : Bd l r := ⟨Nat.lt_of_lt_of_le h.1 (Nat.pow_le_pow_right (by decide) hl), Nat.lt_of_lt_of_le h.2 (Nat.pow_le_pow_right (by decide) hl)⟩
theorem nat_mul_lt {a b k l : Nat} (ha : a < 2 ^ k) (hb : b < 2 ^ l) : a * b < 2 ^ (k + l) := by
  rw [Nat.pow_add]
  exact Nat.mul_lt_mul'' ha hb
theorem Bd.divInt {k : Nat} {n d : Int} (hd : d ≠ 0) (h1 : n.natAbs < 2 ^ k) (h2 : d.natAbs < 2 ^ k) : Bd k (Rat.divInt n d) := by
  obtain ⟨a, b⟩ := low_form n d hd
  have dn : ((n.natAbs.gcd d.natAbs : Nat) : Int) ∣ n := Int.ofNat_dvd_left.mpr (Nat.gcd_dvd_left ..)
  have dd : ((n.natAbs.gcd d.natAbs : Nat) : Int) ∣ d := Int.ofNat_dvd_left.mpr (Nat.gcd_dvd_right ..)
  have dp := (Rat.divInt n d).den_pos
  refine ⟨Nat.lt_of_le_of_lt ?_ h1, Nat.lt_of_le_of_lt ?_ h2⟩
  · rw [a]
    split
    · rw [Int.ediv_neg, Int.natAbs_neg, Int.natAbs_ediv_of_dvd dn]
      exact Nat.div_le_self _ _
    · rw [Int.natAbs_ediv_of_dvd dn]
      exact Nat.div_le_self _ _
  · have e : (Rat.divInt n d).den = ((Rat.divInt n d).den : Int).natAbs := (Int.natAbs_natCast _).symm
    rw [e, b]
    split
    · rw [Int.ediv_neg, Int.natAbs_neg, Int.natAbs_ediv_of_dvd dd]
      exact Nat.div_le_self _ _
    · rw [Int.natAbs_ediv_of_dvd dd]
      exact Nat.div_le_self _ _
theorem Bd.add {k l : Nat} {r s : Rat} (hr : Bd k r) (hs : Bd l s) : Bd (k + l + 1) (r + s) := by
  have rz : (r.den : Int) ≠ 0 := Int.ne_of_gt (den_pos r)
  have sz : (s.den : Int) ≠ 0 := Int.ne_of_gt (den_pos s)
  have key := Rat.divInt_add_divInt r.num s.num rz sz
  rw [low_self, low_self] at key
  rw [key]
  have a := nat_mul_lt hr.1 hs.2
  have b := nat_mul_lt hs.1 hr.2
  have c := nat_mul_lt hr.2 hs.2
  rw [Nat.add_comm l k] at b
  refine Bd.divInt (Int.mul_ne_zero rz sz) ?_ ?_
  · have h1 : (r.num * (s.den : Int) + s.num * (r.den : Int)).natAbs ≤ (r.num * (s.den : Int)).natAbs + (s.num * (r.den : Int)).natAbs := Int.natAbs_add_le _ _
    rw [Int.natAbs_mul, Int.natAbs_mul, Int.natAbs_natCast, Int.natAbs_natCast] at h1
    rw [Nat.pow_succ]
    omega
  · rw [Int.natAbs_mul, Int.natAbs_natCast, Int.natAbs_natCast, Nat.pow_succ]
    omega
theorem Bd.mul {k l : Nat} {r s : Rat} (hr : Bd k r) (hs : Bd l s) : Bd (k + l) (r * s) := by
  have rz : (r.den : Int) ≠ 0 := Int.ne_of_gt (den_pos r)
  have sz : (s.den : Int) ≠ 0 := Int.ne_of_gt (den_pos s)
  have key := Rat.divInt_mul_divInt r.num s.num (d₁ := r.den) (d₂ := s.den)
  rw [low_self, low_self] at key
  rw [key]
  refine Bd.divInt (Int.mul_ne_zero rz sz) ?_ ?_
  · rw [Int.natAbs_mul]
    exact nat_mul_lt hr.1 hs.1
  · rw [Int.natAbs_mul, Int.natAbs_natCast, Int.natAbs_natCast]
    exact nat_mul_lt hr.2 hs.2
theorem Bd.neg {k : Nat} {r : Rat} (hr : Bd k r) : Bd k (-r) := by
  refine ⟨?_, ?_⟩
  · rw [Rat.neg_num, Int.natAbs_neg]
    exact hr.1
  · rw [Rat.neg_den]
    exact hr.2
theorem Bd.sub {k l : Nat} {r s : Rat} (hr : Bd k r) (hs : Bd l s) : Bd (k + l + 1) (r - s) := by
  rw [Rat.sub_eq_add_neg]
  exact hr.add hs.neg
theorem inv_num {s : Rat} (h : s ≠ 0) : (if s.num < 0 then -(s.den : Int) else s.den) = (s⁻¹).num ∧ (if s.num < 0 then -s.num else s.num) = (s⁻¹).den := by
  have hn : s.num ≠ 0 := fun e => h (Rat.num_eq_zero.mp e)
  rw [Rat.num_inv, Rat.den_inv, if_neg hn]
  split
  · rename_i g
    rw [Int.sign_eq_neg_one_of_neg g]
    omega
  · rename_i g
    rw [Int.sign_eq_one_of_pos (by omega)]
    omega
theorem Bd.inv {k : Nat} {s : Rat} (h : s ≠ 0) (hs : Bd k s) : Bd k s⁻¹ := by
  obtain ⟨a, b⟩ := inv_num h
  have dp := den_pos s
  refine ⟨?_, ?_⟩
  · rw [← a]
    have := hs.2
    split <;> omega
  · have := hs.1
    have e : (s⁻¹).den = ((s⁻¹).den : Int).natAbs := (Int.natAbs_natCast _).symm
    rw [e, ← b]
    split <;> omega
theorem Bd.div {k l : Nat} {r s : Rat} (h : s ≠ 0) (hr : Bd k r) (hs : Bd l s) : Bd (k + l) (r / s) := by
  rw [Rat.div_def]
  exact hr.mul (hs.inv h)
end My
namespace My
open PySem PySem.Spec PyProof.Rows L2
theorem and_sw {A B : Prop} (b : B) (a : A) : A ∧ B := ⟨a, b⟩
theorem if_dec {p : Prop} [Decidable p] {A B : Prop} (h1 : p → A) (h2 : ¬ p → B) : if decide p = true then A else B := by
  by_cases h : p
  · rw [if_pos (decide_eq_true h)]
    exact h1 h
  · rw [if_neg (fun q => h (of_decide_eq_true q))]
    exact h2 h
theorem if_ndec {p : Prop} [Decidable p] {A B : Prop} (h1 : ¬ p → A) (h2 : p → B) : if (!decide p) = true then A else B := by
  by_cases h : p
  · rw [decide_eq_true h]
    exact iteF (h2 h)
  · rw [decide_eq_false h]
    exact iteT (h1 h)
/-- // by a divisor that is not 0, below 2 ^ 9000 -/
def CDivX (_ j : Int) : Prop := j ≠ 0 ∧ j.natAbs.log2 < 9000
section
variable {X : Cx}
theorem op_fdivX : OpR X (binaryOp .FloorDiv) (rI CDivX fun i j => .int (i.fdiv j)) := opI fun _ _ _ _ _ _ _ hc q => floordiv_int hc.1 q (.inl (PyProof.noPylong_of_log2 hc.2))
end
theorem cdivx {i j : Int} {b : Nat} (h : j ≠ 0) (hb : j.natAbs < 2 ^ b) (h9 : b ≤ 9000) : CDivX i j := by
  refine ⟨h, ?_⟩
  by_cases h0 : b = 0
  · subst h0
    omega
  · exact Nat.lt_of_lt_of_le (PySem.Flt.log2_lt_of (by omega) hb) h9
/-! ### heaps: all that was there, but what stands at D, stands -/
def Fw (D : Addr) (H H' : Hp) : Prop := ∀ b o, b ≠ D → H b = some o → H' b = some o
theorem Fw.refl (D : Addr) (H : Hp) : Fw D H H := fun _ _ _ h => h
theorem Fw.trans {D : Addr} {H H1 H2 : Hp} (a : Fw D H H1) (b : Fw D H1 H2) : Fw D H H2 := fun c o n h => b c o n (a c o n h)
theorem Same.fw {D : Addr} {H H' : Hp} (s : Same H H') : Fw D H H' := fun b o _ h => s b o h
theorem same_upd {H : Hp} {p : Addr} {o : HO} (h : H p = none) : Same H (upd H p o) := fun b x e => by
  rw [upd_ne (ne_of_none e h)]
  exact e
theorem fw_upd {D : Addr} {H : Hp} {o : HO} : Fw D H (upd H D o) := fun b x n e => by
  rw [upd_ne n]
  exact e
/-! ### the deck -/
def Deck (M : Nat) (D C : Addr) (H : Hp) (c : Nat) : Prop := ∃ (cells : List Int) (pl rest cnt : Int), C ≠ D ∧ H D = some (.lst [.ref C, .int pl, .int rest, .int cnt]) ∧ H C = some (.lst (cells.map V.int)) ∧
  cells.length ≤ 63 ∧ (∀ z ∈ cells, z.natAbs < 2 ^ M) ∧ (0 ≤ rest ∧ rest.natAbs < 2 ^ M) ∧ 0 ≤ cnt ∧ cnt ≤ c
theorem Deck.same {M : Nat} {D C : Addr} {H H' : Hp} {c : Nat} (d : Deck M D C H c) (s : Same H H') : Deck M D C H' c := by
  obtain ⟨cells, pl, rest, cnt, h0, h1, h2, h3⟩ := d
  exact ⟨cells, pl, rest, cnt, h0, s _ _ h1, s _ _ h2, h3⟩
theorem Deck.mono {M : Nat} {D C : Addr} {H : Hp} {c c' : Nat} (d : Deck M D C H c) (h : c ≤ c') : Deck M D C H c' := by
  obtain ⟨cells, pl, rest, cnt, h0, h1, h2, h3, h4, h5, h6, h7⟩ := d
  exact ⟨cells, pl, rest, cnt, h0, h1, h2, h3, h4, h5, h6, by omega⟩
theorem Deck.ne {M : Nat} {D C p : Addr} {H : Hp} {c : Nat} (d : Deck M D C H c) (h : H p = none) : p ≠ D := by
  obtain ⟨cells, pl, rest, cnt, h0, h1, h2⟩ := d
  exact (ne_of_none h1 h).symm
theorem Deck.neC {M : Nat} {D C p : Addr} {H : Hp} {c : Nat} (d : Deck M D C H c) (h : H p = none) : p ≠ C := by
  obtain ⟨cells, pl, rest, cnt, h0, h1, h2, _⟩ := d
  exact (ne_of_none h2 h).symm
theorem Deck.put {M : Nat} {D C p : Addr} {H : Hp} {c : Nat} {o : HO} (d : Deck M D C H c) (n1 : p ≠ D) (n2 : p ≠ C) : Deck M D C (upd H p o) c := by
  obtain ⟨cells, pl, rest, cnt, h0, h1, h2, h3⟩ := d
  exact ⟨cells, pl, rest, cnt, h0, (upd_ne (Ne.symm n1)).trans h1, (upd_ne (Ne.symm n2)).trans h2, h3⟩
theorem pow_le {a b : Nat} (h : a ≤ b) : (2 : Nat) ^ a ≤ 2 ^ b := Nat.pow_le_pow_right (by decide) h
theorem div_small {i j : Int} {M : Nat} (h0 : 0 ≤ i) (h : i.natAbs < 2 ^ M) (hj : 0 < j) : 0 ≤ i.fdiv j ∧ (i.fdiv j).natAbs < 2 ^ M := by
  rw [Int.fdiv_eq_ediv_of_nonneg i (by omega)]
  have a := Int.ediv_nonneg h0 (Int.le_of_lt hj)
  have b : i / j ≤ i := Int.ediv_le_self j h0
  exact ⟨a, by omega⟩
end My
namespace My
open PySem PySem.Spec PyProof.Rows L2
theorem at_ints {cells : List Int} {i : Int} (h0 : 0 ≤ i) (h1 : i < ((cells.map V.int).length : Nat)) : ∃ z, z ∈ cells ∧ atI (cells.map V.int) i = some (.int z) := by
  obtain ⟨j, rfl⟩ := Int.eq_ofNat_of_zero_le h0
  rw [List.length_map] at h1
  have hj : j < cells.length := by omega
  refine ⟨cells[j], List.getElem_mem hj, atI_nat ?_⟩
  rw [List.getElem?_map, List.getElem?_eq_getElem hj]
  rfl
theorem bits_lt {z : Int} {M : Nat} (h : Builtin.Int.intBits z ≤ M) : z.natAbs < 2 ^ M := by
  unfold Builtin.Int.intBits at h
  split at h
  · rename_i e
    have e' : z = 0 := by simpa using e
    subst e'
    exact Nat.two_pow_pos M
  · have := Nat.lt_log2_self (n := z.natAbs)
    exact Nat.lt_of_lt_of_le this (pow_le h)
theorem pw_big {z cnt : Int} {c M : Nat} (hz : z.natAbs < 2 ^ M) (hM : 64 ≤ M) (h0 : 0 ≤ cnt) (h1 : cnt ≤ c) (hc : c ≤ 2 ^ 40) : (z + 7919 * (cnt + 1) + 1).natAbs < 2 ^ (M + 1) := by
  have e : (2 : Nat) ^ 64 ≤ 2 ^ M := pow_le hM
  rw [Nat.pow_succ]
  generalize (2 : Nat) ^ M = p at *
  omega
theorem fdiv_dvd {a b : Int} (h : b ∣ a) : a.fdiv b = a / b := by
  obtain ⟨c, rfl⟩ := h
  by_cases hb : b = 0
  · subst hb
    rw [Int.zero_mul]
    simp
  · rw [Int.mul_fdiv_cancel_left _ hb, Int.mul_ediv_cancel_left _ hb]
theorem mod_rng (x : Int) {m : Int} (h : 0 < m) : 0 ≤ x % m ∧ x % m < m := ⟨Int.emod_nonneg _ (by omega), Int.emod_lt_of_pos _ h⟩
end My
namespace My
open PySem PySem.Spec PyProof.Rows L2
theorem cpow_of {i j : Int} (h : 0 ≤ j ∧ j ≤ 1000000 ∧ i.natAbs < 2 ^ 64) : CPow i j := h
theorem ten18 : (0 : Int) ≤ 10 ^ (18 : Int).toNat := by decide
theorem cmul_small {i j : Int} (h : i.natAbs < 2 ^ 64) (h2 : j.natAbs < 2 ^ 64) : CMulX i j := mulx_ok h h2 (by decide)
theorem cmul_big {i j : Int} {M : Nat} (h : i.natAbs < 2 ^ M) (h2 : j.natAbs < 2 ^ 64) (hM : M ≤ 100000000) : CMulX i j := mulx_ok h h2 (by omega)
theorem pick_mul2 (x : Int) {m k : Int} (h0 : 0 < m) (hm : m.natAbs < 2 ^ 32) (hk : k.natAbs < 2 ^ 32) {d : Int} (hd : 0 < d) : CMulX (x % m) ((x % m).fdiv d + k) := by
  obtain ⟨a, b⟩ := mod_rng x h0
  rw [Int.fdiv_eq_ediv_of_nonneg _ (by omega)]
  have c := Int.ediv_nonneg a (Int.le_of_lt hd)
  have e : (x % m) / d ≤ x % m := Int.ediv_le_self d a
  exact cmul_small (by omega) (by omega)
end My
namespace My
open PySem PySem.Spec PyProof.Rows L2
variable {K : PySem.W.Frag}
/-! ### isinstance -/
section
variable {K : PySem.W.Frag} {H : Hp} {Q : VK}
theorem isi_int_int {i : Int} (q : Q (.bl true) H) : rIsi K [.int i, .ty "int"] H Q := ⟨_, _, _, _, _, rfl, .ty _, .base (.int _), kit_ty (by decide +kernel), q⟩
theorem isi_int_bool {i : Int} (q : Q (.bl false) H) : rIsi K [.int i, .ty "bool"] H Q := ⟨_, _, _, _, _, rfl, .ty _, .base (.int _), kit_ty (by decide +kernel), q⟩
theorem isi_bl_bool {b : Bool} (q : Q (.bl true) H) : rIsi K [.bl b, .ty "bool"] H Q := ⟨_, _, _, _, _, rfl, .ty _, .base (.bl _), kit_ty (by decide +kernel), q⟩
theorem isi_tup_tup {p : Addr} {xs : List V} (h : H p = some (.tup xs)) (q : Q (.bl true) H) : rIsi K [.ref p, .ty "tuple"] H Q := ⟨_, _, _, _, _, rfl, .ty _, .base (.tup h), kit_ty (by decide +kernel), q⟩
end
/-! ### a fraction that stands in the heap -/
abbrev frV (r : Rat) : List V := [.int r.num, .int r.den]
/-- a tuple: in the heap, or one of the module's own -/
def Tp (K : PySem.W.Frag) (H : Hp) (p : Addr) (xs : List V) : Prop := H p = some (.tup xs) ∨ SqT K (fun _ => none) p xs
theorem Tp.same {H H' : Hp} {p : Addr} {xs : List V} (s : Same H H') (h : Tp K H p xs) : Tp K H' p xs := h.imp (fun h => s _ _ h) id
theorem Tp.sq {H : Hp} {p : Addr} {xs : List V} (h : Tp K H p xs) : SqT K H p xs := by
  rcases h with h | (h | ⟨_, h⟩) | h
  · exact .of h
  · cases h
  · cases h
  · exact .inr h
def IsF (K : PySem.W.Frag) (H : Hp) (v : V) (r : Rat) : Prop := ∃ p, v = .ref p ∧ Tp K H p (frV r)
theorem IsF.same {H H' : Hp} {v : V} {r : Rat} (s : Same H H') (h : IsF K H v r) : IsF K H' v r := by
  obtain ⟨p, e, h⟩ := h
  exact ⟨p, e, h.same s⟩
theorem Tp.new {H : Hp} {p : Addr} {xs : List V} : Tp K (upd H p (.tup xs)) p xs := .inl upd_same
theorem at_same {H H' : Hp} {p : Addr} {o : HO} (s : Same H H') (h : H p = some o) : H' p = some o := s _ _ h
theorem Tp.fw {M : Nat} {D C : Addr} {c : Nat} {H H' : Hp} {p : Addr} {xs : List V} (d : Deck M D C H c) (s : Fw D H H') (h : Tp K H p xs) : Tp K H' p xs := by
  obtain ⟨cells, pl, rest, cnt, h0, h1, h2⟩ := d
  exact h.imp (fun h => s _ _ (ne_of h h1 (by intro z; cases z)) h) id
theorem IsF.fw {M : Nat} {D C : Addr} {c : Nat} {H H' : Hp} {v : V} {r : Rat} (d : Deck M D C H c) (s : Fw D H H') (h : IsF K H v r) : IsF K H' v r := by
  obtain ⟨p, e, h⟩ := h
  exact ⟨p, e, h.fw d s⟩
/-- all tuples stand -/
def Tps (H H' : Hp) : Prop := ∀ b xs, H b = some (.tup xs) → H' b = some (.tup xs)
theorem Tp.ts {H H' : Hp} {p : Addr} {xs : List V} (f : Tps H H') (h : Tp K H p xs) : Tp K H' p xs := h.imp (fun h => f _ _ h) id
theorem isi_tp {K' : PySem.W.Frag} {H : Hp} {Q : VK} {p : Addr} {xs : List V} (h : Tp K' H p xs) (hk : K' = K) (q : Q (.bl true) H) : rIsi K [.ref p, .ty "tuple"] H Q := by
  subst hk
  rcases h with h | (h | ⟨_, h⟩) | ⟨o, its, n, h1, h2, _⟩
  · exact ⟨_, _, _, _, _, rfl, .ty _, .base (.tup h), kit_ty (by decide +kernel), q⟩
  · cases h
  · cases h
  · exact ⟨_, _, _, _, _, rfl, .ty _, .kTuple h1 h2, kit_ty (by decide +kernel), q⟩
theorem isF_new {H : Hp} {p : Addr} {a b : Int} {r : Rat} (h1 : r.num = a) (h2 : (r.den : Int) = b) : IsF K (upd H p (.tup [.int a, .int b])) (.ref p) r := by
  subst h1 h2
  exact ⟨p, rfl, .new⟩
def frD (r : Rat) : PyData := .tuple [.int r.num, .int r.den]
theorem IsF.dp {K : PySem.W.Frag} {H : Hp} {v : V} {r : Rat} (h : IsF K H v r) : Dp K H v (frD r) := by
  obtain ⟨p, rfl, h⟩ := h
  exact .tup h.sq (.cons (.int _) (.cons (.int _) .nil))
theorem frD_shaped (r : Rat) : SeqAt.shaped (frD r) = true := by rfl
theorem frD_eqv (r s : Rat) : PyData.eqv (frD r) (frD s) = decide (r = s) := by
  have e : PyData.eqv (frD r) (frD s) = (decide (r.num = s.num) && decide ((r.den : Int) = s.den)) := by
    simp only [frD, PyData.eqv, PyData.eqvAll, Bool.and_true, Bool.beq_eq_decide_eq]
  rw [e, Bool.eq_iff_iff]
  simp only [Bool.and_eq_true, decide_eq_true_eq]
  constructor
  · rintro ⟨a, b⟩
    exact Rat.ext a (by omega)
  · rintro rfl
    exact ⟨rfl, rfl⟩
theorem eqF {K : PySem.W.Frag} {H : Hp} {v w : V} {r s : Rat} {Q : VK} (h1 : IsF K H v r) (h2 : IsF K H w s) (q : Q (.bl (decide (r = s))) H) : rEqD K v w H Q := ⟨_, _, h1.dp, h2.dp, frD_shaped r, frD_shaped s, by rw [frD_eqv]; exact q⟩
theorem neF {K : PySem.W.Frag} {H : Hp} {v w : V} {r s : Rat} {Q : VK} (h1 : IsF K H v r) (h2 : IsF K H w s) (q : Q (.bl (!decide (r = s))) H) : rNeD K v w H Q := ⟨_, _, h1.dp, h2.dp, frD_shaped r, frD_shaped s, by rw [frD_eqv]; exact q⟩
end My
namespace My
open PySem PySem.Spec PyProof.Rows L2
/-! ### calls of built-ins by named readings -/
def rInt : List V → Hp → VK → Prop := fun xs H Q => (∃ i, xs = [.int i] ∧ Q (.int i) H) ∨ ∃ k, xs = [.bl k] ∧ Q (.int (if k then 1 else 0)) H
def rLen (K : PySem.W.Frag) : List V → Hp → VK → Prop := fun xs H Q => ∃ p ys, xs = [.ref p] ∧ (SqL K H p ys ∨ SqT K H p ys) ∧ Q (.int ys.length) H
def rAbs : List V → Hp → VK → Prop := fun xs H Q => ∃ i, xs = [.int i] ∧ Q (.int (if i < 0 then -i else i)) H
def rMin : List V → Hp → VK → Prop := fun xs H Q => ∃ i j, xs = [.int i, .int j] ∧ Q (.int (if j < i then j else i)) H
theorem call_intN {X : Cx} : CallR X (.type "int") rInt := call_int1
theorem call_lenN {X : Cx} : CallR X (.builtin "len") (rLen X.K) := call_len_seq
theorem call_absN {X : Cx} : CallR X (.builtin "abs") rAbs := call_abs
theorem call_minN {X : Cx} (hc : X.calm = true) : CallR X (.builtin "min") rMin := call_min2 hc
/-! ### a reading, one step a rule: each says what its left side asks first -/
section
variable {σ : L2.St} {H : Hp} {Q : VK} {K : PySem.W.Frag} {D : Ends} {ta tb te : TE} {t : TA} {i : Nat} {v x y : V}
theorem rd_var (e : σ[i]? = some (some v)) (q : Q v H) : tVar i σ H Q := ⟨v, e, q⟩
theorem rd_C (q : Q v H) : tC v σ H Q := q
theorem rd_op {r : R2} (h : ta σ H fun x H1 => tb σ H1 fun y H2 => r x y H2 Q) : tOp r ta tb σ H Q := h
theorem rd_un {r : V → Hp → VK → Prop} (h : ta σ H fun x H1 => r x H1 Q) : tUn r ta σ H Q := h
theorem rd_CB {r : List V → Hp → VK → Prop} (h : t σ H fun vs H1 => r vs H1 Q) : tCB r t σ H Q := h
theorem rd_nil {Q : List V → Hp → Prop} (q : Q [] H) : tNil σ H Q := q
theorem rd_cons {Q : List V → Hp → Prop} (h : ta σ H fun x H1 => t σ H1 fun xs H2 => Q (x :: xs) H2) : tCons ta t σ H Q := h
theorem rd_call {sp : Sp} {dvs : List V} {E : XK} (h : t σ H fun vs H1 => sp (vs ++ dvs) H1 Q E) : tCall sp dvs E t σ H Q := h
theorem rd_rI {C : Int → Int → Prop} {g : Int → Int → V} {i j : Int} (q : Q (g i j) H) (c : C i j) : rI C g (.int i) (.int j) H Q := ⟨i, j, rfl, rfl, c, q⟩
theorem rd_rI0 {g : Int → Int → V} {i j : Int} (q : Q (g i j) H) : rI0 g (.int i) (.int j) H Q := ⟨i, j, rfl, rfl, q⟩
theorem rd_rU {g : Int → V} {i : Int} (q : Q (g i) H) : rU g (.int i) H Q := ⟨i, rfl, q⟩
theorem rd_eq (s : scal x y = true) (q : Q (.bl (decide (x = y))) H) : rEq x y H Q := ⟨s, q⟩
theorem rd_ne (s : scal x y = true) (q : Q (.bl (!decide (x = y))) H) : rNe x y H Q := ⟨s, q⟩
theorem int_eq {i j : Int} : (V.int i = V.int j) = (i = j) := by simp
theorem rd_eqI {i j : Int} (q : Q (.bl (decide (i = j))) H) : rEq (.int i) (.int j) H Q := ⟨rfl, by simpa using q⟩
theorem rd_neI {i j : Int} (q : Q (.bl (!decide (i = j))) H) : rNe (.int i) (.int j) H Q := ⟨rfl, by simpa using q⟩
theorem rd_ixL {p : Addr} {xs : List V} {i : Int} {v : V} (h : H p = some (.lst xs)) (e : atI xs i = some v) (q : Q v H) : rIxL K (.ref p) (.int i) H Q := ⟨p, xs, i, v, rfl, rfl, .of h, e, q⟩
theorem rd_ixT {p : Addr} {xs : List V} {i : Int} {v : V} (h : H p = some (.tup xs)) (e : atI xs i = some v) (q : Q v H) : rIxT K (.ref p) (.int i) H Q := ⟨p, xs, i, v, rfl, rfl, .of h, e, q⟩
theorem rd_ixTp {K' : PySem.W.Frag} {p : Addr} {xs : List V} {i : Int} {v : V} (h : Tp K' H p xs) (hk : K' = K) (e : atI xs i = some v) (q : Q v H) : rIxT K (.ref p) (.int i) H Q := ⟨p, xs, i, v, rfl, rfl, hk ▸ h.sq, e, q⟩
theorem rd_setL {p : Addr} {xs : List V} {k : Int} {j : Nat} {Q : Hp → Prop} (h : H p = some (.lst xs)) (e : ixN xs.length k = some j) (q : Q (upd H p (.lst (xs.set j v)))) : rSetL (.ref p) (.int k) v H Q := ⟨p, xs, k, j, rfl, rfl, h, e, q⟩
theorem rd_gcd {a b : Int} (q : Q (.int ((Nat.gcd a.natAbs b.natAbs : Nat) : Int)) H) : rGcd [.int a, .int b] H Q := ⟨a, b, rfl, q⟩
theorem rd_bits (h : te σ H fun x H1 => ∃ i, x = .int i ∧ Q (.int (Builtin.Int.intBits i : Nat)) H1) : tBits te σ H Q := h
theorem rd_tup (h : t σ H fun xs H1 => xs.length ≤ sizeLine ∧ ∀ p, H1 p = none → Q (.ref p) (upd H1 p (.tup xs))) : tTup t σ H Q := h
theorem rd_lst (h : t σ H fun xs H1 => xs.length ≤ sizeLine ∧ ∀ p, H1 p = none → Q (.ref p) (upd H1 p (.lst xs))) : tLst t σ H Q := h
theorem rd_sl {r : V → Option Int → Option Int → Hp → VK → Prop} {tl th : TO} (h : te σ H fun x H1 => tl σ H1 fun l H2 => th σ H2 fun u H3 => r x l u H3 Q) : tSl r te tl th σ H Q := h
theorem rd_part {Q : Option Int → Hp → Prop} (h : te σ H fun x H1 => ∃ i, x = .int i ∧ Q (some i) H1) : tPart te σ H Q := h
theorem rd_nopart {Q : Option Int → Hp → Prop} (h : Q none H) : tNoPart σ H Q := h
theorem rd_slL {a : Addr} {xs : List V} {lo hi : Option Int} (h : SqL K H a xs) (q : ∀ p, H p = none → Q (.ref p) (upd H p (.lst (cutV xs lo hi)))) : rSlL K (.ref a) lo hi H Q := ⟨a, xs, rfl, h, q⟩
theorem rd_bm {T : String} {r : V → List V → Hp → VK → Prop} (h : te σ H fun x H1 => tyV K T x H1 ∧ t σ H1 fun xs H2 => r x xs H2 Q) : tBM K T r te t σ H Q := h
theorem rd_chain {r r' : R2} (h : ta σ H fun x H1 => tb σ H1 fun y H2 => r x y H2 fun z H3 => ∃ k, z = .bl k ∧ (if k = true then te σ H3 fun w' H4 => r' y w' H4 Q else Q (.bl false) H3)) : tChain r r' ta tb te σ H Q := h
theorem rd_andV (h : ta σ H fun x H1 => ∃ c, x = .bl c ∧ if c = true then tb σ H1 Q else Q (.bl false) H1) : tAndV ta tb σ H Q := h
theorem rd_orV (h : ta σ H fun x H1 => ∃ c, x = .bl c ∧ if c = true then Q (.bl true) H1 else tb σ H1 Q) : tOrV ta tb σ H Q := h
theorem rd_notV (h : ta σ H fun x H1 => ∃ c, x = .bl c ∧ Q (.bl (!c)) H1) : tNotV ta σ H Q := h
theorem rd_ifE {c : TT} (h : c σ H fun c H1 => if c = true then ta σ H1 Q else tb σ H1 Q) : tIf c ta tb σ H Q := h
section
variable {Q : Bool → Hp → Prop} {u u' : TT}
theorem rd_test (h : te σ H fun x H' => ∃ k, x = .bl k ∧ Q k H') : tTest te σ H Q := h
theorem rd_B (h : te σ H fun x H1 => ∃ c, x = .bl c ∧ Q c H1) : tB te σ H Q := h
theorem rd_not (h : u σ H fun c H1 => Q (!c) H1) : tNot u σ H Q := h
theorem rd_and (h : u σ H fun c H1 => if c = true then u' σ H1 Q else Q false H1) : tAnd u u' σ H Q := h
theorem rd_or (h : u σ H fun c H1 => if c = true then Q true H1 else u' σ H1 Q) : tOr u u' σ H Q := h
theorem rd_yes (q : Q true H) : tYes σ H Q := q
end
section
variable {s s' : TS} {g : TG} {gs : TGs}
theorem rd_seq (h : s { D with nx := s' D } σ H) : tSeq s s' D σ H := h
theorem rd_next (h : D.nx σ H) : tNext D σ H := h
theorem rd_drop (h : te σ H fun _ H1 => D.nx σ H1) : tDrop te D σ H := h
theorem rd_ret (h : te σ H D.rt) : tRet te D σ H := h
theorem rd_ifS {c : TT} (h : c σ H fun b H1 => if b = true then s D σ H1 else s' D σ H1) : tIfS c s s' D σ H := h
theorem rd_asg (h : te σ H fun x H1 => g x σ H1 D.nx) : tAsg te g D σ H := h
theorem rd_gName {Q : L2.St → Hp → Prop} (h : Q (σ.set i (some v)) H) : gName i v σ H Q := h
theorem rd_gSub {Q : L2.St → Hp → Prop} {ts : TSet} (h : ta σ H fun o H1 => tb σ H1 fun i H2 => ts o i v H2 fun H3 => Q σ H3) : gSub ta tb ts v σ H Q := h
theorem rd_gTup {Q : L2.St → Hp → Prop} {p : Addr} {xs : List V} {n : Nat} (h : H p = some (.tup xs)) (e : xs.length = n) (q : gs xs σ H Q) : gTup K n gs (.ref p) σ H Q := ⟨p, xs, rfl, .of h, e, q⟩
theorem rd_gTp {K' : PySem.W.Frag} {Q : L2.St → Hp → Prop} {p : Addr} {xs : List V} {n : Nat} (h : Tp K' H p xs) (hk : K' = K) (e : xs.length = n) (q : gs xs σ H Q) : gTup K n gs (.ref p) σ H Q := ⟨p, xs, rfl, hk ▸ h.sq, e, q⟩
theorem rd_gNil {Q : L2.St → Hp → Prop} (q : Q σ H) : gNil [] σ H Q := ⟨rfl, q⟩
theorem rd_gCons {Q : L2.St → Hp → Prop} {r : List V} (h : g v σ H fun σ' H' => gs r σ' H' Q) : gCons g gs (v :: r) σ H Q := ⟨v, r, rfl, h⟩
theorem rd_for {wi : TI} (h : wi σ H fun J H1 => ∃ W : Nat → Nat → L2.St → Hp → Prop, (∃ m, W 0 m σ H1) ∧ ∀ i m σ H, W i m σ H →
  (J.stop i H ∧ D.nx σ H) ∨ (J.go i H ∧ ∃ N : L2.St → Hp → Prop, (∀ σ' H', N σ' H' → ∃ m', m' < m ∧ W (i + 1) m' σ' H') ∧ ∀ x H', J.yld i H x H' → g x σ H' fun σ2 H2 => s { D with nx := N, ct := N, bk := D.nx } σ2 H2)) : tFor wi g s D σ H := h
theorem rd_rng1 {R : It → Hp → Prop} (h : t σ H fun vs H1 => ∃ j : Int, vs = [.int j] ∧ -(2 ^ 62) ≤ j ∧ j < 2 ^ 62 ∧ R (Itr 0 j.toNat) H1) : iRng1 t σ H R := h
theorem rd_itL {R : It → Hp → Prop} (h : te σ H fun x H1 => ∃ a, x = .ref a ∧ (∃ xs, SqL K H1 a xs) ∧ R (Itl K a) H1) : iList K te σ H R := h
theorem rd_itT {R : It → Hp → Prop} (h : te σ H fun x H1 => ∃ a, x = .ref a ∧ (∃ xs, SqT K H1 a xs) ∧ R (Itt K a) H1) : iTup K te σ H R := h
end
theorem if_T {p : Prop} [Decidable p] {A B : Prop} (hp : p) (h : A) : if decide p = true then A else B := by
  rw [if_pos (decide_eq_true hp)]
  exact h
theorem if_F {p : Prop} [Decidable p] {A B : Prop} (hp : ¬ p) (h : B) : if decide p = true then A else B := by
  rw [if_neg (fun q => hp (of_decide_eq_true q))]
  exact h
theorem if_nF {p : Prop} [Decidable p] {A B : Prop} (hp : p) (h : B) : if (!decide p) = true then A else B := by
  rw [decide_eq_true hp]
  exact iteF h
theorem if_nT {p : Prop} [Decidable p] {A B : Prop} (hp : ¬ p) (h : A) : if (!decide p) = true then A else B := by
  rw [decide_eq_false hp]
  exact iteT h
theorem ite_nt {A B : Prop} (h : B) : if (!true) = true then A else B := iteF h
theorem ite_nf {A B : Prop} (h : A) : if (!false) = true then A else B := iteT h
theorem rd_len {xs : List V} {R : Prop} (q : R) (h : xs.length.ble sizeLine = true) : xs.length ≤ sizeLine ∧ R := ⟨Nat.le_of_ble_eq_true h, q⟩
theorem rd_lenL {p : Addr} {xs : List V} (q : Q (.int xs.length) H) (h : H p = some (.lst xs)) : rLen K [.ref p] H Q := ⟨p, xs, rfl, .inl (.of h), q⟩
theorem rd_lenS {p : Addr} {xs : List V} (q : Q (.int xs.length) H) (h : SqL K H p xs) : rLen K [.ref p] H Q := ⟨p, xs, rfl, .inl h, q⟩
theorem rd_lenT {p : Addr} {xs : List V} (q : Q (.int xs.length) H) (h : H p = some (.tup xs)) : rLen K [.ref p] H Q := ⟨p, xs, rfl, .inr (.of h), q⟩
theorem rd_lenTp {K' : PySem.W.Frag} {p : Addr} {xs : List V} (q : Q (.int xs.length) H) (h : Tp K' H p xs) (hk : K' = K) : rLen K [.ref p] H Q := ⟨p, xs, rfl, .inr (hk ▸ h.sq), q⟩
theorem rd_int {i : Int} (q : Q (.int i) H) : rInt [.int i] H Q := .inl ⟨i, rfl, q⟩
theorem rd_intB {k : Bool} (q : Q (.int (if k then 1 else 0)) H) : rInt [.bl k] H Q := .inr ⟨k, rfl, q⟩
theorem rd_abs {i : Int} (q : Q (.int (i.natAbs : Nat)) H) : rAbs [.int i] H Q := ⟨i, rfl, by
  have e : (if i < 0 then -i else i) = (i.natAbs : Int) := by split <;> omega
  rw [e]
  exact q⟩
theorem rd_min {i j : Int} (q : Q (.int (min i j)) H) : rMin [.int i, .int j] H Q := ⟨i, j, rfl, by
  have e : (if j < i then j else i) = min i j := by split <;> omega
  rw [e]
  exact q⟩
theorem rd_neB {a b : Bool} (q : Q (.bl (!decide (a = b))) H) : rNe (.bl a) (.bl b) H Q := ⟨rfl, by simpa using q⟩
theorem rd_eqB {a b : Bool} (q : Q (.bl (decide (a = b))) H) : rEq (.bl a) (.bl b) H Q := ⟨rfl, by simpa using q⟩
theorem rd_neS {a b : Str} (q : Q (.bl (!decide (a = b))) H) : rNe (.str a) (.str b) H Q := ⟨rfl, by simpa using q⟩
theorem rd_eqS {a b : Str} (q : Q (.bl (decide (a = b))) H) : rEq (.str a) (.str b) H Q := ⟨rfl, by simpa using q⟩
theorem rd_isBl {a b : Bool} (q : Q (.bl (decide (a = b))) H) : rIsB (.bl a) (.bl b) H Q := ⟨a, b, rfl, rfl, q⟩
end
end My
namespace My
open PySem PySem.Spec PyProof.Rows L2
theorem rd_lc {wi : TI} {g : TG} {tt : TT} {te : TE} {vs : List Nat} {σ : L2.St} {H : Hp} {Q : VK} (h : wi σ H fun J H1 => ∀ D, H1 D = none → ∃ W : Nat → Nat → Hp → Prop, (∃ m, W 0 m (upd H1 D (.lst []))) ∧ ∀ i m H, W i m H →
  (J.stop i H ∧ Q (.ref D) H) ∨ (J.go i H ∧ ∃ Nx : Hp → Prop, (∀ H', Nx H' → ∃ m', m' < m ∧ W (i + 1) m' H') ∧ ∀ x H', J.yld i H x H' → g x (wipe σ vs) H' fun σ2 H2 => wipe σ2 vs = wipe σ vs ∧ tt σ2 H2 fun b H3 =>
    if b = true then te σ2 H3 fun y H4 => ∃ acc, H4 D = some (.lst acc) ∧ acc.length < sizeLine ∧ Nx (upd H4 D (.lst (acc ++ [y]))) else Nx H3)) : tLc wi g tt te vs σ H Q := h
theorem cut_all {xs : List V} {n : Nat} (h : xs.length ≤ n) : cutV xs none (some (n : Int)) = xs := by
  unfold cutV
  rw [HT.sIx_none, HT.sIx_nat, List.drop_zero]
  exact List.take_of_length_le (by omega)
theorem take_succ_map {ns : List Int} {i : Nat} {x : V} (h : (ns.map V.int)[i]? = some x) : ∃ z, x = .int z ∧ z ∈ ns ∧ (ns.take (i + 1)).map V.int = (ns.take i).map V.int ++ [x] := by
  rw [List.getElem?_map] at h
  cases e : ns[i]? with
  | none =>
    rw [e] at h
    cases h
  | some z =>
    rw [e] at h
    have hx : x = .int z := (Option.some.inj h).symm
    refine ⟨z, hx, List.mem_of_getElem? e, ?_⟩
    rw [List.take_add_one, e, List.map_append, hx]
    rfl
/-! ### list.count of flags -/
def eqb (k : Bool) (v : Value) : Bool := match v with
  | .bool b => b == k
  | _ => false
theorem eqb_at {A : Around} {s : Shared} {k : Bool} : ∀ {us : List Value} {bs : List Bool}, Vals (bs.map V.bl) us → ∀ y ∈ us, SeqAt.EqAt A s y (.bool k) (eqb k y)
  | [], bs, r => fun y hy => nomatch hy
  | u :: us, [], r => nomatch r
  | u :: us, b :: bs, r => fun y hy => by
    cases r with
    | cons r1 r2 =>
      rcases List.mem_cons.mp hy with e | e
      · rw [e]
        cases (show u = Value.bool b from r1)
        exact SeqAt.EqAt.bool_bool b k
      · exact eqb_at r2 y e
theorem eqb_count {k : Bool} : ∀ {us : List Value} {bs : List Bool}, Vals (bs.map V.bl) us → us.countP (eqb k) = bs.count k
  | [], [], _ => rfl
  | [], b :: bs, r => nomatch r
  | u :: us, [], r => nomatch r
  | u :: us, b :: bs, r => by
    cases r with
    | cons r1 r2 =>
      cases (show u = Value.bool b from r1)
      rw [List.countP_cons, List.count_cons, eqb_count r2] <;> rfl
def rCntB (K : PySem.W.Frag) : V → List V → Hp → VK → Prop := fun x xs H Q => ∃ (p : Addr) (bs : List Bool) (k : Bool), x = .ref p ∧ xs = [.bl k] ∧ SqL K H p (bs.map V.bl) ∧ Q (.int (bs.count k : Nat)) H
theorem mt_bcount {X : Cx} : MtR X "list.count" (rCntB X.K) := by
  intro pins s σ H x xs v us Q I rx rxs h
  obtain ⟨p, bs, k, rfl, rfl, hs, q⟩ := h
  cases rx
  obtain ⟨u, rfl, ru⟩ := rxs.one
  cases (show u = Value.bool k from ru)
  obtain ⟨its, rv, ⟨⟨cls, dd, data, sl⟩, n, ho, hc, hdn, hd⟩, hlen⟩ := I.list hs
  simp only at hc hd
  subst hc hd
  refine call_meets PySem.F.slot_list_count ⟨_, ho, rfl⟩ PySem.F.entry_list_count (PySem.F.args_list_count_2 _ _)
    (SeqAt.list_countAt p its.toArray n dd sl (.bool k) (eqb k)) ⟨ho, fun y hy => eqb_at rv y (by simpa using hy), ?_⟩
  have ec : its.toArray.toList.countP (eqb k) = bs.count k := eqb_count rv
  refine ⟨.int (bs.count k : Nat), H, I.tok _, ⟨s.toks, ?_⟩, q⟩
  show Value.int ((its.toArray.toList.countP (eqb k) : Nat) : Int) s.toks = Value.int ((bs.count k : Nat) : Int) s.toks
  rw [ec]
/-! ### greatest common divisors by remainders -/
structure Euc (G b i : Nat) (x y : Nat) : Prop where
  g : x.gcd y = G
  h : y * 2 ^ (i / 2) ≤ b
  m : i ≠ 0 → y < x ∧ x * 2 ^ ((i - 1) / 2) ≤ b
theorem Euc.step {G b i x y : Nat} (e : Euc G b i x y) (hy : y ≠ 0) : Euc G b (i + 1) y (x % y) := by
  have lt : x % y < y := Nat.mod_lt _ (by omega)
  refine ⟨?_, ?_, fun _ => ⟨lt, ?_⟩⟩
  · rw [← e.g, Nat.gcd_comm x y, Nat.gcd_comm y (x % y)]
    exact (Nat.gcd_rec y x).symm
  · rcases Nat.mod_two_eq_zero_or_one i with p | p
    · have q : (i + 1) / 2 = i / 2 := by omega
      rw [q]
      exact Nat.le_trans (Nat.mul_le_mul_right _ (Nat.le_of_lt lt)) e.h
    · have q : (i + 1) / 2 = (i - 1) / 2 + 1 := by omega
      obtain ⟨m1, m2⟩ := e.m (by omega)
      have half : 2 * (x % y) ≤ x := by
        have d := Nat.div_add_mod x y
        have dp : 1 ≤ x / y := Nat.div_pos (Nat.le_of_lt m1) (by omega)
        have : y ≤ y * (x / y) := Nat.le_mul_of_pos_right y dp
        omega
      rw [q, Nat.pow_succ]
      calc x % y * (2 ^ ((i - 1) / 2) * 2) = (2 * (x % y)) * 2 ^ ((i - 1) / 2) := by rw [Nat.mul_comm (2 ^ _) 2, ← Nat.mul_assoc, Nat.mul_comm (x % y) 2]
        _ ≤ x * 2 ^ ((i - 1) / 2) := Nat.mul_le_mul_right _ half
        _ ≤ b := m2
  · have q : (i + 1 - 1) / 2 = i / 2 := by omega
    rw [q]
    exact e.h
theorem Euc.done {G b k x y : Nat} (e : Euc G b (2 * k + 2) x y) (hb : b < 2 ^ k) : y = 0 ∧ x = G := by
  have h := e.h
  have q : (2 * k + 2) / 2 = k + 1 := by omega
  rw [q] at h
  have hy : y = 0 := by
    rcases Nat.eq_zero_or_pos y with z | z
    · exact z
    · have p : 2 ^ (k + 1) ≤ y * 2 ^ (k + 1) := Nat.le_mul_of_pos_left _ z
      rw [Nat.pow_succ] at p
      have : 0 < 2 ^ k := Nat.two_pow_pos k
      rw [Nat.pow_succ] at h
      omega
  have g := e.g
  rw [hy, Nat.gcd_zero_right] at g
  exact ⟨hy, g⟩
end My
namespace My
open PySem PySem.Spec PyProof.Rows L2
theorem cdv {j : Int} (h : 0 < j) (hb : j.natAbs < 2 ^ 8000) (i : Int) : CDivX i j := cdivx (by omega) hb (by decide)
theorem cmx {i j : Int} (h1 : i.natAbs < 2 ^ 20000) (h2 : j.natAbs < 2 ^ 20000) : CMulX i j := mulx_ok h1 h2 (by decide)
theorem div_nat (a b : Nat) : (a : Int).fdiv (b : Int) = ((a / b : Nat) : Int) := by
  rw [Int.fdiv_eq_ediv_of_nonneg _ (by omega), Int.natCast_ediv]
theorem p45 {n : Nat} (h : n < 2 ^ 4000) : n < 2 ^ 8000 := Nat.lt_of_lt_of_le h (pow_le (by decide))
theorem p46 {n : Nat} (h : n < 2 ^ 4000) : n < 2 ^ 20000 := Nat.lt_of_lt_of_le h (pow_le (by decide))
theorem added_math {r s : Rat} (hr : Bd 4000 r) (hs : Bd 4000 s) : ∀ g top sh : Int, g = ((Nat.gcd (r.den : Int).natAbs (s.den : Int).natAbs : Nat) : Int) → top = r.num * (s.den : Int).fdiv g + s.num * (r.den : Int).fdiv g →
    sh = ((Nat.gcd top.natAbs g.natAbs : Nat) : Int) → (∀ i, CDivX i g) ∧ CMulX r.num ((s.den : Int).fdiv g) ∧ CMulX s.num ((r.den : Int).fdiv g) ∧ (∀ i, CDivX i sh) ∧ CMulX ((r.den : Int).fdiv g) ((s.den : Int).fdiv sh) ∧
      (r + s).num = top.fdiv sh ∧ ((r + s).den : Int) = (r.den : Int).fdiv g * (s.den : Int).fdiv sh := by
  intro g top sh hg ht hsh
  have hd := r.den_pos
  have hs' := s.den_pos
  rw [Int.natAbs_natCast, Int.natAbs_natCast] at hg
  have gpos : 0 < r.den.gcd s.den := Nat.gcd_pos_of_pos_left _ hd
  have gle : r.den.gcd s.den ≤ r.den := Nat.gcd_le_left _ hd
  have gna : g.natAbs = r.den.gcd s.den := by rw [hg, Int.natAbs_natCast]
  have shpos : 0 < top.natAbs.gcd (r.den.gcd s.den) := Nat.gcd_pos_of_pos_right _ gpos
  have shle : top.natAbs.gcd (r.den.gcd s.den) ≤ r.den.gcd s.den := Nat.gcd_le_right _ gpos
  rw [gna] at hsh
  have hr2 := hr.2
  have hs2 := hs.2
  have e1 : (s.den : Int).fdiv g = ((s.den / r.den.gcd s.den : Nat) : Int) := by rw [hg, div_nat]
  have e2 : (r.den : Int).fdiv g = ((r.den / r.den.gcd s.den : Nat) : Int) := by rw [hg, div_nat]
  have l1 : s.den / r.den.gcd s.den ≤ s.den := Nat.div_le_self _ _
  have l2 : r.den / r.den.gcd s.den ≤ r.den := Nat.div_le_self _ _
  have form := add_form r s (r.den.gcd s.den) (r.den / r.den.gcd s.den) (s.den / r.den.gcd s.den) top (top.natAbs.gcd (r.den.gcd s.den)) rfl rfl rfl (by rw [ht, e1, e2]) rfl
  have e3 : (s.den : Int).fdiv sh = ((s.den / top.natAbs.gcd (r.den.gcd s.den) : Nat) : Int) := by rw [hsh, div_nat]
  have l3 : s.den / top.natAbs.gcd (r.den.gcd s.den) ≤ s.den := Nat.div_le_self _ _
  refine ⟨cdv (by omega) (by rw [gna]; exact p45 (by omega)), ?_, ?_, cdv (by omega) ?_, ?_, ?_, ?_⟩
  · rw [e1]
    exact cmx (p46 hr.1) (by rw [Int.natAbs_natCast]; exact p46 (by omega))
  · rw [e2]
    exact cmx (p46 hs.1) (by rw [Int.natAbs_natCast]; exact p46 (by omega))
  · rw [hsh, Int.natAbs_natCast]
    exact p45 (by omega)
  · rw [e2, e3]
    exact cmx (by rw [Int.natAbs_natCast]; exact p46 (by omega)) (by rw [Int.natAbs_natCast]; exact p46 (by omega))
  · rw [form.1, hsh, Int.fdiv_eq_ediv_of_nonneg _ (by omega)]
  · rw [form.2, e2, e3, Int.natCast_mul]
theorem mul_math {r s : Rat} (hr : Bd 4000 r) (hs : Bd 4000 s) : ∀ a b : Int, a = ((Nat.gcd r.num.natAbs (s.den : Int).natAbs : Nat) : Int) → b = ((Nat.gcd s.num.natAbs (r.den : Int).natAbs : Nat) : Int) →
    (∀ i, CDivX i a) ∧ (∀ i, CDivX i b) ∧ CMulX (r.num.fdiv a) (s.num.fdiv b) ∧ CMulX ((r.den : Int).fdiv b) ((s.den : Int).fdiv a) ∧
      (r * s).num = r.num.fdiv a * s.num.fdiv b ∧ ((r * s).den : Int) = (r.den : Int).fdiv b * (s.den : Int).fdiv a := by
  intro a b ha hb
  rw [Int.natAbs_natCast] at ha hb
  have hd := r.den_pos
  have hs' := s.den_pos
  have ap : 0 < r.num.natAbs.gcd s.den := Nat.gcd_pos_of_pos_right _ hs'
  have bp : 0 < s.num.natAbs.gcd r.den := Nat.gcd_pos_of_pos_right _ hd
  have al : r.num.natAbs.gcd s.den ≤ s.den := Nat.gcd_le_right _ hs'
  have bl : s.num.natAbs.gcd r.den ≤ r.den := Nat.gcd_le_right _ hd
  have da : a ∣ r.num := by rw [ha]; exact Int.ofNat_dvd_left.mpr (Nat.gcd_dvd_left ..)
  have db : b ∣ s.num := by rw [hb]; exact Int.ofNat_dvd_left.mpr (Nat.gcd_dvd_left ..)
  have hr2 := hr.2
  have hs2 := hs.2
  obtain ⟨f1, f2⟩ := mul_form r s _ _ rfl rfl
  have e1 : r.num.fdiv a = r.num / a := fdiv_dvd da
  have e2 : s.num.fdiv b = s.num / b := fdiv_dvd db
  have e3 : (r.den : Int).fdiv b = ((r.den / s.num.natAbs.gcd r.den : Nat) : Int) := by rw [hb, div_nat]
  have e4 : (s.den : Int).fdiv a = ((s.den / r.num.natAbs.gcd s.den : Nat) : Int) := by rw [ha, div_nat]
  have l3 : r.den / s.num.natAbs.gcd r.den ≤ r.den := Nat.div_le_self _ _
  have l4 : s.den / r.num.natAbs.gcd s.den ≤ s.den := Nat.div_le_self _ _
  have n1 : (r.num / a).natAbs ≤ r.num.natAbs := by
    rw [Int.natAbs_ediv_of_dvd da]
    exact Nat.div_le_self _ _
  have n2 : (s.num / b).natAbs ≤ s.num.natAbs := by
    rw [Int.natAbs_ediv_of_dvd db]
    exact Nat.div_le_self _ _
  have hr1 := hr.1
  have hs1 := hs.1
  refine ⟨cdv (by omega) (by rw [ha, Int.natAbs_natCast]; exact p45 (by omega)), cdv (by omega) (by rw [hb, Int.natAbs_natCast]; exact p45 (by omega)), ?_, ?_, ?_, ?_⟩
  · rw [e1, e2]
    exact cmx (p46 (by omega)) (p46 (by omega))
  · rw [e3, e4]
    exact cmx (by rw [Int.natAbs_natCast]; exact p46 (by omega)) (by rw [Int.natAbs_natCast]; exact p46 (by omega))
  · rw [f1, e1, e2, ha, hb]
  · rw [f2, e3, e4, Int.natCast_mul]
end My
namespace My
open PySem PySem.Spec PyProof.Rows L2
theorem low_math {n b : Int} (hb : 0 < b) (hl : b.natAbs < 2 ^ 8000) : ∀ g : Int, g = ((n.natAbs.gcd b.natAbs : Nat) : Int) → (∀ i, CDivX i g) ∧ (Rat.divInt n b).num = n.fdiv g ∧ ((Rat.divInt n b).den : Int) = b.fdiv g := by
  rintro g rfl
  have gp : 0 < n.natAbs.gcd b.natAbs := Nat.gcd_pos_of_pos_right _ (by omega)
  have gl : n.natAbs.gcd b.natAbs ≤ b.natAbs := Nat.gcd_le_right _ (by omega)
  obtain ⟨e1, e2⟩ := low_form n b (by omega)
  rw [if_neg (by omega)] at e1 e2
  refine ⟨cdv (by omega) (by rw [Int.natAbs_natCast]; omega), ?_, ?_⟩
  · rw [e1, fdiv_dvd (Int.ofNat_dvd_left.mpr (Nat.gcd_dvd_left ..))]
  · rw [e2, fdiv_dvd (Int.ofNat_dvd_left.mpr (Nat.gcd_dvd_right ..))]
theorem sign_na {t r : Int} (a : 0 ≤ r) (b : r < 2) : (t * (1 - 2 * r)).natAbs = t.natAbs := by
  have h : r = 0 ∨ r = 1 := by omega
  rcases h with rfl | rfl
  · simp
  · rw [Int.natAbs_mul]
    simp
end My
namespace My
open PySem PySem.Spec PyProof.Rows L2
/-! ### an own error class without __init__, made without arguments -/
abbrev veChain : List Value := [.type "ValueError", .type "Exception", .type "BaseException", .type "object"]
theorem pmk_own0 {X : Cx} {C : Addr} {bmB : List Value} {B newId initId : String} {x : Str} {p pos : Pos} (F : ExcBaseFacts B newId initId bmB) (q : PySem.W.excIn X.K C bmB newId = true) (gC : X.mg x = some (.ref C))
    (kC : PySem.W.keepIn X.K (.ref C) = true) (r : Raises X (.ref C)) (hg : Gl X x) (hdb : (x == ("__debug__" : Str)) = false := by decide) :
    PMk X (.Call (.Name x p) [] [] pos) (fun _ H Q => Q (.ref C) none H) := by
  intro pins s σ H Q I h
  refine wpAny_Call_Name_kw (ld_glob I hg gC ?_ hdb)
  refine PySem.W.callWith_K0 I.kIn kC ?_
  show wpAny _ _ (call (.ref C) []) _ _ _
  obtain ⟨hp, g, d, t, os⟩ := s
  obtain ⟨bm, N, nm, qn, bs, hdct, sn, sub, ab, col, dd, k0, k1, k2, k3, k5, mN, hC, hN, hni, T⟩ := exc_obj I.kIn q
  refine wpAny_call_exc_subT F T hC hN hni (fun h' e hm => ?_) (Nat.zero_le _)
  exact mk_of I hm r h (I.hok.gone hm.new)
/-- what the top holds of such a class -/
structure ExC (K : PySem.W.Frag) (mg : Str → Option Value) (x : Str) (C : Addr) : Prop where
  g : mg x = some (.ref C)
  ex : PySem.W.excIn K C veChain "ValueError.__new__" = true
  kp : PySem.W.keepIn K (.ref C) = true
  be : PySem.W.subIn K (.ref C) (.type "BaseException") = some true
  ty : PySem.W.typeIn K (.ref C) = some (.type "type")
  ic : PySem.W.isClsIn K C = true
  sf : PySem.W.subIn K (.ref C) (.ref C) = some true
theorem exm_sub {K : PySem.W.Frag} {C S : Addr} {b : Bool} (h1 : PySem.W.subIn K (.ref S) (.type "BaseException") = some true) (h2 : PySem.W.isClsIn K S = true) (h3 : PySem.W.typeIn K (.ref S) = some (.type "type")) (h4 : PySem.W.subIn K (.ref C) (.ref S) = some b) :
    PySem.W.exmOne K (.ref C) (.ref S) = some b := by
  have e1 : (PySem.W.subIn K (.ref S) (.type "BaseException") == some true) = true := by rw [h1] <;> rfl
  have e2 : ((PySem.W.clsIn K S).isSome && PySem.W.typeIn K (.ref S) == some (.type "type")) = true := by
    have h2' : (PySem.W.clsIn K S).isSome = true := h2
    rw [h2', h3] <;> rfl
  show (if (PySem.W.subIn K (.ref S) (.type "BaseException") == some true) = true then (if ((PySem.W.clsIn K S).isSome && PySem.W.typeIn K (.ref S) == some (.type "type")) = true then PySem.W.subIn K (.ref C) (.ref S) else none) else none) = some b
  rw [if_pos e1, if_pos e2]
  exact h4
theorem ExC.te {K : PySem.W.Frag} {mg : Str → Option Value} {x : Str} {C : Addr} (e : ExC K mg x C) : PySem.W.exmOne K (.ref C) (.ref C) = some true := exm_sub e.be e.ic e.ty e.sf
/-- raise X() -/
theorem ps_raise0 {X : Cx} {W : WX} {C : Addr} {x : Str} {p pos pos2 : Pos} (hc : X.calm = true) (e : ExC X.K X.mg x C) (tk : Takes X W) (hg : Gl X x := by rfl) (hdb : (x == ("__debug__" : Str)) = false := by decide) :
    PS X (.Raise (some (.Call (.Name x p) [] [] pos)) none pos2) (fun _ σ H => W (.ref C) none σ H) :=
  ps_raise hc tk (pmk_own0 PySem.F.excBase_ValueError e.ex e.g e.kp (raises_own e.be e.ty) hg hdb)
theorem rd_callS {sp : Sp} {E : L2.St → XK} {t : TA} {σ : L2.St} {H : Hp} {Q : VK} (h : t σ H fun vs H1 => sp vs H1 Q (E σ)) : tCallS sp E t σ H Q := h
theorem rd_newK {σ : L2.St} {H : Hp} {Q : VK} (h : ∀ p, H p = none → Q (.ref p) (upd H p (.dK []))) : tDNewK σ H Q := h
theorem at_any {xs : List V} {i : Int} (h0 : 0 ≤ i) (h1 : i < (xs.length : Nat)) : ∃ v, v ∈ xs ∧ atI xs i = some v := by
  obtain ⟨j, rfl⟩ := Int.eq_ofNat_of_zero_le h0
  have hj : j < xs.length := by omega
  exact ⟨xs[j], List.getElem_mem hj, atI_nat (List.getElem?_eq_getElem hj)⟩
/-! ### things that are no integers -/
inductive Odd (D : Addr) (H : Hp) : V → Prop where
  | non : Odd D H .non
  | bl (b : Bool) : Odd D H (.bl b)
  | str (s : Str) : Odd D H (.str s)
  | lst {p : Addr} {xs : List V} (n : p ≠ D) (h : H p = some (.lst xs)) : Odd D H (.ref p)
  | tup {p : Addr} {xs : List V} (n : p ≠ D) (h : H p = some (.tup xs)) : Odd D H (.ref p)
  | dK {p : Addr} {kvs : List (Key × V)} (n : p ≠ D) (h : H p = some (.dK kvs)) : Odd D H (.ref p)
theorem Odd.fw {D : Addr} {H H' : Hp} {v : V} (o : Odd D H v) (f : Fw D H H') : Odd D H' v := by
  cases o with
  | non => exact .non
  | bl b => exact .bl b
  | str s => exact .str s
  | lst n h => exact .lst n (f _ _ n h)
  | tup n h => exact .tup n (f _ _ n h)
  | dK n h => exact .dK n (f _ _ n h)
theorem Odd.isi {D : Addr} {H : Hp} {v : V} (o : Odd D H v) (K : PySem.W.Frag) : ∃ b1 b2 : Bool, (b1 && !b2) = false ∧ (∀ Q : VK, Q (.bl b1) H → rIsi K [v, .ty "int"] H Q) ∧ (∀ Q : VK, Q (.bl b2) H → rIsi K [v, .ty "bool"] H Q) := by
  cases o with
  | non => exact ⟨false, false, rfl, fun Q q => ⟨_, _, _, _, _, rfl, .ty _, .base .non, kit_ty (by decide +kernel), q⟩, fun Q q => ⟨_, _, _, _, _, rfl, .ty _, .base .non, kit_ty (by decide +kernel), q⟩⟩
  | bl b => exact ⟨true, true, rfl, fun Q q => ⟨_, _, _, _, _, rfl, .ty _, .base (.bl _), kit_ty (by decide +kernel), q⟩, fun Q q => ⟨_, _, _, _, _, rfl, .ty _, .base (.bl _), kit_ty (by decide +kernel), q⟩⟩
  | str s => exact ⟨false, false, rfl, fun Q q => ⟨_, _, _, _, _, rfl, .ty _, .base (.str _), kit_ty (by decide +kernel), q⟩, fun Q q => ⟨_, _, _, _, _, rfl, .ty _, .base (.str _), kit_ty (by decide +kernel), q⟩⟩
  | lst n h => exact ⟨false, false, rfl, fun Q q => ⟨_, _, _, _, _, rfl, .ty _, .base (.lst h), kit_ty (by decide +kernel), q⟩, fun Q q => ⟨_, _, _, _, _, rfl, .ty _, .base (.lst h), kit_ty (by decide +kernel), q⟩⟩
  | tup n h => exact ⟨false, false, rfl, fun Q q => ⟨_, _, _, _, _, rfl, .ty _, .base (.tup h), kit_ty (by decide +kernel), q⟩, fun Q q => ⟨_, _, _, _, _, rfl, .ty _, .base (.tup h), kit_ty (by decide +kernel), q⟩⟩
  | dK n h => exact ⟨false, false, rfl, fun Q q => ⟨_, _, _, _, _, rfl, .ty _, .base (.dK h), kit_ty (by decide +kernel), q⟩, fun Q q => ⟨_, _, _, _, _, rfl, .ty _, .base (.dK h), kit_ty (by decide +kernel), q⟩⟩
end My
namespace My
open PySem PySem.Spec PyProof.Rows L2
/-! ### for i, x in enumerate(t), t a tuple -/
section
variable {prog : Program} {w : World} {A : Around} {E : Value → Shared → Prop} {s : Shared}
theorem tupNext {it t : Addr} {i : Nat} {its : Array Value} {x : Value} {Q : Value → Shared → Prop} (h1 : IsTupIter s.heap it t i) (h2 : IsTup s.heap t its) (hx : its[i]? = some x)
    (q : ∀ h', IsTupIter h' it t (i + 1) → Heap.SameBut it s.heap h' → Q x { s with heap := h' }) : wpAny (model prog w) A (Builtin.SmallTypes.nextOf (.ref it)) Q E s := by
  unfold Builtin.SmallTypes.nextOf
  exact wpAny_bind (special_tup_item h1 h2 hx fun h' a b => wpAny_pure (q h' a b))
theorem tupNo {it t : Addr} {i : Nat} {its : Array Value} {Q : Value → Shared → Prop} (hh : A.handled = none) (h1 : IsTupIter s.heap it t i) (h2 : IsTup s.heap t its) (hx : its[i]? = none)
    (q : ∀ h' e, Heap.ExtBut it s.heap h' → (∃ o, h'.get? e = some o ∧ o.cls = .type "StopIteration") → E (.ref e) { s with heap := h' }) : wpAny (model prog w) A (Builtin.SmallTypes.nextOf (.ref it)) Q E s := by
  unfold Builtin.SmallTypes.nextOf
  refine wpAny_bind (special_tup_end hh h1 h2 hx fun e h' sx eb => ?_)
  obtain ⟨a, o, vs, rfl, ho, hc, _⟩ := sx
  exact q h' a eb ⟨o, ho, hc⟩
theorem tupDraws {it t : Addr} {its : Array Value} (hh : A.handled = none) (ne : t ≠ it) : Draws prog w A it [it, t] its.size (fun i x => its[i]? = some x) (fun i h => IsTupIter h it t i ∧ IsTup h t its) where
  live := fun i h st => by
    obtain ⟨⟨o, ho, _⟩, _⟩ := st
    exact ⟨o, ho⟩
  frame := fun i h h' st k => by
    obtain ⟨⟨o, ho, r⟩, ⟨o2, ho2, r2⟩⟩ := st
    exact ⟨⟨o, k it (by simp) o ho, r⟩, ⟨o2, k t (by simp) o2 ho2, r2⟩⟩
  item := fun i s Q E hi st q => tupNext st.1 st.2 (x := its[i]) (by simp [hi]) fun h' a b => q _ h' s.toks (by simp [hi]) ⟨a, st.2.extBut b.extBut ne⟩ b
  done := fun s Q E st q => tupNo hh st.1 st.2 (by simp) q
theorem newEnumT (t : Addr) (its : Array Value) (n : Nat) (dct : Option Addr) (sl : Array (Option Value)) :
    Meets (Builtin.«enumerate.__new__» ⟨[.type "enumerate", .ref t], []⟩) (fun _ R s => s.heap.get? t = some { cls := .type "tuple", dict := dct, data := .seq its n, slots := sl } ∧
      R (.ok (.ret (.ref (s.heap.push { cls := .type "tuple_iterator", data := .fields #[.ref t, .int 0 0] }).objs.size)))
        { s with heap := (s.heap.push { cls := .type "tuple_iterator", data := .fields #[.ref t, .int 0 0] }).push { cls := .type "enumerate", data := .fields #[.none, .bool false, .ref s.heap.objs.size, rawInt 0, .none, .none] } }) :=
  Meets.of_wp fun prog w A R s h => by
    obtain ⟨hp, g, d, tk, os⟩ := s
    obtain ⟨ht, hR⟩ := h
    have hsub := sub_enumerate
    have hT : IsTup (Shared.heap ⟨hp, g, d, tk, os⟩) t its := ⟨_, ht, rfl, n, rfl⟩
    wp_walk using AutoSeq1.wpAny_loadPart' ht
    refine wpAny_stack_any (fun st => wpAny_pure ?_)
    split
    · rename_i c _ _ _ _ _
      cases (c == Value.type "enumerate") <;> (wp_walk using AutoSeq1.wpAny_loadPart' ht, iter_tuple hT; exact ⟨_, rfl, hR⟩)
    · wp_walk using AutoSeq1.wpAny_loadPart' ht, iter_tuple hT
      exact ⟨_, rfl, hR⟩
theorem callEnumT {t : Addr} {its : Array Value} {Q : Value → Shared → Prop} (hT : IsTup s.heap t its)
    (q : ∀ h', IsEnum h' (s.heap.objs.size + 1) s.heap.objs.size 0 .none → IsTupIter h' s.heap.objs.size t 0 → (∀ b o, s.heap.get? b = some o → h'.get? b = some o) → Q (.ref (s.heap.objs.size + 1)) { s with heap := h' }) :
    wpAny (model prog w) A (call (.type "enumerate") [.ref t]) Q E s := by
  obtain ⟨⟨c, dct, dt, sl⟩, ht, hc, n, hd⟩ := hT
  simp only at hc hd
  subst hc hd
  refine callType_new F.called_enumerate (by decide) (F.typeCall_enumerate_1 _) (F.newCall_enumerate_1 _) (fun obj => F.args_object_init_2 obj _) F.entry_enumerate_new (newEnumT t its n dct sl) ⟨ht, ?_⟩
  generalize hh1 : s.heap.push { cls := .type "tuple_iterator", data := .fields #[.ref t, .int 0 0] } = h1
  have z1 : h1.objs.size = s.heap.objs.size + 1 := by rw [← hh1, Heap.size_push]
  have k1 : ∀ b o, s.heap.get? b = some o → h1.get? b = some o := fun b o e => by rw [← hh1]; exact Heap.get?_push_of_some _ e
  have i1 : h1.get? s.heap.objs.size = some { cls := .type "tuple_iterator", data := .fields #[.ref t, .int 0 0] } := by rw [← hh1]; exact Heap.get?_push_size _ rfl
  show _ ∧ _
  rw [z1]
  have e1 := Heap.get?_push_size h1 (o := { cls := .type "enumerate", data := .fields #[.none, .bool false, .ref s.heap.objs.size, rawInt 0, .none, .none] }) rfl
  rw [z1] at e1
  exact ⟨⟨_, e1, rfl⟩, q _ e1 ⟨_, Heap.get?_push_of_some _ i1, rfl, rfl⟩ fun b o e => Heap.get?_push_of_some _ (k1 b o e)⟩
end
def IteT (K : PySem.W.Frag) (a : Addr) : It :=
  ⟨fun i H => ∃ (xs : List V) (x : V), SqT K H a xs ∧ xs[i]? = some x, fun i H v H' => ∃ T x, v = .ref T ∧ H T = none ∧ H' = upd H T (.tup [.int (i : Nat), x]) ∧ ∀ xs, SqT K H a xs → xs[i]? = some x, fun i H => ∃ xs : List V, SqT K H a xs ∧ xs.length = i⟩
theorem turnEnumT {P : Program} {w : World} {K : PySem.W.Frag} {elts : List Expr} {kk : Nat} {tpos : Pos} (a e it : Addr) :
    Turn P w K (.Tuple elts kk tpos) (IteT K a) [e, it] e (fun i h => (∃ old, IsEnum h e it ((i : Nat) : Int) old) ∧ IsTupIter h it a i ∧ e ≠ it) where
  mem := by simp
  obj := fun i h st b hb => by
    obtain ⟨⟨old, he⟩, ⟨o, ho, hc, hd⟩, _⟩ := st
    rcases (show b = e ∨ b = it by simpa using hb) with rfl | rfl
    · exact ⟨_, he, fun v q => nomatch q⟩
    · exact ⟨o, ho, fun v q => by rw [hd] at q; cases q⟩
  keep := fun i h h' st k => by
    obtain ⟨⟨old, he⟩, ⟨o, ho, r⟩, hne⟩ := st
    exact ⟨⟨old, k e (by simp) _ he⟩, ⟨o, k it (by simp) o ho, r⟩, hne⟩
  item := by
    intro X hP hw hK hc i pins s σ H E I hf st hg
    subst hP hw hK
    obtain ⟨⟨old, he⟩, hit, hne⟩ := st
    obtain ⟨xs, x, hq, hx⟩ := hg
    obtain ⟨its, rv, p, hz⟩ := I.tuple hq
    obtain ⟨u, hu, ru⟩ := rv.get hx
    have elt := Heap.lt_size he
    have ilt : it < s.heap.objs.size := by obtain ⟨_, q, _⟩ := hit; exact Heap.lt_size q
    have hh := I.ok.hd hc
    have hti : a ≠ it := fun z => by
      obtain ⟨o1, e1, c1, _⟩ := hit
      obtain ⟨o2, e2, c2, _⟩ := p
      rw [z, e1] at e2
      cases e2
      rw [c1] at c2
      exact absurd c2 (by decide)
    have hte : e ≠ a := fun z => by
      obtain ⟨o2, e2, c2, _⟩ := p
      rw [← z, he] at e2
      cases e2
      exact absurd (show (Value.type "enumerate" : Value) = .type "tuple" from c2) (by decide)
    have ii : i < its.toArray.size := by
      have hl := rv.length
      have : i < xs.length := by
        rcases Nat.lt_or_ge i xs.length with h | h
        · exact h
        · rw [List.getElem?_eq_none h] at hx
          cases hx
      simp
      omega
    refine wpAny_pyNext_enum_itemD (tupDraws (A := X.A.in1) hh hti) he ⟨hit, p⟩ ii hne (by simp [hne, hte]) fun u' h' tk hu' ho st' hT hsz hk => ?_
    obtain rfl : u = u' := by
      have e2 : its.toArray[i]? = some u := by simpa using hu
      rw [e2] at hu'
      exact Option.some.inj hu'
    refine ⟨_, rfl, wpAny_letOwnedTupleGo_enum (s := { s with heap := h', toks := tk + 1 }) ho fun h'' he' sb => ?_⟩
    have hT2 := (sb.2 _ (Nat.ne_of_gt elt)).trans hT
    have new : ObjOk X.prog X.w (upd H s.heap.objs.size (.tup [.int (i : Nat), x])) h'' s.heap.objs.size (.tup [.int (i : Nat), x]) := ⟨by show 2 ≤ sizeLine; decide, [.int i tk, u], .cons ⟨_, rfl⟩ (.cons ru .nil), ⟨_, hT2, rfl, _, rfl⟩⟩
    have I1 : Inv X pins σ (upd H s.heap.objs.size (.tup [.int (i : Nat), x])) { s with heap := h'', toks := tk + 1 } :=
      I.turnedNew (t' := tk + 1) (ch := [e, it]) (fun b ob hb q => by
        have b1 : b ≠ e := fun z => hb (by simp [z])
        have b2 : b ≠ it := fun z => hb (by simp [z])
        exact (sb.2 b b1).trans (hk b ob b1 b2 q)) hf (Nat.le_refl _) new
    refine ⟨.ref s.heap.objs.size, _, I1, rfl, ⟨_, x, rfl, I.hok.fresh (Nat.le_refl _), rfl, fun ys hy => by rw [I.tuple_inj hy hq]; exact hx⟩, ⟨⟨u, ?_⟩, ?_, hne⟩, fun b hb => ?_⟩
    · rw [show ((i + 1 : Nat) : Int) = (i : Int) + 1 by omega]
      exact he'
    · obtain ⟨o, ho', r⟩ := st'.1
      exact ⟨o, (sb.2 it (Ne.symm hne)).trans ho', r⟩
    · have hb' : b < s.heap.objs.size := by
        rcases (show b = e ∨ b = it by simpa using hb) with rfl | rfl
        · exact elt
        · exact ilt
      rw [upd_ne (Nat.ne_of_lt hb')]
      exact (hf b hb).1
  done := by
    intro X hP hw hK hc i pins s σ H E I hf st hg
    subst hP hw hK
    obtain ⟨⟨old, he⟩, hit, hne⟩ := st
    obtain ⟨xs, hq, hx⟩ := hg
    obtain ⟨its, rv, p, hz⟩ := I.tuple hq
    obtain ⟨f0, f1, f2, f3, f4, f5⟩ := hf it (by simp)
    have hl := rv.length
    have hh := I.ok.hd hc
    have hti : a ≠ it := fun z => by
      obtain ⟨o1, e1, c1, _⟩ := hit
      obtain ⟨o2, e2, c2, _⟩ := p
      rw [z, e1] at e2
      cases e2
      rw [c1] at c2
      exact absurd c2 (by decide)
    have en : i = its.toArray.size := by
      simp
      omega
    rw [en] at he hit
    exact wpAny_pyNext_enum_endD (tupDraws (A := X.A.in1) hh hti) he ⟨hit, p⟩ fun h' eb => ⟨rfl, I.turned (t' := s.toks) (fun b o hb q => eb b o hb q) f0 f1 f3 f4 f5⟩
  self := fun A i s Q E st h => by
    obtain ⟨⟨_, he⟩, _⟩ := st
    exact wpAny_pyIter_enum he h
/-- enumerate over a list or a tuple -/
def iEnumX (K : PySem.W.Frag) (ta : TA) : TI := fun σ H R => ta σ H fun vs H1 => ∃ a xs, vs = [.ref a] ∧ ((SqL K H1 a xs ∧ R (Ite K a) H1) ∨ (SqT K H1 a xs ∧ R (IteT K a) H1))
theorem pi_enumX {X : Cx} {e : Expr} {ta : TA} {p pos tpos : Pos} {elts : List Expr} {kk : Nat} (hg : Gl X "enumerate") (hm : X.mg "enumerate" = none) (ha : PA X [e] ta) (hs : starEach [e] X.env = [(false, eval e X.env)] := by rfl) :
    PI X (.Tuple elts kk tpos) (.Call (.Name "enumerate" p) [e] [] pos) (iEnumX X.K ta) := by
  refine ⟨fun pins s σ H R I h => ?_⟩
  refine Call_ (ld_blt I hg hm boot_enumerate (PyProof.Rows.callWith_type1 (thn (ha.run pos pins s σ H _ I h) fun us s1 q1 => ?_) hs rfl))
  obtain ⟨vs, H1, I1, r1, a, xs, ex, q⟩ := q1
  subst ex
  obtain ⟨u, rfl, ru⟩ := vals1 r1
  cases ru
  have go : ∀ (h' : Heap) (J : It) (tn : Nat → Heap → Prop), (∀ b o, s1.heap.get? b = some o → h'.get? b = some o) → IsEnum h' (s1.heap.objs.size + 1) s1.heap.objs.size 0 .none → Turn X.prog X.w X.K (.Tuple elts kk tpos) J [s1.heap.objs.size + 1, s1.heap.objs.size] (s1.heap.objs.size + 1) tn → tn 0 h' → R J H1 →
      wpAny (model X.prog X.w) X.A (pyIter (.ref (s1.heap.objs.size + 1))) (PIE X pins σ (.Tuple elts kk tpos) R) X.xe { s1 with heap := h' } := fun h' J tn hk he T t0 q => by
    refine wpAny_pyIter_enum he ?_
    refine ⟨s1.heap.objs.size + 1, [s1.heap.objs.size + 1, s1.heap.objs.size], tn, J, H1, rfl, I1.kept (t' := s1.toks) hk, T, t0, fun b hb => ?_, q⟩
    have hle : s1.heap.objs.size ≤ b := by
      rcases (show b = s1.heap.objs.size + 1 ∨ b = s1.heap.objs.size by simpa using hb) with rfl | rfl
      · exact Nat.le_succ _
      · exact Nat.le_refl _
    exact I1.fpOk hle (I1.hok.fresh hle)
  rcases q with ⟨hq, q⟩ | ⟨hq, q⟩
  · obtain ⟨its, rv, p', hz⟩ := I1.list hq
    exact call_enumerate_list p'.isList fun h' he hit hsz hk => go h' _ _ hk he (turn_enum a _ _) ⟨⟨.none, he⟩, hit, Nat.succ_ne_self _⟩ q
  · obtain ⟨its, rv, p', hz⟩ := I1.tuple hq
    exact callEnumT p' fun h' he hit hk => go h' _ _ hk he (turnEnumT a _ _) ⟨⟨.none, he⟩, hit, Nat.succ_ne_self _⟩ q
theorem rd_enumX {K : PySem.W.Frag} {ta : TA} {R : It → Hp → Prop} {σ : L2.St} {H : Hp} (h : ta σ H fun vs H1 => ∃ a xs, vs = [.ref a] ∧ ((SqL K H1 a xs ∧ R (Ite K a) H1) ∨ (SqT K H1 a xs ∧ R (IteT K a) H1))) : iEnumX K ta σ H R := h
theorem for_enumT {K : PySem.W.Frag} {a : Addr} {xs : List V} {g : TG} {tb : TS} {D : Ends} {σ : L2.St} {H : Hp} (Pv : Nat → L2.St → Hp → Prop) (h0 : Pv 0 σ H) (hl : ∀ i σ H, i ≤ xs.length → Pv i σ H → SqT K H a xs)
    (hs : ∀ i x T σ H, xs[i]? = some x → Pv i σ H → H T = none → g (.ref T) σ (upd H T (.tup [.int (i : Nat), x])) fun σ2 H2 => tb { D with nx := Pv (i + 1), ct := Pv (i + 1), bk := D.nx } σ2 H2) (hd : ∀ σ H, Pv xs.length σ H → D.nx σ H) :
    ∃ W : Nat → Nat → L2.St → Hp → Prop, (∃ m, W 0 m σ H) ∧ ∀ i m σ H, W i m σ H →
      ((IteT K a).stop i H ∧ D.nx σ H) ∨ ((IteT K a).go i H ∧ ∃ N : L2.St → Hp → Prop, (∀ σ' H', N σ' H' → ∃ m', m' < m ∧ W (i + 1) m' σ' H') ∧ ∀ x H', (IteT K a).yld i H x H' → g x σ H' fun σ2 H2 => tb { D with nx := N, ct := N, bk := D.nx } σ2 H2) := by
  refine ⟨fun i m σ H => m = xs.length - i ∧ i ≤ xs.length ∧ Pv i σ H, ⟨xs.length, by simp, Nat.zero_le _, h0⟩, ?_⟩
  rintro i m σ H ⟨rfl, hi, p⟩
  have q := hl i σ H hi p
  by_cases hlt : i < xs.length
  · refine .inr ⟨⟨xs, xs[i], q, by simp [hlt]⟩, Pv (i + 1), fun σ' H' p' => ⟨xs.length - (i + 1), by omega, rfl, hlt, p'⟩, fun x H' y => ?_⟩
    obtain ⟨T, x, rfl, nT, rfl, y⟩ := y
    exact hs i x T σ H (y xs q) p nT
  · have e : i = xs.length := by omega
    subst e
    exact .inl ⟨⟨xs, q, rfl⟩, hd σ H p⟩
end My
namespace My
open PySem PySem.Spec PyProof.Rows L2
/-! ### max of a tuple of two ints -/
def rMaxT (K : PySem.W.Frag) : List V → Hp → VK → Prop := fun vs H Q => ∃ (a : Addr) (i j : Int), vs = [V.ref a] ∧ SqT K H a [.int i, .int j] ∧ ∀ m, m = i ∨ m = j → Q (.int m) H
theorem cr_maxT {X : Cx} (hc : X.calm = true) (hu : X.A.units + 64 < cLine) : CallR X (.builtin "max") (rMaxT X.K) := by
  intro pins s σ H vs us Q I r h
  obtain ⟨a, i, j, rfl, hs, q⟩ := h
  obtain ⟨its, rv, hl, _⟩ := I.tuple hs
  rw [Vals.ref1 r]
  have hv : ∃ (u1 u2 : Value), its = [u1, u2] ∧ RelV (.int i) u1 ∧ RelV (.int j) u2 := by
    cases rv with
    | cons r1 r2 =>
      cases r2 with
      | cons r2 r3 =>
        cases r3
        exact ⟨_, _, rfl, r1, r2⟩
  clear rv
  obtain ⟨_, _, rfl, ⟨t1, rfl⟩, ⟨t2, rfl⟩⟩ := hv
  have e : PyData.depthAll [PyData.int i, .int j] ≤ 2 := by simp [PyData.depthAll, PyData.depth]
  have hm : PySem.W.maxD (.int i) [.int j] = .int i ∨ PySem.W.maxD (.int i) [.int j] = .int j := by
    unfold PySem.W.maxD
    simp only [List.foldl]
    split <;> simp
  have hr : ReadsAll s.heap [Value.int i t1, Value.int j t2] [PyData.int i, .int j] [] := .cons (as := []) (.int _ _) (.cons (as := []) (.int _ _) .nil)
  have ha : PySem.W.AlikeAll [PyData.int i, .int j] := by
    refine ⟨fun x hx y hy => ?_, fun x hx => ?_⟩
    · simp only [List.mem_cons, List.not_mem_nil, or_false] at hx hy
      rcases hx with rfl | rfl <;> rcases hy with rfl | rfl <;> rfl
    · simp only [List.mem_cons, List.not_mem_nil, or_false] at hx
      rcases hx with rfl | rfl <;> simp
  refine PySem.W.max_tuple_data (x := .int i) (xs := [.int j]) (as := []) (I.ok.hd hc) hl hr ha ?_ fun k v h' tk bs hk hr hk' => ?_
  · omega
  · rcases hm with e | e <;> (rw [e] at hr; cases hr)
    · exact ⟨.int i, H, I.kept hk', ⟨_, rfl⟩, q i (.inl rfl)⟩
    · exact ⟨.int j, H, I.kept hk', ⟨_, rfl⟩, q j (.inr rfl)⟩
end My
namespace My
open PySem PySem.Spec PyProof.Rows L2
/-! ### min of a tuple of two ints -/
def rMinT (K : PySem.W.Frag) : List V → Hp → VK → Prop := fun vs H Q => ∃ (a : Addr) (i j : Int), vs = [V.ref a] ∧ SqT K H a [.int i, .int j] ∧ ∀ m, (m = i ∨ m = j) ∧ m ≤ i ∧ m ≤ j → Q (.int m) H
theorem cr_minT {X : Cx} (hc : X.calm = true) (hu : X.A.units + 64 < cLine) : CallR X (.builtin "min") (rMinT X.K) := by
  intro pins s σ H vs us Q I r h
  obtain ⟨a, i, j, rfl, hs, q⟩ := h
  obtain ⟨its, rv, hl, _⟩ := I.tuple hs
  rw [Vals.ref1 r]
  have hv : ∃ (u1 u2 : Value), its = [u1, u2] ∧ RelV (.int i) u1 ∧ RelV (.int j) u2 := by
    cases rv with
    | cons r1 r2 =>
      cases r2 with
      | cons r2 r3 =>
        cases r3
        exact ⟨_, _, rfl, r1, r2⟩
  clear rv
  obtain ⟨_, _, rfl, ⟨t1, rfl⟩, ⟨t2, rfl⟩⟩ := hv
  have e : PyData.depthAll [PyData.int i, .int j] ≤ 2 := by simp [PyData.depthAll, PyData.depth]
  have hm : PySem.W.minD (.int i) [.int j] = .int (min i j) := PySem.W.minD_ints i [j]
  have hr : ReadsAll s.heap [Value.int i t1, Value.int j t2] [PyData.int i, .int j] [] := .cons (as := []) (.int _ _) (.cons (as := []) (.int _ _) .nil)
  have ha : PySem.W.AlikeAll [PyData.int i, .int j] := by
    refine ⟨fun x hx y hy => ?_, fun x hx => ?_⟩
    · simp only [List.mem_cons, List.not_mem_nil, or_false] at hx hy
      rcases hx with rfl | rfl <;> rcases hy with rfl | rfl <;> rfl
    · simp only [List.mem_cons, List.not_mem_nil, or_false] at hx
      rcases hx with rfl | rfl <;> simp
  refine PySem.W.min_tuple_data (x := .int i) (xs := [.int j]) (as := []) (I.ok.hd hc) hl hr ha ?_ fun k v h' tk bs hk hr hk' => ?_
  · omega
  · rw [hm] at hr
    cases hr
    exact ⟨.int (min i j), H, I.kept hk', ⟨_, rfl⟩, q (min i j) ⟨by omega, by omega, by omega⟩⟩
theorem cr_minTK {X : Cx} {K : PySem.W.Frag} (h : X.K = K) (hc : X.calm = true) (hu : X.A.units + 64 < cLine) : CallR X (.builtin "min") (rMinT K) := h ▸ cr_minT hc hu
end My
namespace My
open PySem PySem.Spec PyProof.Rows L2
variable {K : PySem.W.Frag}
/-! ### own error classes with one field -/
structure ExF (K : PySem.W.Frag) (mg : Str → Option Value) (x : Str) (C fI : Addr) (fl : Str) : Prop where
  g : mg x = some (.ref C)
  ox : OexC K C
  iC : PySem.W.findIn K (.ref C) "__init__" = some (some (.ref fI))
  tI : PySem.W.typeIn K (.ref fI) = some (.type "function")
  no : PySem.W.findIn K (.ref C) fl = some none
  xf : XfC K C
  ic : PySem.W.isClsIn K C = true
  sf : PySem.W.subIn K (.ref C) (.ref C) = some true
theorem ExF.te {K : PySem.W.Frag} {mg : Str → Option Value} {x : Str} {C fI : Addr} {fl : Str} (e : ExF K mg x C fI fl) : PySem.W.exmOne K (.ref C) (.ref C) = some true := exm_sub e.ox.exC e.ic e.ox.tyC e.sf
/-- what such an __init__ does -/
def sp_xinit (C : Addr) (fl : Str) : Sp := fun vs H Q _ => ∃ p v, vs = [.ref p, v] ∧ H p = some (exo p C none) ∧ ∀ dx, H dx = none → dx ≠ p → Q .non (upd (upd H dx (exd dx [(fl, v)])) p (exo p C (some dx)))
theorem rd_ost {K : PySem.W.Frag} {f : Str} {to te : TE} {D : Ends} {σ : L2.St} {H : Hp} (h : te σ H fun y H1 => to σ H1 fun x H2 => ∃ a C : Addr, x = .ref a ∧ OexC K C ∧ PySem.W.findIn K (.ref C) f = some none ∧
    ((H2 a = some (exo a C none) ∧ ∀ dx, H2 dx = none → dx ≠ a → D.nx σ (upd (upd H2 dx (exd dx [(f, y)])) a (exo a C (some dx)))) ∨
      ∃ (dx : Addr) (fs : List (Str × V)), H2 a = some (exo a C (some dx)) ∧ H2 dx = some (exd dx fs) ∧ fs.length ≤ 900 ∧ D.nx σ (upd H2 dx (exd dx ((f, y) :: fs))))) : tOst K f to te D σ H := h
theorem del_upd_back {H1 : Hp} {a d : Addr} {o1 o2 o3 : HO} {fs : List (Str × V)} (ha : H1 a = none) (hd : H1 d = none) (hn : d ≠ a) :
    upd (del (upd (upd (upd H1 a o1) d o2) a o3) a) d (.xd fs) = upd H1 d (.xd fs) := by
  funext b
  by_cases hb : b = d
  · rw [hb, upd_same, upd_same]
  · rw [upd_ne hb, upd_ne hb]
    by_cases hb2 : b = a
    · rw [hb2, del_same, ha]
    · rw [del_ne hb2, upd_ne hb2, upd_ne hb, upd_ne hb2]
theorem lk1 {f : Str} {v : V} : ([(f, v)] : List (Str × V)).lookup f = some v := by
  have e : (f == f) = true := beq_self_eq_true f
  simp only [List.lookup, e]
/-- raise X(e) -/
def tRaise1 (C : Addr) (fl : Str) (W : WX) (ta : TA) : TS := fun _ σ H => tMkO C (sp_xinit C fl) [] ta σ H fun cls d H' => W cls d σ H'
theorem rd_raise1 {C : Addr} {fl : Str} {W : WX} {ta : TA} {D : Ends} {σ : L2.St} {H : Hp} (h : ta σ H fun vs H1 => vs.length ≤ 1000 ∧ ∀ a, H1 a = none → sp_xinit C fl (.ref a :: (vs ++ [])) (upd H1 a (exo a C none))
    (fun v H2 => v = .non ∧ ∃ (d : Addr) (fs : List (Str × V)), H2 a = some (exo a C (some d)) ∧ H2 d = some (exd d fs) ∧ H1 d = none ∧ W (.ref C) (some d) σ (upd (del H2 a) d (.xd fs))) (fun _ _ _ => False)) : tRaise1 C fl W ta D σ H := h
theorem rd_x1 {C : Addr} {fl : Str} {v : V} {H1 : Hp} {Q : Value → Option Addr → Hp → Prop} (h : ∀ d, H1 d = none → Q (.ref C) (some d) (upd H1 d (.xd [(fl, v)]))) :
    [v].length ≤ 1000 ∧ ∀ a, H1 a = none → sp_xinit C fl (.ref a :: ([v] ++ [])) (upd H1 a (exo a C none))
      (fun v H2 => v = .non ∧ ∃ (d : Addr) (fs : List (Str × V)), H2 a = some (exo a C (some d)) ∧ H2 d = some (exd d fs) ∧ H1 d = none ∧ Q (.ref C) (some d) (upd (del H2 a) d (.xd fs))) (fun _ _ _ => False) := by
  refine ⟨by show 1 ≤ 1000; decide, fun a na => ⟨a, v, rfl, upd_same, fun dx nd ne => ⟨rfl, dx, [(fl, v)], upd_same, ?_, ?_, ?_⟩⟩⟩
  · rw [upd_ne ne, upd_same]
  · rw [upd_ne ne] at nd
    exact nd
  · rw [upd_ne ne] at nd
    rw [del_upd_back na nd ne]
    exact h dx nd
theorem ps_raise1 {X : Cx} {W : WX} {C fI : Addr} {x : Str} {fl : Str} {k : Nat} {fd : FuncData} {ta : TA} {e : Expr} {es : List Expr} {p pos pos2 : Pos} (hc : X.calm = true) (E : ExF X.K X.mg x C fI fl)
    (F1 : FnOk X.prog X.w X.K X.mg X.base CX0 k fI fd ["self", fl] (sp_xinit C fl)) (hr : Room (k + 1) X.A) (tk : Takes X W) (hb : Binds X.K fd ["self", fl] []) (ha : PA X (e :: es) ta) (hg : Gl X x := by rfl)
    (hdb : (x == ("__debug__" : Str)) = false := by decide) (he : starEach (e :: es) X.env = (false, eval e X.env) :: starEach es X.env := by rfl) (hpl : (backTo pos (starEach es X.env)).any (·.1) = false := by rfl) :
    PS X (.Raise (some (.Call (.Name x p) (e :: es) [] pos)) none pos2) (tRaise1 C fl W ta) :=
  ps_raise (pos := pos2) hc tk (pmk_oex (pos := pos) E.ox E.iC E.tI F1 hr hb .nil pass0 hg E.g ha hdb he hpl)
/-- e.f of the caught error -/
theorem rd_xf {a : Addr} {cls : Value} {d : Option Addr} {C : Addr} {f : Str} {te : TE} {σ : L2.St} {H : Hp} {Q : VK} (h : te σ H fun x H1 => x = .ref a ∧ cls = .ref C ∧ ∃ (dd : Addr) (fs : List (Str × V)) (v : V), d = some dd ∧ H1 dd = some (.xd fs) ∧ fs.lookup f = some v ∧ Q v H1) : tXf a cls d C f te σ H Q := h
theorem rd_xf1 {a : Addr} {C dd : Addr} {f : Str} {v : V} {H : Hp} {Q : VK} (h : H dd = some (.xd [(f, v)])) (q : Q v H) : (V.ref a) = .ref a ∧ (Value.ref C) = .ref C ∧ ∃ (dd2 : Addr) (fs : List (Str × V)) (v : V), some dd = some dd2 ∧ H dd2 = some (.xd fs) ∧ fs.lookup f = some v ∧ Q v H := ⟨rfl, rfl, dd, _, v, rfl, h, lk1, q⟩
/-! ### own classes with fields -/
structure InsT (K : PySem.W.Frag) (C : Addr) : Prop where
  cl : Cls K C
  ha : PySem.W.findIn K (.ref C) "__class__" = some (some (.builtin "object.__class__"))
  hn : PySem.W.specialIn K (.builtin "object.__class__") "__get__" = some (some (.builtin "getset_descriptor.__get__"))
  ht : PySem.W.takesIn K (.builtin "object.__class__") = some true
  mo : PySem.W.mroIn K C (.type "object") = some true
  ki : PySem.W.kitOne K (.ref C) (.type "int") = some false
  kb : PySem.W.kitOne K (.ref C) (.type "bool") = some false
  kt : PySem.W.kitOne K (.ref C) (.type "tuple") = some false
  kl : PySem.W.kitOne K (.ref C) (.type "list") = some false
structure WebC (K : PySem.W.Frag) (mg : Str → Option Value) (x : Str) (C fI : Addr) : Prop where
  g : mg x = some (.ref C)
  mks : Mk K C fI
  it : InsT K C
theorem rd_fldS {K : PySem.W.Frag} {ta tv : TE} {f : Str} {D : Ends} {σ : L2.St} {H : Hp} (h : tv σ H fun y H1 => ta σ H1 fun x H2 => ∃ a C dx fs, x = .ref a ∧ H2 a = some (.ins C dx fs) ∧ Cls K C ∧ NoAttr K C f ∧ fs.length < 1000 ∧ D.nx σ (upd H2 a (.ins C dx (putF f y fs)))) : sFld K ta tv f D σ H := h
theorem rd_make {C : Addr} {sp : Sp} {dvs : List V} {E : XK} {t : TA} {σ : L2.St} {H : Hp} {Q : VK} (h : t σ H fun vs H1 => ∀ x dx, H1 x = none → H1 dx = none → dx ≠ x → sp (.ref x :: (vs ++ dvs)) (upd (upd H1 dx (.own x)) x (.ins C dx [])) (fun v H2 => v = .non ∧ Q (.ref x) H2) E) : tMake C sp dvs E t σ H Q := h
theorem rd_enum {K : PySem.W.Frag} {ta : TA} {R : It → Hp → Prop} {σ : L2.St} {H : Hp} (h : ta σ H fun vs H1 => ∃ a xs, vs = [.ref a] ∧ SqL K H1 a xs ∧ R (Ite K a) H1) : iEnum K ta σ H R := h
/-! ### things of all kinds; D: the deck, which alone is changed -/
inductive Od (K : PySem.W.Frag) (D : Addr) (H : Hp) : V → Prop where
  | non : Od K D H .non
  | bl (b : Bool) : Od K D H (.bl b)
  | str (s : Str) : Od K D H (.str s)
  | lst {p : Addr} {xs : List V} (n : p ≠ D) (h : H p = some (.lst xs)) : Od K D H (.ref p)
  | tup {p : Addr} {xs : List V} (n : p ≠ D) (h : H p = some (.tup xs)) : Od K D H (.ref p)
  | dK {p : Addr} {kvs : List (Key × V)} (n : p ≠ D) (h : H p = some (.dK kvs)) : Od K D H (.ref p)
  | ins {p C dx : Addr} {fs : List (Str × V)} (n : p ≠ D) (h : H p = some (.ins C dx fs)) (c : InsT K C) : Od K D H (.ref p)
theorem Od.fw {K : PySem.W.Frag} {D : Addr} {H H' : Hp} {v : V} (o : Od K D H v) (f : Fw D H H') : Od K D H' v := by
  cases o with
  | non => exact .non
  | bl b => exact .bl b
  | str s => exact .str s
  | lst n h => exact .lst n (f _ _ n h)
  | tup n h => exact .tup n (f _ _ n h)
  | dK n h => exact .dK n (f _ _ n h)
  | ins n h c => exact .ins n (f _ _ n h) c
/-- what isinstance says of it -/
theorem Od.isi {K : PySem.W.Frag} {D : Addr} {H : Hp} {v : V} (o : Od K D H v) : ∃ b1 b2 b3 : Bool, (b1 && !b2) = false ∧ (∀ Q : VK, Q (.bl b1) H → rIsi K [v, .ty "int"] H Q) ∧ (∀ Q : VK, Q (.bl b2) H → rIsi K [v, .ty "bool"] H Q) ∧ (∀ Q : VK, Q (.bl b3) H → rIsi K [v, .ty "tuple"] H Q) ∧ (b3 = true → ∃ p xs, v = .ref p ∧ p ≠ D ∧ H p = some (.tup xs)) := by
  cases o with
  | non => exact ⟨false, false, false, rfl, fun Q q => ⟨_, _, _, _, _, rfl, .ty _, .base .non, kit_ty (by decide +kernel), q⟩, fun Q q => ⟨_, _, _, _, _, rfl, .ty _, .base .non, kit_ty (by decide +kernel), q⟩, fun Q q => ⟨_, _, _, _, _, rfl, .ty _, .base .non, kit_ty (by decide +kernel), q⟩, fun z => Bool.noConfusion z⟩
  | bl b => exact ⟨true, true, false, rfl, fun Q q => ⟨_, _, _, _, _, rfl, .ty _, .base (.bl _), kit_ty (by decide +kernel), q⟩, fun Q q => ⟨_, _, _, _, _, rfl, .ty _, .base (.bl _), kit_ty (by decide +kernel), q⟩, fun Q q => ⟨_, _, _, _, _, rfl, .ty _, .base (.bl _), kit_ty (by decide +kernel), q⟩, fun z => Bool.noConfusion z⟩
  | str s => exact ⟨false, false, false, rfl, fun Q q => ⟨_, _, _, _, _, rfl, .ty _, .base (.str _), kit_ty (by decide +kernel), q⟩, fun Q q => ⟨_, _, _, _, _, rfl, .ty _, .base (.str _), kit_ty (by decide +kernel), q⟩, fun Q q => ⟨_, _, _, _, _, rfl, .ty _, .base (.str _), kit_ty (by decide +kernel), q⟩, fun z => Bool.noConfusion z⟩
  | lst n h => exact ⟨false, false, false, rfl, fun Q q => ⟨_, _, _, _, _, rfl, .ty _, .base (.lst h), kit_ty (by decide +kernel), q⟩, fun Q q => ⟨_, _, _, _, _, rfl, .ty _, .base (.lst h), kit_ty (by decide +kernel), q⟩, fun Q q => ⟨_, _, _, _, _, rfl, .ty _, .base (.lst h), kit_ty (by decide +kernel), q⟩, fun z => Bool.noConfusion z⟩
  | tup n h => exact ⟨false, false, true, rfl, fun Q q => ⟨_, _, _, _, _, rfl, .ty _, .base (.tup h), kit_ty (by decide +kernel), q⟩, fun Q q => ⟨_, _, _, _, _, rfl, .ty _, .base (.tup h), kit_ty (by decide +kernel), q⟩, fun Q q => ⟨_, _, _, _, _, rfl, .ty _, .base (.tup h), kit_ty (by decide +kernel), q⟩, fun _ => ⟨_, _, rfl, n, h⟩⟩
  | dK n h => exact ⟨false, false, false, rfl, fun Q q => ⟨_, _, _, _, _, rfl, .ty _, .base (.dK h), kit_ty (by decide +kernel), q⟩, fun Q q => ⟨_, _, _, _, _, rfl, .ty _, .base (.dK h), kit_ty (by decide +kernel), q⟩, fun Q q => ⟨_, _, _, _, _, rfl, .ty _, .base (.dK h), kit_ty (by decide +kernel), q⟩, fun z => Bool.noConfusion z⟩
  | ins n h c => exact ⟨false, false, false, rfl, fun Q q => ⟨_, _, _, _, _, rfl, .ty _, .base (.ins h c.cl c.ha c.hn c.ht c.mo), c.ki, q⟩, fun Q q => ⟨_, _, _, _, _, rfl, .ty _, .base (.ins h c.cl c.ha c.hn c.ht c.mo), c.kb, q⟩, fun Q q => ⟨_, _, _, _, _, rfl, .ty _, .base (.ins h c.cl c.ha c.hn c.ht c.mo), c.kt, q⟩, fun z => Bool.noConfusion z⟩
/-- what is no fraction -/
inductive NoF (K : PySem.W.Frag) (D : Addr) (H : Hp) : V → Prop where
  | int (i : Int) : NoF K D H (.int i)
  | not {v : V} (o : Od K D H v) (h : ∀ p xs, v = .ref p → H p = some (.tup xs) → xs.length ≠ 2) : NoF K D H v
  | fst {p : Addr} {x y : V} (n : p ≠ D) (h : H p = some (.tup [x, y])) (o : Od K D H x) : NoF K D H (.ref p)
  | snd {p : Addr} {i : Int} {y : V} (n : p ≠ D) (h : H p = some (.tup [.int i, y])) (o : Od K D H y) : NoF K D H (.ref p)
  | low {p : Addr} {i j : Int} (n : p ≠ D) (h : H p = some (.tup [.int i, .int j])) (z : ¬ (0 < j ∧ Nat.gcd i.natAbs j.natAbs = 1)) (b : j.natAbs < 2 ^ 4000) : NoF K D H (.ref p)
theorem NoF.fw {K : PySem.W.Frag} {D : Addr} {H H' : Hp} {v : V} (o : NoF K D H v) (f : Fw D H H') : NoF K D H' v := by
  cases o with
  | int i => exact .int i
  | not o h =>
    refine .not (o.fw f) fun p xs e h2 => ?_
    subst e
    cases o with
    | lst n h3 =>
      rw [f _ _ n h3] at h2
      cases h2
    | tup n h3 =>
      rw [f _ _ n h3] at h2
      cases h2
      exact h _ _ rfl h3
    | dK n h3 =>
      rw [f _ _ n h3] at h2
      cases h2
    | ins n h3 c =>
      rw [f _ _ n h3] at h2
      cases h2
  | fst n h o => exact .fst n (f _ _ n h) (o.fw f)
  | snd n h o => exact .snd n (f _ _ n h) (o.fw f)
  | low n h z b => exact .low n (f _ _ n h) z b
/-- a thing with the word whether it is a fraction -/
def JF (K : PySem.W.Frag) (D : Addr) (H : Hp) (v : V) (b : Option Rat) : Prop := (∃ r, IsF K H v r ∧ Bd 40 r ∧ b = some r) ∨ (NoF K D H v ∧ b = none)
theorem isi_int_tup {K : PySem.W.Frag} {H : Hp} {Q : VK} {i : Int} (q : Q (.bl false) H) : rIsi K [.int i, .ty "tuple"] H Q := ⟨_, _, _, _, _, rfl, .ty _, .base (.int _), kit_ty (by decide +kernel), q⟩
end My
namespace My
open PySem PySem.Spec PyProof.Rows L2
variable {K : PySem.W.Frag}
theorem for_enum {K : PySem.W.Frag} {a : Addr} {xs : List V} {g : TG} {tb : TS} {D : Ends} {σ : L2.St} {H : Hp} (Pv : Nat → L2.St → Hp → Prop) (h0 : Pv 0 σ H) (hl : ∀ i σ H, i ≤ xs.length → Pv i σ H → SqL K H a xs)
    (hs : ∀ i x T σ H, xs[i]? = some x → Pv i σ H → H T = none → g (.ref T) σ (upd H T (.tup [.int (i : Nat), x])) fun σ2 H2 => tb { D with nx := Pv (i + 1), ct := Pv (i + 1), bk := D.nx } σ2 H2) (hd : ∀ σ H, Pv xs.length σ H → D.nx σ H) :
    ∃ W : Nat → Nat → L2.St → Hp → Prop, (∃ m, W 0 m σ H) ∧ ∀ i m σ H, W i m σ H →
      ((Ite K a).stop i H ∧ D.nx σ H) ∨ ((Ite K a).go i H ∧ ∃ N : L2.St → Hp → Prop, (∀ σ' H', N σ' H' → ∃ m', m' < m ∧ W (i + 1) m' σ' H') ∧ ∀ x H', (Ite K a).yld i H x H' → g x σ H' fun σ2 H2 => tb { D with nx := N, ct := N, bk := D.nx } σ2 H2) := by
  refine ⟨fun i m σ H => m = xs.length - i ∧ i ≤ xs.length ∧ Pv i σ H, ⟨xs.length, by simp, Nat.zero_le _, h0⟩, ?_⟩
  rintro i m σ H ⟨rfl, hi, p⟩
  have q := hl i σ H hi p
  by_cases hlt : i < xs.length
  · refine .inr ⟨⟨xs, xs[i], q, by simp [hlt]⟩, Pv (i + 1), fun σ' H' p' => ⟨xs.length - (i + 1), by omega, rfl, hlt, p'⟩, fun x H' y => ?_⟩
    obtain ⟨T, x, rfl, nT, rfl, y⟩ := y
    exact hs i x T σ H (y xs q) p nT
  · have e : i = xs.length := by omega
    subst e
    exact .inl ⟨⟨xs, q, Nat.le_refl _⟩, hd σ H p⟩
/-! ### right stalls and webs of them -/
structure Stl where
  u : Nat
  v : Nat
  a : Rat
  b : Rat
  r : Rat
structure OkSt (n : Nat) (s : Stl) : Prop where
  u : s.u < n
  v : s.v < n
  ne : s.u ≠ s.v
  a : 0 < s.a
  b : 0 < s.b
  r : 0 < s.r
  e : s.a * s.b = s.r * s.r
structure BdSt (k : Nat) (s : Stl) : Prop where
  a : Bd k s.a
  b : Bd k s.b
  r : Bd k s.r
def IsSt (K : PySem.W.Frag) (H : Hp) (x : V) (s : Stl) : Prop := ∃ p va vb vr, x = .ref p ∧ H p = some (.tup [.int (s.u : Nat), .int (s.v : Nat), va, vb, vr]) ∧ IsF K H va s.a ∧ IsF K H vb s.b ∧ IsF K H vr s.r
theorem IsSt.same {H H' : Hp} {x : V} {s : Stl} (f : Same H H') (h : IsSt K H x s) : IsSt K H' x s := by
  obtain ⟨p, va, vb, vr, e, h, a, b, c⟩ := h
  exact ⟨p, va, vb, vr, e, f _ _ h, a.same f, b.same f, c.same f⟩
def Sts (K : PySem.W.Frag) (H : Hp) (xs : List V) (ss : List Stl) : Prop := Paired (IsSt K H) xs ss
theorem Sts.same {H H' : Hp} {xs : List V} {ss : List Stl} (f : Same H H') (h : Sts K H xs ss) : Sts K H' xs ss := by
  unfold Sts at *
  induction h with
  | nil => exact .nil
  | cons h t ih => exact .cons (h.same f) ih
theorem Sts.len {H : Hp} {xs : List V} {ss : List Stl} (h : Sts K H xs ss) : xs.length = ss.length := Paired.length h
theorem Sts.at {H : Hp} {xs : List V} {ss : List Stl} (h : Sts K H xs ss) : ∀ {i : Nat} {x : V}, xs[i]? = some x → ∃ s, ss[i]? = some s ∧ IsSt K H x s := by
  unfold Sts at h
  induction h with
  | nil =>
    intro i x e
    simp at e
  | cons h t ih =>
    intro i x e
    match i with
    | 0 =>
      simp at e
      subst e
      exact ⟨_, rfl, h⟩
    | i + 1 => exact ih (by simpa using e)
theorem IsF.ts {H H' : Hp} {x : V} {r : Rat} (f : Tps H H') (h : IsF K H x r) : IsF K H' x r := by
  obtain ⟨p, e, h⟩ := h
  exact ⟨p, e, h.ts f⟩
theorem IsSt.ts {H H' : Hp} {x : V} {s : Stl} (f : Tps H H') (h : IsSt K H x s) : IsSt K H' x s := by
  obtain ⟨p, va, vb, vr, e, h, a, b, c⟩ := h
  exact ⟨p, va, vb, vr, e, f _ _ h, a.ts f, b.ts f, c.ts f⟩
theorem Sts.ts {H H' : Hp} {xs : List V} {ss : List Stl} (f : Tps H H') (h : Sts K H xs ss) : Sts K H' xs ss := by
  unfold Sts at *
  induction h with
  | nil => exact .nil
  | cons h t ih => exact .cons (h.ts f) ih
def wF (n : Nat) (t : Addr) : List (Str × V) := [("wares", .int (n : Nat)), ("stalls", .ref t)]
def IsWeb (K : PySem.W.Frag) (C : Addr) (H : Hp) (x : V) (n : Nat) (ss : List Stl) : Prop := ∃ p dx t xs, x = .ref p ∧ H p = some (.ins C dx (wF n t)) ∧ H t = some (.tup xs) ∧ Sts K H xs ss
theorem IsWeb.same {C : Addr} {H H' : Hp} {x : V} {n : Nat} {ss : List Stl} (f : Same H H') (h : IsWeb K C H x n ss) : IsWeb K C H' x n ss := by
  obtain ⟨p, dx, t, xs, e, h1, h2, h3⟩ := h
  exact ⟨p, dx, t, xs, e, f _ _ h1, f _ _ h2, h3.same f⟩
theorem lk_here {k : Str} {v : V} {r : List (Str × V)} : List.lookup k ((k, v) :: r) = some v := by
  have e : (k == k) = true := beq_self_eq_true k
  simp only [List.lookup, e]
theorem lk_past {k g : Str} {v : V} {r : List (Str × V)} (h : (k == g) = false) : List.lookup k ((g, v) :: r) = List.lookup k r := by
  simp only [List.lookup, h]
theorem wF_wares (n : Nat) (t : Addr) : (wF n t).lookup ("wares" : Str) = some (.int (n : Nat)) := lk_here
theorem wF_stalls (n : Nat) (t : Addr) : (wF n t).lookup ("stalls" : Str) = some (.ref t) := (lk_past (by decide +kernel)).trans lk_here
theorem wF_new (n : Nat) (t : Addr) : putF "stalls" (.ref t) (putF "wares" (.int (n : Nat)) []) = wF n t := by
  have h : ¬ (("wares" : Str) = "stalls") := by decide +kernel
  show putF "stalls" (.ref t) [("wares", .int (n : Nat))] = _
  simp [putF, h, wF]
theorem rd_fld {K : PySem.W.Frag} {ta : TE} {f : Str} {σ : L2.St} {H : Hp} {Q : VK} (h : ta σ H fun x H1 => ∃ a C dx fs v, x = .ref a ∧ H1 a = some (.ins C dx fs) ∧ Cls K C ∧ NoAttr K C f ∧ fs.lookup f = some v ∧ Q v H1) : tFld K ta f σ H Q := h
/-- what a stall is behind a move -/
def Stl.first (s : Stl) (x : Rat) : Stl := ⟨s.u, s.v, x, s.r * s.r / x, s.r⟩
def Stl.secnd (s : Stl) (y : Rat) : Stl := ⟨s.u, s.v, s.r * s.r / y, y, s.r⟩
def Stl.behind (s : Stl) (w : Nat) (x : Rat) : Stl := if w = s.u then s.first (s.a + x) else s.secnd (s.b + x)
def Stl.out (s t : Stl) (w : Nat) : Rat := if w = s.u then s.b - t.b else s.a - t.a
/-- a move of the web -/
def IsMv (K : PySem.W.Frag) (H : Hp) (v : V) (i w : Nat) (x : Rat) : Prop := ∃ p vx, v = .ref p ∧ H p = some (.tup [.int (i : Nat), .int (w : Nat), vx]) ∧ IsF K H vx x
theorem IsMv.same {H H' : Hp} {v : V} {i w : Nat} {x : Rat} (f : Same H H') (h : IsMv K H v i w x) : IsMv K H' v i w x := by
  obtain ⟨p, vx, e, h, a⟩ := h
  exact ⟨p, vx, e, f _ _ h, a.same f⟩
theorem Sts.get {H : Hp} {xs : List V} {ss : List Stl} (h : Sts K H xs ss) : ∀ {i : Nat} {s : Stl}, ss[i]? = some s → ∃ x, xs[i]? = some x ∧ IsSt K H x s := by
  unfold Sts at h
  induction h with
  | nil =>
    intro i x e
    simp at e
  | cons h t ih =>
    intro i x e
    match i with
    | 0 =>
      simp at e
      subst e
      exact ⟨_, rfl, h⟩
    | i + 1 => exact ih (by simpa using e)
end My
namespace My
open PySem PySem.Spec PyProof.Rows L2
variable {K : PySem.W.Frag}
theorem tps_put {H1 H : Hp} {D : Addr} {o : HO} {ys : List V} (h : H D = some (.lst ys)) : Tps H (upd H D o) := fun b xs hb => by
  refine (upd_ne fun e => ?_).trans hb
  rw [e, h] at hb
  cases hb
theorem same_put {H1 H : Hp} {D : Addr} {o : HO} (n : H1 D = none) (s : Same H1 H) : Same H1 (upd H D o) := fun b x h => (upd_ne (ne_of_none h n)).trans (s b x h)
/-- what stands while the tuples stand -/
def Mn {α : Type} (R : Hp → V → α → Prop) : Prop := ∀ H H' v a, Tps H H' → R H v a → R H' v a
theorem Paired.mono {α : Type} {R : Hp → V → α → Prop} (hR : Mn R) {H H' : Hp} (f : Tps H H') {ys : List V} {as : List α} (h : Paired (R H) ys as) : Paired (R H') ys as := by
  induction h with
  | nil => exact .nil
  | cons h t ih => exact .cons (hR _ _ _ _ f h) ih
theorem same_tps {H H' : Hp} (s : Same H H') : Tps H H' := fun b xs h => s _ _ h
theorem sqT_same {H H' : Hp} {a : Addr} {xs : List V} (e : Same H H') (h : SqT K H a xs) : SqT K H' a xs := by
  rcases h with (h | ⟨o, h⟩) | h
  · exact .inl (.inl (e _ _ h))
  · exact .inl (.inr ⟨o, e _ _ h⟩)
  · exact .inr h
section
variable {α : Type} {R : Hp → V → α → Prop} {g : TG} {tt : TT} {te : TE} {vs : List Nat} {σ : L2.St} {H1 : Hp} {D : Addr} {Qd : Hp → Prop} {f : Nat → Option α}
/-- the state of a list under way -/
def Lst (R : Hp → V → α → Prop) (H1 : Hp) (D : Addr) (as : List α) (H : Hp) : Prop := Same H1 H ∧ ∃ ys, H D = some (.lst ys) ∧ Paired (R H) ys as
theorem Lst.len {as : List α} {H : Hp} : Lst R H1 D as H → ∃ ys, H D = some (.lst ys) ∧ ys.length = as.length := fun ⟨_, ys, h, p⟩ => ⟨ys, h, Paired.length p⟩
theorem Lst.add (hR : Mn R) (nD : H1 D = none) {as : List α} {a : α} {H H' : Hp} {y : V} (l : Lst R H1 D as H) (s : Same H H') (h : R H' y a) (hn : as.length < 1000) :
    ∃ acc, H' D = some (.lst acc) ∧ acc.length < sizeLine ∧ Lst R H1 D (as ++ [a]) (upd H' D (.lst (acc ++ [y]))) := by
  obtain ⟨s1, ys, hD, p⟩ := l
  have hl := Paired.length p
  refine ⟨ys, s _ _ hD, small1000 (by omega), same_put nD (s1.trans s), _, upd_same, ?_⟩
  have t : Tps H' (upd H' D (.lst (ys ++ [y]))) := tps_put (H1 := H1) (s _ _ hD)
  exact Paired.mono hR t (Paired.snoc (Paired.mono hR (same_tps s) p) h)
theorem Lst.skip (hR : Mn R) {as : List α} {H H' : Hp} (l : Lst R H1 D as H) (s : Same H H') : Lst R H1 D as H' := by
  obtain ⟨s1, ys, hD, p⟩ := l
  exact ⟨s1.trans s, ys, s _ _ hD, Paired.mono hR (same_tps s) p⟩
def upTo (f : Nat → Option α) (i : Nat) : List α := (List.range i).filterMap f
theorem upTo_some {i : Nat} {a : α} (h : f i = some a) : upTo f (i + 1) = upTo f i ++ [a] := by
  unfold upTo
  rw [List.range_succ, List.filterMap_append]
  simp [h]
theorem upTo_none {i : Nat} (h : f i = none) : upTo f (i + 1) = upTo f i := by
  unfold upTo
  rw [List.range_succ, List.filterMap_append]
  simp [h]
theorem upTo_len (f : Nat → Option α) (i : Nat) : (upTo f i).length ≤ i := by
  unfold upTo
  refine Nat.le_trans (List.length_filterMap_le _ _) ?_
  simp
/-- one turn -/
def Turn1 (R : Hp → V → α → Prop) (H1 : Hp) (f : Nat → Option α) (i : Nat) (G : Hp → VK → (Hp → Prop) → Prop) : Prop :=
  ∀ H' (Q : VK) (N : Hp → Prop), Same H1 H' → (∀ a y H4, f i = some a → Same H' H4 → R H4 y a → Q y H4) → (∀ H3, f i = none → Same H' H3 → N H3) → G H' Q N
theorem Turn1.step (hR : Mn R) (nD : H1 D = none) {i : Nat} (hi : i < 1000) {G : Hp → VK → (Hp → Prop) → Prop} (t : Turn1 R H1 f i G) {H : Hp} (l : Lst R H1 D (upTo f i) H) :
    G H (fun y H4 => ∃ acc, H4 D = some (.lst acc) ∧ acc.length < sizeLine ∧ Lst R H1 D (upTo f (i + 1)) (upd H4 D (.lst (acc ++ [y])))) (Lst R H1 D (upTo f (i + 1))) := by
  refine t H _ _ l.1 (fun a y H4 e s h => ?_) fun H3 e s => ?_
  · rw [upTo_some e]
    exact l.add hR nD s h (Nat.lt_of_le_of_lt (upTo_len f i) hi)
  · rw [upTo_none e]
    exact l.skip hR s
theorem lst_new (nD : H1 D = none) : Lst R H1 D (upTo f 0) (upd H1 D (.lst [])) := ⟨same_upd nD, [], upd_same, .nil⟩
theorem lc_rangeP (hR : Mn R) {lo : Int} {n : Nat} (nD : H1 D = none) (hn : n ≤ 1000)
    (hs : ∀ i, i < n → Turn1 R H1 f i fun H' Q N => g (.int (lo + i)) (wipe σ vs) H' fun σ2 H2 => wipe σ2 vs = wipe σ vs ∧ tt σ2 H2 fun b H3 => if b = true then te σ2 H3 Q else N H3)
    (hd : ∀ H', Lst R H1 D (upTo f n) H' → Qd H') :
    ∃ W : Nat → Nat → Hp → Prop, (∃ m, W 0 m (upd H1 D (.lst []))) ∧ ∀ i m H, W i m H →
      ((Itr lo n).stop i H ∧ Qd H) ∨ ((Itr lo n).go i H ∧ ∃ Nx : Hp → Prop, (∀ H', Nx H' → ∃ m', m' < m ∧ W (i + 1) m' H') ∧ ∀ x H', (Itr lo n).yld i H x H' → g x (wipe σ vs) H' fun σ2 H2 => wipe σ2 vs = wipe σ vs ∧ tt σ2 H2 fun b H3 =>
        if b = true then te σ2 H3 fun y H4 => ∃ acc, H4 D = some (.lst acc) ∧ acc.length < sizeLine ∧ Nx (upd H4 D (.lst (acc ++ [y]))) else Nx H3) :=
  lc_range (fun i H => Lst R H1 D (upTo f i) H) (lst_new nD) (fun i H hi l => Turn1.step (i := i) hR nD (by omega) (hs i hi) l) hd
theorem lc_tupP (hR : Mn R) {a : Addr} {xs : List V} (nD : H1 D = none) (hn : xs.length ≤ 1000) (hl : SqT K H1 a xs)
    (hs : ∀ i x, xs[i]? = some x → Turn1 R H1 f i fun H' Q N => g x (wipe σ vs) H' fun σ2 H2 => wipe σ2 vs = wipe σ vs ∧ tt σ2 H2 fun b H3 => if b = true then te σ2 H3 Q else N H3)
    (hd : ∀ H', Lst R H1 D (upTo f xs.length) H' → Qd H') :
    ∃ W : Nat → Nat → Hp → Prop, (∃ m, W 0 m (upd H1 D (.lst []))) ∧ ∀ i m H, W i m H →
      ((Itt K a).stop i H ∧ Qd H) ∨ ((Itt K a).go i H ∧ ∃ Nx : Hp → Prop, (∀ H', Nx H' → ∃ m', m' < m ∧ W (i + 1) m' H') ∧ ∀ x H', (Itt K a).yld i H x H' → g x (wipe σ vs) H' fun σ2 H2 => wipe σ2 vs = wipe σ vs ∧ tt σ2 H2 fun b H3 =>
        if b = true then te σ2 H3 fun y H4 => ∃ acc, H4 D = some (.lst acc) ∧ acc.length < sizeLine ∧ Nx (upd H4 D (.lst (acc ++ [y]))) else Nx H3) :=
  lc_tup (xs := xs) (fun i H => Lst R H1 D (upTo f i) H) (lst_new nD) (fun i H _ l => sqT_same l.1 hl) (fun i x H hx l => Turn1.step (i := i) hR nD (by
    have := (List.getElem?_eq_some_iff.mp hx).1
    omega) (hs i x hx) l) hd
theorem lc_listP (hR : Mn R) {a : Addr} {xs : List V} (nD : H1 D = none) (hn : xs.length ≤ 1000) (hl : SqL K H1 a xs)
    (hs : ∀ i x, xs[i]? = some x → Turn1 R H1 f i fun H' Q N => g x (wipe σ vs) H' fun σ2 H2 => wipe σ2 vs = wipe σ vs ∧ tt σ2 H2 fun b H3 => if b = true then te σ2 H3 Q else N H3)
    (hd : ∀ H', Lst R H1 D (upTo f xs.length) H' → Qd H') :
    ∃ W : Nat → Nat → Hp → Prop, (∃ m, W 0 m (upd H1 D (.lst []))) ∧ ∀ i m H, W i m H →
      ((Itl K a).stop i H ∧ Qd H) ∨ ((Itl K a).go i H ∧ ∃ Nx : Hp → Prop, (∀ H', Nx H' → ∃ m', m' < m ∧ W (i + 1) m' H') ∧ ∀ x H', (Itl K a).yld i H x H' → g x (wipe σ vs) H' fun σ2 H2 => wipe σ2 vs = wipe σ vs ∧ tt σ2 H2 fun b H3 =>
        if b = true then te σ2 H3 fun y H4 => ∃ acc, H4 D = some (.lst acc) ∧ acc.length < sizeLine ∧ Nx (upd H4 D (.lst (acc ++ [y]))) else Nx H3) :=
  lc_list (xs := xs) (fun i H => Lst R H1 D (upTo f i) H) (lst_new nD) (fun i H _ l => l.1.seq hl) (fun i x H hx l => Turn1.step (i := i) hR nD (by
    have := (List.getElem?_eq_some_iff.mp hx).1
    omega) (hs i x hx) l) hd
theorem lc_enumTP (hR : Mn R) {a : Addr} {xs : List V} (nD : H1 D = none) (hn : xs.length ≤ 1000) (hl : SqT K H1 a xs)
    (hs : ∀ i x, xs[i]? = some x → Turn1 R H1 f i fun H' Q N => ∀ T, H' T = none → g (.ref T) (wipe σ vs) (upd H' T (.tup [.int (i : Nat), x])) fun σ2 H2 => wipe σ2 vs = wipe σ vs ∧ tt σ2 H2 fun b H3 => if b = true then te σ2 H3 Q else N H3)
    (hd : ∀ H', Lst R H1 D (upTo f xs.length) H' → Qd H') :
    ∃ W : Nat → Nat → Hp → Prop, (∃ m, W 0 m (upd H1 D (.lst []))) ∧ ∀ i m H, W i m H →
      ((IteT K a).stop i H ∧ Qd H) ∨ ((IteT K a).go i H ∧ ∃ Nx : Hp → Prop, (∀ H', Nx H' → ∃ m', m' < m ∧ W (i + 1) m' H') ∧ ∀ x H', (IteT K a).yld i H x H' → g x (wipe σ vs) H' fun σ2 H2 => wipe σ2 vs = wipe σ vs ∧ tt σ2 H2 fun b H3 =>
        if b = true then te σ2 H3 fun y H4 => ∃ acc, H4 D = some (.lst acc) ∧ acc.length < sizeLine ∧ Nx (upd H4 D (.lst (acc ++ [y]))) else Nx H3) := by
  refine ⟨fun i m H => m = xs.length - i ∧ i ≤ xs.length ∧ Lst R H1 D (upTo f i) H, ⟨xs.length, by simp, Nat.zero_le _, lst_new nD⟩, ?_⟩
  rintro i m H ⟨rfl, hi, l⟩
  have q := sqT_same l.1 hl
  by_cases hlt : i < xs.length
  · refine .inr ⟨⟨xs, xs[i], q, by simp [hlt]⟩, Lst R H1 D (upTo f (i + 1)), fun H' p' => ⟨xs.length - (i + 1), by omega, rfl, hlt, p'⟩, fun x H' y => ?_⟩
    obtain ⟨T, x, rfl, nT, rfl, y⟩ := y
    exact Turn1.step (i := i) hR nD (by omega) (hs i x (y xs q)) l T nT
  · have e : i = xs.length := by omega
    subst e
    exact .inl ⟨⟨xs, q, rfl⟩, hd H l⟩
end
end My
namespace My
open PySem PySem.Spec PyProof.Rows L2
section
variable {X : Cx} {K : PySem.W.Frag}
theorem sl_tupK (h : X.K = K) : SlR X (rSlT K) := h ▸ sl_tup
theorem sl_listK (h : X.K = K) : SlR X (rSlL K) := h ▸ sl_list
def rIxA (K : PySem.W.Frag) : R2 := fun x y H Q => ∃ p xs i v, x = .ref p ∧ y = .int i ∧ (SqL K H p xs ∨ SqT K H p xs) ∧ atI xs i = some v ∧ Q v H
theorem ix_any : IxR X (rIxA X.K) := by
  intro value slice pins s σ H x y v u Q I rx ry h hs
  obtain ⟨p, xs, i, z, e1, e2, hq, he, q⟩ := h
  rcases hq with hq | hq
  · exact ix_list value slice pins s σ H x y v u Q I rx ry ⟨p, xs, i, z, e1, e2, hq, he, q⟩ hs
  · exact ix_tup value slice pins s σ H x y v u Q I rx ry ⟨p, xs, i, z, e1, e2, hq, he, q⟩ hs
theorem ix_anyK (h : X.K = K) : IxR X (rIxA K) := h ▸ ix_any
theorem ix_tupK (h : X.K = K) : IxR X (rIxT K) := h ▸ ix_tup
theorem ix_listK (h : X.K = K) : IxR X (rIxL K) := h ▸ ix_list
theorem op_inK (h : X.K = K) : OpR X (compareOp .In) (rIn K false) := h ▸ op_in_seq
theorem op_eqDK (h : X.K = K) (hu : X.A.units + 64 < cLine) : OpR X (compareOp .Eq) (rEqD K) := h ▸ op_eqD hu
theorem op_neDK (h : X.K = K) (hu : X.A.units + 64 < cLine) : OpR X (compareOp .NotEq) (rNeD K) := h ▸ op_neD hu
theorem call_lenNK (h : X.K = K) : CallR X (.builtin "len") (rLen K) := h ▸ call_lenN
theorem call_isiK' (h : X.K = K) : CallR X (.builtin "isinstance") (rIsi K) := h ▸ call_isi
theorem pe_fldK {e : Expr} {f : Str} {pos : Pos} {ta : TE} (h : X.K = K) (he : PE X e ta) (hb : attributeBase e f X.env (eval e X.env) = eval e X.env) : PE X (.Attribute e f pos) (tFld K ta f) := h ▸ pe_fld he hb
end
end My
namespace My
open PySem PySem.Spec PyProof.Rows L2
/-! ### a set made of a list of ints -/
abbrev bareSet (w : World) : Obj :=
  ⟨.type "set", none, .set #[] 0 (.fresh 0 0 (!w.params.followText "set-order")), #[]⟩
section
variable {P : Program} {w : World} {A : Around} {E : Value → Shared → Prop} {s : Shared}
/-- what the set's own __init__ comes to -/
def Filled (w : World) (s : Shared) (ns : List Int) (u : Value) (s' : Shared) : Prop :=
  u = .none ∧ ∃ (hp : Heap) (tk c : Nat), s' = { s with heap := hp, toks := tk } ∧
    SetR w hp s.heap.objs.size (fun j => decide (j ∈ ns)) c ∧ c ≤ ns.length ∧
    ∀ b o, s.heap.get? b = some o → hp.get? b = some o
theorem set_filled {l : Addr} {zs : Array Value} {ns : List Int} (nh : A.handled = none)
    (hl : s.heap.IsList l zs) (hi : IntsAre zs.toList ns) (room : ns.length + 1 < scanBound) :
    codeAny (model P w) A (.call (.builtin "set.__init__") ⟨[.ref s.heap.objs.size, .ref l], []⟩)
      (wants (Filled w s ns) E) { s with heap := s.heap.push (bareSet w) } := by
  have sz : zs.size = ns.length := by
    have := IntsAre.length hi
    rwa [Array.length_toList] at this
  have here : (s.heap.push (bareSet w)).get? s.heap.objs.size = some (bareSet w) :=
    Heap.get?_push_size _ rfl
  refine codeAny_call_builtin F.called_set.init.plain F.entry_set_init (check_set_init_1 ⟨_, here, rfl⟩ ?_)
  obtain ⟨⟨c1, d1, dt1, sl1⟩, at1, ec, k1, ed⟩ := hl
  dsimp only at ec ed
  subst ec ed
  have at2 : (s.heap.push (bareSet w)).get? l = some ⟨.type "list", d1, .seq zs k1, sl1⟩ :=
    Heap.get?_push_of_some _ at1
  have n1 := F.sub_list_set
  have n2 := F.sub_list_frozenset
  have n3 : (Value.type "list" == Value.type "dict") = false := by decide
  have isl : (s.heap.push (bareSet w)).IsList l zs := ⟨_, at2, rfl, k1, rfl⟩
  have lt : l < s.heap.objs.size := Heap.lt_size at1
  unfold Builtin.«set.__init__» noKeywords Builtin.Frozenset.updateFrom
  generalize ePI : pyIter = PI
  wp_walk
  subst ePI
  refine wpAny_pyIter_list isl (wpAny_bind (wpAny_runValue ?_))
  have nh3 : A.in1.in1.handled = none := by simp [nh]
  have sz1 : (s.heap.push (bareSet w)).objs.size = s.heap.objs.size + 1 := Heap.size_push ..
  have apart : l ≠ (s.heap.push (bareSet w)).objs.size := by
    rw [sz1]
    exact Nat.ne_of_lt (Nat.lt_succ_of_lt lt)
  have fresh : s.heap.objs.size ∉ [(s.heap.push (bareSet w)).objs.size, l] := by
    rw [sz1]
    intro hm
    rcases List.mem_cons.mp hm with z | z
    · exact absurd z (Nat.ne_of_lt (Nat.lt_succ_self _))
    · exact absurd (List.mem_singleton.mp z) (Nat.ne_of_gt lt)
  have each : ∀ (i : Nat) (v : Value), zs[i]? = some v → ∃ k t, ns[i]? = some k ∧ v = .int k t := fun i v hv => by
    have hn : i < ns.length := sz ▸ (Array.getElem?_eq_some_iff.mp hv).1
    obtain ⟨t, e⟩ := IntsAre.int_at hi i v ((Array.getElem?_toList ..).trans hv)
    refine ⟨ns[i], t, List.getElem?_eq_getElem hn, e.trans ?_⟩
    simp [List.getD_eq_getElem?_getD, List.getElem?_eq_getElem hn]
  have got : ((s.heap.push (bareSet w)).push ⟨.type "list_iterator", none, .fields #[.ref l, .int 0 0], #[]⟩).get? s.heap.objs.size = some (bareSet w) :=
    Heap.get?_push_of_some _ here
  refine set_update_ints ((Walks.list nh3 _ l apart zs).toS) s.heap.objs.size fresh ns sz room each (zs.size - 0) 0 _ (by omega)
    (Nat.zero_le _) ?z1 ?z0 fun s2 c mv hc hR => ?_
  case z1 => exact ⟨⟨_, Heap.get?_push_size _ rfl, rfl, rfl⟩, isl.push _⟩
  case z0 => exact ⟨0, Nat.le_refl 0, setR_new_at got⟩
  obtain ⟨hp2, gg, dr, tk, os2⟩ := s2
  have e1 : gg = s.gens := mv.gens
  have e2 : dr = s.drawn := mv.drawn
  have e3 : os2 = s.os := mv.os
  subst e1 e2 e3
  rw [sz] at hc
  show wpAny _ _ _ _ _ _
  refine wpAny_pure ?_
  show wpAny _ _ (ret Value.none) _ _ _
  refine wpAny_pure ⟨rfl, hp2, tk, c, rfl, hR, hc, fun b o e => ?_⟩
  have lb : b < s.heap.objs.size := Heap.lt_size e
  refine mv.heap b o (fun hm => ?_) (Heap.get?_push_of_some _ (Heap.get?_push_of_some _ e))
  rcases List.mem_cons.mp hm with z | hm
  · exact absurd z (Nat.ne_of_lt lb)
  · have z := List.mem_singleton.mp hm
    rw [sz1] at z
    exact absurd z (Nat.ne_of_lt (Nat.lt_succ_of_lt lb))
theorem set_of_list {l : Addr} {zs : Array Value} {ns : List Int} {Q : Value → Shared → Prop} (nh : A.handled = none)
    (hl : s.heap.IsList l zs) (hi : IntsAre zs.toList ns) (room : ns.length + 1 < scanBound)
    (h : ∀ (hp : Heap) (tk c : Nat), SetR w hp s.heap.objs.size (fun j => decide (j ∈ ns)) c → c ≤ ns.length →
      (∀ b o, s.heap.get? b = some o → hp.get? b = some o) → Q (.ref s.heap.objs.size) { s with heap := hp, toks := tk }) :
    wpAny (model P w) A (call (.type "set") [.ref l]) Q E s := by
  obtain ⟨c, tl, hmro⟩ := F.called_set.mro
  have g1 := F.called_set.made
  have g2 := F.called_set.sub
  have g3 := F.called_set.notType
  have g4 := F.called_set.canCreate
  have g5 := F.typeCall_set_1 (.ref l)
  refine wpAny_call (codeAny_of_tree ?_)
  show wpAny _ _ (callAny (.type "set") _) _ _ _
  refine wpAny_pure ⟨Code.quiet_builtin _ (by decide +kernel), codeAny_builtin F.entry_type_call ?_⟩
  rw [Around.under_plain (weight_type_call_type "set" [.ref l] []) rfl]
  repeat any_goals (first | assumption | wp_step)
  refine codeAny_mono (code_set_led1 (.ref l) (E := E)
    (Q₁ := fun obj s₁ => obj = .ref s.heap.objs.size ∧ s₁ = { s with heap := s.heap.push (bareSet w) }) ⟨rfl, rfl⟩) fun r s₁ hr => ?_
  cases r with
  | error e => exact hr
  | ok fl =>
    cases fl with
    | ret obj =>
      obtain ⟨rfl, rfl⟩ := hr
      have here : (s.heap.push (bareSet w)).get? s.heap.objs.size = some (bareSet w) := Heap.get?_push_size _ rfl
      have ty : Shared.TypeIs { s with heap := s.heap.push (bareSet w) } (.ref s.heap.objs.size) "set" := ⟨_, here, rfl⟩
      have g6 := F.called_set.init.lookup
      have g7 := F.called_set.init.bind (.ref s.heap.objs.size)
      repeat any_goals (first | assumption | wp_step)
      refine codeAny_mono (set_filled (E := E) (by simp [nh]) hl hi room) fun r₂ s₂ hr₂ => ?_
      cases r₂ with
      | error e => exact hr₂
      | ok fl₂ =>
        cases fl₂ with
        | ret r =>
          obtain ⟨rfl, hp, tk, c', rfl, f1, f2, f3⟩ := hr₂
          repeat any_goals (first | assumption | wp_step)
          exact h hp tk c' f1 f2 f3
        | _ => exact hr₂.elim
    | _ => exact hr.elim
end
/-- set(xs), xs a list of ints -/
def rSetOfI (K : PySem.W.Frag) (w : World) : List V → Hp → VK → Prop := fun xs H Q => ∃ (l : Addr) (ns : List Int), xs = [V.ref l] ∧ SqL K H l (ns.map V.int) ∧ ns.length ≤ 1000 ∧
  ∀ p c, H p = none → c ≤ ns.length → Q (.ref p) (upd H p (SetO w p (fun j => decide (j ∈ ns)) c))
theorem cr_setOfI {X : Cx} (hc : X.calm = true) : CallR X (.type "set") (rSetOfI X.K X.w) := by
  intro pins s σ H xs us Q I r h
  obtain ⟨l, ns, rfl, hq, hn, q⟩ := h
  rw [Vals.ref1 r]
  obtain ⟨its, rv, pl, hz⟩ := I.list hq
  refine set_of_list (I.ok.hd hc) pl.isList (by simpa using intsAre_of rv) (by unfold scanBound; omega) fun hp tk c hR cl kp => ?_
  exact ⟨.ref s.heap.objs.size, _, I.laid (t' := tk) kp (Nat.le_refl _) (setO_new hR), rfl, q _ c (I.hok.fresh (Nat.le_refl _)) cl⟩
end My
namespace My
open PySem PySem.Spec PyProof.Rows L2
theorem ints_of {ys : List V} {bs : List Nat} (h : Paired (fun (v : V) (b : Nat) => v = .int (b : Nat)) ys bs) : ys = (bs.map fun b : Nat => (b : Int)).map V.int := by
  induction h with
  | nil => rfl
  | cons h t ih => rw [h, ih]; rfl
theorem room1 {k : Nat} {A : Around} (r : Room k A) : A.units + 1 < cLine := by
  have := r.un
  omega
/-- ascending lists with the same members are the same -/
theorem asc_eq : ∀ {l m : List Int}, l.Pairwise (· < ·) → m.Pairwise (· < ·) → (∀ k, k ∈ l ↔ k ∈ m) → l = m
  | [], [], _, _, _ => rfl
  | [], b :: m, _, _, h => by
    have := (h b).mpr (by simp)
    cases this
  | a :: l, [], _, _, h => by
    have := (h a).mp (by simp)
    cases this
  | a :: l, b :: m, h1, h2, h => by
    rw [List.pairwise_cons] at h1 h2
    have e : a = b := by
      have x := (h a).mp (by simp)
      have y := (h b).mpr (by simp)
      rcases List.mem_cons.mp x with x | x
      · exact x
      · rcases List.mem_cons.mp y with y | y
        · exact y.symm
        · have := h1.1 b y
          have := h2.1 a x
          omega
    subst e
    rw [asc_eq h1.2 h2.2 fun k => ?_]
    constructor
    · intro hk
      have x := (h k).mp (by simp [hk])
      rcases List.mem_cons.mp x with x | x
      · have := h1.1 k hk
        omega
      · exact x
    · intro hk
      have x := (h k).mpr (by simp [hk])
      rcases List.mem_cons.mp x with x | x
      · have := h2.1 k hk
        omega
      · exact x
/-- so many unlike numbers below n are all of them -/
theorem nodup_le : ∀ (n : Nat) (l : List Nat), l.Nodup → (∀ x ∈ l, x < n) → l.length ≤ n
  | 0, l, _, h => by
    cases l with
    | nil => exact Nat.le_refl 0
    | cons a l => exact absurd (h a (by simp)) (Nat.not_lt_zero _)
  | n + 1, l, nd, h => by
    have ih := nodup_le n (l.filter fun x => decide (x ≠ n)) (nd.filter _) fun x hx => by
      rw [List.mem_filter, decide_eq_true_eq] at hx
      have := h x hx.1
      omega
    have c := List.nodup_iff_count.mp nd n
    have e := List.length_eq_countP_add_countP (p := fun x => decide (x ≠ n)) (l := l)
    rw [List.countP_eq_length_filter] at e
    have e2 : l.countP (fun x => decide ¬ decide (x ≠ n) = true) = l.count n := by
      unfold List.count
      congr 1
      funext x
      by_cases z : x = n <;> simp [z]
    omega
theorem all_there {n : Nat} {l : List Nat} (nd : l.Nodup) (h : ∀ x ∈ l, x < n) (hl : n ≤ l.length) {x : Nat} (hx : x < n) : x ∈ l := by
  apply Classical.byContradiction
  intro c
  have := nodup_le n (x :: l) (List.nodup_cons.mpr ⟨c, nd⟩) fun y hy => by
    rcases List.mem_cons.mp hy with rfl | z
    · exact hx
    · exact h y z
  rw [List.length_cons] at this
  omega
end My
namespace My
open PySem PySem.Spec PyProof.Rows L2
/-- the data of roots told -/
theorem room65 {k : Nat} {A : Around} (r : Room k A) : A.units + 65 < cLine := by
  have := r.un
  omega
def rInDT (K : PySem.W.Frag) : R2 := fun x y H Q => ∃ d ds, Dp K H x d ∧ Dp K H y (.tuple ds) ∧ SeqAt.shaped d = true ∧ SeqAt.shaped (.tuple ds) = true ∧ Q (.bl (ds.any fun z => PyData.eqv z d)) H
theorem op_inDT {X : Cx} (hu : X.A.units + 65 < cLine) : OpR X (compareOp .In) (rInDT X.K) := by
  intro pins s σ H x y v u Q I rx ry h
  obtain ⟨d, ds, hd, he, sd, se, q⟩ := h
  obtain ⟨as, r1⟩ := Dp.reads I d x v hd rx
  obtain ⟨bs, r2⟩ := Dp.reads I (.tuple ds) y u he ry
  exact SeqAt.in_tuple_reads r2 r1 (SeqAt.canLay_of_shaped se) (SeqAt.canLay_of_shaped sd) (room_in_shaped sd hu) ⟨.bl _, H, I, rfl, q⟩
theorem op_inDTK {X : Cx} {K : PySem.W.Frag} (h : X.K = K) (hu : X.A.units + 65 < cLine) : OpR X (compareOp .In) (rInDT K) := h ▸ op_inDT hu
end My
namespace My
open PySem PySem.Spec PyProof.Rows L2
/-! ### a list or a tuple walked -/
def iSeqA (K : PySem.W.Frag) (te : TE) : TI := fun σ H R => te σ H fun x H1 => ∃ a, x = .ref a ∧ (((∃ xs, SqL K H1 a xs) ∧ R (Itl K a) H1) ∨ ((∃ xs, SqT K H1 a xs) ∧ R (Itt K a) H1))
theorem pi_seqA {X : Cx} {tg l : Expr} {tl : TE} (hl : PE X l tl) : PI X tg l (iSeqA X.K tl) := by
  refine ⟨fun pins s σ H R I h => ?_⟩
  refine thn (hl.run pins s σ H _ I h) fun v s1 ⟨x, H1, I1, r1, q1⟩ => ?_
  obtain ⟨a, e, q⟩ := q1
  subst e
  cases r1
  rcases q with ⟨⟨xs, hq⟩, q⟩ | ⟨⟨xs, hq⟩, q⟩
  · obtain ⟨its, rv, p, hz⟩ := I1.list hq
    refine wpAny_pyIter_list p.isList ?_
    refine ⟨s1.heap.objs.size, [s1.heap.objs.size], _, _, H1, rfl, I1.kept (t' := s1.toks) fun b o e => Heap.get?_push_of_some _ e, turn_list a _, ⟨_, Heap.get?_push_size _ rfl, rfl, rfl⟩, fun b hb => ?_, q⟩
    have e : b = s1.heap.objs.size := by simpa using hb
    subst e
    exact I1.fpOk (Nat.le_refl _) (I1.hok.fresh (Nat.le_refl _))
  · obtain ⟨its, rv, p, hz⟩ := I1.tuple hq
    refine wpAny_pyIter_tuple (show s1.heap.IsTuple a its.toArray from p) ?_
    refine ⟨s1.heap.objs.size, [s1.heap.objs.size], _, _, H1, rfl, I1.kept (t' := s1.toks) fun b o e => Heap.get?_push_of_some _ e, turn_tuple a _, ⟨_, Heap.get?_push_size _ rfl, rfl, rfl⟩, fun b hb => ?_, q⟩
    have e : b = s1.heap.objs.size := by simpa using hb
    subst e
    exact I1.fpOk (Nat.le_refl _) (I1.hok.fresh (Nat.le_refl _))
variable {K : PySem.W.Frag}
theorem rd_seqA {te : TE} {σ : L2.St} {H : Hp} {R : It → Hp → Prop} (h : te σ H fun x H1 => ∃ a, x = .ref a ∧ (((∃ xs, SqL K H1 a xs) ∧ R (Itl K a) H1) ∨ ((∃ xs, SqT K H1 a xs) ∧ R (Itt K a) H1))) : iSeqA K te σ H R := h
/-- an address of a list or a tuple of these values -/
def Sq (K : PySem.W.Frag) (H : Hp) (a : Addr) (xs : List V) : Prop := SqL K H a xs ∨ SqT K H a xs
theorem Sq.same {H H' : Hp} {a : Addr} {xs : List V} (s : Same H H') (h : Sq K H a xs) : Sq K H' a xs := h.imp (Same.seq s) (sqT_same s)
theorem Sq.l {H : Hp} {a : Addr} {xs : List V} (h : H a = some (.lst xs)) : Sq K H a xs := .inl (.of h)
theorem Sq.t {H : Hp} {a : Addr} {xs : List V} (h : H a = some (.tup xs)) : Sq K H a xs := .inr (.of h)
section
variable {α : Type} {R : Hp → V → α → Prop} {g : TG} {tt : TT} {te : TE} {vs : List Nat} {σ : L2.St} {H1 : Hp} {Qd : Addr → Hp → Prop} {f : Nat → Option α}
theorem lc_seqA (hR : Mn R) {a : Addr} {xs : List V} (hn : xs.length ≤ 1000) (hl : Sq K H1 a xs)
    (hs : ∀ i x, xs[i]? = some x → Turn1 R H1 f i fun H' Q N => g x (wipe σ vs) H' fun σ2 H2 => wipe σ2 vs = wipe σ vs ∧ tt σ2 H2 fun b H3 => if b = true then te σ2 H3 Q else N H3)
    (hd : ∀ D H', Lst R H1 D (upTo f xs.length) H' → Qd D H') {RR : It → Hp → Prop}
    (hRR : RR = fun J H1 => ∀ D, H1 D = none → ∃ W : Nat → Nat → Hp → Prop, (∃ m, W 0 m (upd H1 D (.lst []))) ∧ ∀ i m H, W i m H →
      (J.stop i H ∧ Qd D H) ∨ (J.go i H ∧ ∃ Nx : Hp → Prop, (∀ H', Nx H' → ∃ m', m' < m ∧ W (i + 1) m' H') ∧ ∀ x H', J.yld i H x H' → g x (wipe σ vs) H' fun σ2 H2 => wipe σ2 vs = wipe σ vs ∧ tt σ2 H2 fun b H3 =>
        if b = true then te σ2 H3 fun y H4 => ∃ acc, H4 D = some (.lst acc) ∧ acc.length < sizeLine ∧ Nx (upd H4 D (.lst (acc ++ [y]))) else Nx H3)) :
    ((∃ xs, SqL K H1 a xs) ∧ RR (Itl K a) H1) ∨ ((∃ xs, SqT K H1 a xs) ∧ RR (Itt K a) H1) := by
  subst hRR
  rcases hl with hl | hl
  · exact .inl ⟨⟨_, hl⟩, fun D nD => lc_listP hR nD hn hl hs fun H' l => hd D H' l⟩
  · exact .inr ⟨⟨_, hl⟩, fun D nD => lc_tupP hR nD hn hl hs fun H' l => hd D H' l⟩
end
section
variable {g : TG} {tb : TS} {D : Ends} {σ : L2.St} {H : Hp}
theorem for_seqA {H0 : Hp} {a : Addr} {xs : List V} (Pv : Nat → L2.St → Hp → Prop) (h : Sq K H0 a xs) (h0 : Pv 0 σ H) (hl : ∀ i σ' H', Pv i σ' H' → Same H0 H')
    (hs : ∀ i x σ H, xs[i]? = some x → Pv i σ H → g x σ H fun σ2 H2 => tb { D with nx := Pv (i + 1), ct := Pv (i + 1), bk := D.nx } σ2 H2) (hd : ∀ σ H, Pv xs.length σ H → D.nx σ H) {RR : It → Hp → Prop}
    (hRR : RR = fun J H1 => ∃ W : Nat → Nat → L2.St → Hp → Prop, (∃ m, W 0 m σ H1) ∧ ∀ i m σ H, W i m σ H →
      (J.stop i H ∧ D.nx σ H) ∨ (J.go i H ∧ ∃ N : L2.St → Hp → Prop, (∀ σ' H', N σ' H' → ∃ m', m' < m ∧ W (i + 1) m' σ' H') ∧ ∀ x H', J.yld i H x H' → g x σ H' fun σ2 H2 => tb { D with nx := N, ct := N, bk := D.nx } σ2 H2)) :
    ((∃ xs, SqL K H a xs) ∧ RR (Itl K a) H) ∨ ((∃ xs, SqT K H a xs) ∧ RR (Itt K a) H) := by
  subst hRR
  rcases h with h | h
  · exact .inl ⟨⟨_, (hl 0 σ H h0).seq h⟩, for_list Pv h0 (fun i σ' H' hi p => (hl i σ' H' p).seq h) hs hd⟩
  · exact .inr ⟨⟨_, sqT_same (hl 0 σ H h0) h⟩, for_tup Pv h0 (fun i σ' H' hi p => sqT_same (hl i σ' H' p) h) hs hd⟩
end
end My
namespace My
open PySem PySem.Spec PyProof.Rows L2
/-! ### zip of a tuple and a list -/
abbrev zmH1 (h : Heap) (l1 : Addr) : Heap := h.push { cls := .type "tuple_iterator", data := .fields #[.ref l1, .int 0 0] }
abbrev zmH2 (h : Heap) (l1 l2 : Addr) : Heap := (zmH1 h l1).push { cls := .type "list_iterator", data := .fields #[.ref l2, .int 0 0] }
abbrev zmH3 (h : Heap) (l1 l2 : Addr) : Heap := (zmH2 h l1 l2).push { cls := .type "tuple", data := .seq #[.ref h.objs.size, .ref (zmH1 h l1).objs.size] }
abbrev zmH4 (h : Heap) (l1 l2 : Addr) : Heap := (zmH3 h l1 l2).push { cls := .type "tuple", data := .seq #[.none, .none] }
abbrev zmH5 (h : Heap) (l1 l2 : Addr) : Heap := (zmH4 h l1 l2).push { cls := .type "zip", data := .fields #[.none, .bool false, .bool false, .ref (zmH2 h l1 l2).objs.size, .ref (zmH3 h l1 l2).objs.size] }
theorem meets_zm_new (l1 l2 : Addr) (xs ys : Array Value) :
    Meets (Builtin.«zip.__new__» ⟨[.type "zip", .ref l1, .ref l2], []⟩) (fun _ R s => s.heap.IsTuple l1 xs ∧ s.heap.IsList l2 ys ∧
      R (.ok (.ret (.ref (zmH4 s.heap l1 l2).objs.size))) { s with heap := zmH5 s.heap l1 l2 }) :=
  .of_wp fun prog w A R s h => by
    obtain ⟨hp, g, d, tk, os⟩ := s
    obtain ⟨hl1, hl2, h⟩ := h
    have hsub := sub_zip
    have hL1 : Heap.IsTuple (Shared.heap ⟨hp, g, d, tk, os⟩) l1 xs := hl1
    have hL2 : Heap.IsList (Shared.heap ⟨hp.push { cls := .type "tuple_iterator", data := .fields #[.ref l1, .int 0 0] }, g, d, tk, os⟩) l2 ys := Heap.IsList.push hl2 _
    wp_walk using wpAny_pyIter_tuple hL1, wpAny_pyIter_list hL2
    exact ⟨_, rfl, h⟩
section
variable {prog : Program} {w : World} {A : Around} {E : Value → Shared → Prop} {s : Shared}
theorem call_zm {l1 l2 : Addr} {xs ys : Array Value} {Q : Value → Shared → Prop} (hl1 : s.heap.IsTuple l1 xs) (hl2 : s.heap.IsList l2 ys)
    (h : ∀ h', IsZip h' (s.heap.objs.size + 4) (s.heap.objs.size + 2) (s.heap.objs.size + 3) .none → IsPair h' (s.heap.objs.size + 2) (.ref s.heap.objs.size) (.ref (s.heap.objs.size + 1)) →
      IsPair h' (s.heap.objs.size + 3) .none .none → h'.IsTupleIter s.heap.objs.size l1 0 → h'.IsListIter (s.heap.objs.size + 1) l2 0 → h'.objs.size = s.heap.objs.size + 5 →
      (∀ c o, s.heap.get? c = some o → h'.get? c = some o) → Q (.ref (s.heap.objs.size + 4)) { s with heap := h' }) :
    wpAny (model prog w) A (call (.type "zip") [.ref l1, .ref l2]) Q E s := by
  refine callType_new F.called_zip (by decide) (F.typeCall_zip_2 _ _) (F.newCall_zip_2 _ _) (fun obj => F.args_object_init_3 obj _ _) F.entry_zip_new
    (meets_zm_new l1 l2 xs ys) ⟨hl1, hl2, ?_⟩
  have z1 : (zmH1 s.heap l1).objs.size = s.heap.objs.size + 1 := Heap.size_push ..
  have z2 : (zmH2 s.heap l1 l2).objs.size = s.heap.objs.size + 2 := by rw [Heap.size_push, z1]
  have z3 : (zmH3 s.heap l1 l2).objs.size = s.heap.objs.size + 3 := by rw [Heap.size_push, z2]
  have z4 : (zmH4 s.heap l1 l2).objs.size = s.heap.objs.size + 4 := by rw [Heap.size_push, z3]
  have z5 : (zmH5 s.heap l1 l2).objs.size = s.heap.objs.size + 5 := by rw [Heap.size_push, z4]
  have g5 : (zmH5 s.heap l1 l2).get? (zmH4 s.heap l1 l2).objs.size = some _ := Heap.get?_push_size _ rfl
  have g4 : (zmH5 s.heap l1 l2).get? (zmH3 s.heap l1 l2).objs.size = some _ := Heap.get?_push_of_some _ (Heap.get?_push_size _ rfl)
  have g3 : (zmH5 s.heap l1 l2).get? (zmH2 s.heap l1 l2).objs.size = some _ := Heap.get?_push_of_some _ (Heap.get?_push_of_some _ (Heap.get?_push_size _ rfl))
  have g2 : (zmH5 s.heap l1 l2).get? (zmH1 s.heap l1).objs.size = some _ := Heap.get?_push_of_some _ (Heap.get?_push_of_some _ (Heap.get?_push_of_some _ (Heap.get?_push_size _ rfl)))
  have g1 : (zmH5 s.heap l1 l2).get? s.heap.objs.size = some _ := Heap.get?_push_of_some _ (Heap.get?_push_of_some _ (Heap.get?_push_of_some _ (Heap.get?_push_of_some _ (Heap.get?_push_size _ rfl))))
  show _ ∧ _
  rw [z2, z3, z4] at g5
  rw [z1, z2] at g3
  rw [z3] at g4
  rw [z1] at g2
  rw [z4]
  exact ⟨⟨_, g5, rfl⟩, h _ g5 g3 g4 ⟨_, g1, rfl, rfl⟩ ⟨_, g2, rfl, rfl⟩ z5 fun c o x =>
    Heap.get?_push_of_some _ (Heap.get?_push_of_some _ (Heap.get?_push_of_some _ (Heap.get?_push_of_some _ (Heap.get?_push_of_some _ x))))⟩
end
def ItzM (K : PySem.W.Frag) (a b : Addr) : It :=
  ⟨fun i H => ∃ (xs ys : List V) (x y : V), SqT K H a xs ∧ SqL K H b ys ∧ xs[i]? = some x ∧ ys[i]? = some y,
    fun i H v H' => ∃ T x y, v = .ref T ∧ H T = none ∧ H' = upd H T (.tup [x, y]) ∧ (∀ xs, SqT K H a xs → xs[i]? = some x) ∧ ∀ ys, SqL K H b ys → ys[i]? = some y,
    fun i H => ∃ xs ys : List V, SqT K H a xs ∧ SqL K H b ys ∧ (xs.length = i ∧ i ≤ ys.length)⟩
theorem zip_sep {z TI TO i1 i2 a b : Addr} (D : ZipApart z TI TO i1 i2 a b) : ZipSep2 z TI TO i1 i2 [i1, a] [i2, b] where
  TIz := D.TIz
  TOz := D.TOz
  TITO := D.TITO
  TIi1 := D.TIi1
  mem1 := by simp
  zf1 := by
    simp
    exact ⟨D.i1z.symm, D.l1z.symm⟩
  Tf1 := by
    simp
    exact ⟨D.TOi1, D.l1TO.symm⟩
  TIi2 := D.TIi2
  mem2 := by simp
  zf2 := by
    simp
    exact ⟨D.i2z.symm, D.l2z.symm⟩
  Tf2 := by
    simp
    exact ⟨D.TOi2, D.l2TO.symm⟩
  sep1_2 := by
    simp
    exact ⟨D.i12, D.l2i1.symm⟩
  sep2_1 := by
    simp
    exact ⟨D.i12.symm, D.l1i2.symm⟩
theorem turn_zm {P : Program} {w : World} {K : PySem.W.Frag} {elts : List Expr} {kk : Nat} {tpos : Pos} {a b z TI TO i1 i2 : Addr} (D : ZipApart z TI TO i1 i2 a b) :
    Turn P w K (.Tuple elts kk tpos) (ItzM K a b) [z, TI, TO, i1, i2] z (fun i h => IsZip h z TI TO .none ∧ IsPair h TI (.ref i1) (.ref i2) ∧ (∃ x y, IsPair h TO x y) ∧ h.IsTupleIter i1 a i ∧ h.IsListIter i2 b i) where
  mem := by simp
  obj := fun i h st c hc => by
    obtain ⟨hz, hTI, ⟨x, y, hTO⟩, ⟨o1, e1, _, d1⟩, ⟨o2, e2, _, d2⟩⟩ := st
    have e' : c = z ∨ c = TI ∨ c = TO ∨ c = i1 ∨ c = i2 := by simpa using hc
    rcases e' with q | q | q | q | q
    · rw [q]; exact ⟨_, hz, fun v q => nomatch q⟩
    · rw [q]; exact ⟨_, hTI, fun v q => nomatch q⟩
    · rw [q]; exact ⟨_, hTO, fun v q => nomatch q⟩
    · rw [q]; exact ⟨o1, e1, fun v q => by rw [d1] at q; cases q⟩
    · rw [q]; exact ⟨o2, e2, fun v q => by rw [d2] at q; cases q⟩
  keep := fun i h h' st k => by
    obtain ⟨hz, hTI, ⟨x, y, hTO⟩, h1, h2⟩ := st
    exact ⟨k z (by simp) _ hz, k TI (by simp) _ hTI, ⟨x, y, k TO (by simp) _ hTO⟩, h1.at fun o q => k i1 (by simp) o q, h2.at fun o q => k i2 (by simp) o q⟩
  item := by
    intro X hP hw hK hc i pins s σ H E I hf st hg
    subst hP hw hK
    obtain ⟨hz, hTI, ⟨x0, y0, hTO⟩, h1, h2⟩ := st
    obtain ⟨xs, ys, x, y, hqx, hqy, hx, hy⟩ := hg
    obtain ⟨its, rv, p, _⟩ := I.tuple hqx
    obtain ⟨its2, rv2, p2, _⟩ := I.list hqy
    obtain ⟨u, hu, ru⟩ := rv.get hx
    obtain ⟨u2, hu2, ru2⟩ := rv2.get hy
    have hzl : z < s.heap.objs.size := Heap.lt_size hz
    have hh : X.A.in1.handled = none := I.ok.hd hc
    have D1 := tupDraws (prog := X.prog) (w := X.w) (A := X.A.in1) (its := its.toArray) hh D.l1i1
    have D2 := Draws.list (prog := X.prog) (w := X.w) (A := X.A.in1) hh i2 b D.l2i2 its2.toArray
    have n1 : i < its.toArray.size := by
      have := (List.getElem?_eq_some_iff.mp hu).1
      simpa using this
    have n2 : i < its2.toArray.size := by
      have := (List.getElem?_eq_some_iff.mp hu2).1
      simpa using this
    refine wpAny_pyNext_zipD2_item (zip_sep D) D1 D2 hz hTI hTO ⟨h1, p⟩ ⟨h2, p2.isList⟩ n1 n2 fun v1 v2 h' tk e1 e2 z' TO' h1' h2' hT hsz hk => ?_
    obtain rfl : u = v1 := by
      have e3 : its.toArray[i]? = some u := by simpa using hu
      exact Option.some.inj (e3.symm.trans e1)
    obtain rfl : u2 = v2 := by
      have e3 : its2.toArray[i]? = some u2 := by simpa using hu2
      exact Option.some.inj (e3.symm.trans e2)
    refine ⟨_, rfl, wpAny_letOwnedTupleGo_zip (s := { s with heap := h', toks := tk }) z' fun h'' z'' sb => ?_⟩
    have hT2 : h''.get? s.heap.objs.size = some { cls := .type "tuple", data := .seq #[u, u2] } := (sb.2 _ (Nat.ne_of_gt hzl)).trans hT
    have new : ObjOk X.prog X.w (upd H s.heap.objs.size (.tup [x, y])) h'' s.heap.objs.size (.tup [x, y]) :=
      ⟨by show 2 ≤ sizeLine; decide, [u, u2], .cons ru (.cons ru2 .nil), ⟨_, hT2, rfl, _, rfl⟩⟩
    have I1 : Inv X pins σ (upd H s.heap.objs.size (.tup [x, y])) { s with heap := h'', toks := tk } :=
      I.turnedNew (t' := tk) (ch := [z, TI, TO, i1, i2]) (fun c o hb q => (sb.2 c (fun q' => hb (by simp [q']))).trans (hk c o (fun q' => hb (by simp [q'])) (fun q' => hb (by simp [q'])) (fun q' => hb (by simp [q'])) (fun q' => hb (by simp [q'])) q)) hf (Nat.le_refl _) new
    refine ⟨.ref s.heap.objs.size, _, I1, rfl, ⟨_, x, y, rfl, I.hok.fresh (Nat.le_refl _), rfl, fun l hl => by rw [I.tuple_inj hl hqx]; exact hx, fun l hl => by rw [I.list_inj hl hqy]; exact hy⟩, ⟨z'', ?_, ⟨u, u2, ?_⟩, ?_, ?_⟩, fun c hcm => ?_⟩
    · exact (sb.2 _ D.TIz).trans (hk _ _ D.TIz D.TITO D.TIi1 D.TIi2 hTI)
    · exact (sb.2 _ D.TOz).trans TO'
    · exact Heap.IsTupleIter.at (show h'.IsTupleIter i1 a (i + 1) from h1'.1) fun o q => (sb.2 _ D.i1z).trans q
    · exact h2'.1.at fun o q => (sb.2 _ D.i2z).trans q
    · have hlt : c < s.heap.objs.size := by
        have e' : c = z ∨ c = TI ∨ c = TO ∨ c = i1 ∨ c = i2 := by simpa using hcm
        rcases e' with q | q | q | q | q
        · rw [q]; exact hzl
        · rw [q]; exact Heap.lt_size hTI
        · rw [q]; exact Heap.lt_size hTO
        · rw [q]; obtain ⟨_, e1, _⟩ := h1; exact Heap.lt_size e1
        · rw [q]; obtain ⟨_, e2, _⟩ := h2; exact Heap.lt_size e2
      rw [upd_ne (Nat.ne_of_lt hlt)]
      exact (hf c hcm).1
  done := by
    intro X hP hw hK hc i pins s σ H E I hf st hg
    subst hP hw hK
    obtain ⟨hz, hTI, ⟨x0, y0, hTO⟩, h1, h2⟩ := st
    obtain ⟨xs, ys, hqx, hqy, hend⟩ := hg
    obtain ⟨its, rv, p, _⟩ := I.tuple hqx
    obtain ⟨its2, rv2, p2, _⟩ := I.list hqy
    have l1 := rv.length
    have l2 := rv2.length
    have hh : X.A.in1.handled = none := I.ok.hd hc
    have D1 := tupDraws (prog := X.prog) (w := X.w) (A := X.A.in1) (its := its.toArray) hh D.l1i1
    have D2 := Draws.list (prog := X.prog) (w := X.w) (A := X.A.in1) hh i2 b D.l2i2 its2.toArray
    exact wpAny_pyNext_zipD2_end (zip_sep D) D1 D2 hz hTI hTO ⟨h1, p⟩ ⟨h2, p2.isList⟩ (by simp; omega) (by simp; omega) (.inl (by simp; omega)) fun h' tk hk => ⟨rfl, I.turnedL (t' := tk) (ch := [z, TI, TO, i1, i2]) (fun c o hb q =>
      hk c o (fun q' => hb (by simp [q'])) (fun q' => hb (by simp [q'])) (fun q' => hb (by simp [q'])) (fun q' => hb (by simp [q'])) q) hf⟩
  self := fun A i s Q E st h => wpAny_pyIter_zip st.1 h
def iZipM (K : PySem.W.Frag) (ta : TA) : TI := fun σ H R => ta σ H fun vs H1 => ∃ a b xs ys, vs = [.ref a, .ref b] ∧ SqT K H1 a xs ∧ ((SqL K H1 b ys ∧ R (ItzM K a b) H1) ∨ (SqT K H1 b ys ∧ R (RZ.ItzT K a b) H1))
theorem pi_zipM {X : Cx} {e e2 : Expr} {ta : TA} {p pos tpos : Pos} {elts : List Expr} {kk : Nat} (hg : Gl X "zip") (hm : X.mg "zip" = none) (ha : PA X [e, e2] ta)
    (hs : starEach [e, e2] X.env = (false, eval e X.env) :: starEach [e2] X.env := by rfl) (hpl : (backTo pos (starEach [e2] X.env)).any (·.1) = false := by rfl) :
    PI X (.Tuple elts kk tpos) (.Call (.Name "zip" p) [e, e2] [] pos) (iZipM X.K ta) := by
  refine ⟨fun pins s σ H R I h => ?_⟩
  refine Call_ (ld_blt I hg hm PyProof.Rows.boot_zip (PyProof.Rows.callWith_type1 (thn (ha.run pos pins s σ H _ I h) fun us s1 ⟨vs, H1, I1, r1, q1⟩ => ?_) hs hpl))
  obtain ⟨a, b, xs, ys, ex, hqx, q1⟩ := q1
  subst ex
  cases r1 with
  | cons r rr =>
    cases rr with
    | cons r' rr =>
      cases rr
      cases r
      cases r'
      have fresh5 : ∀ c, c ∈ [s1.heap.objs.size + 4, s1.heap.objs.size + 2, s1.heap.objs.size + 3, s1.heap.objs.size, s1.heap.objs.size + 1] → FpOk X pins H1 c := fun c hcm => by
        have e' : c = s1.heap.objs.size + 4 ∨ c = s1.heap.objs.size + 2 ∨ c = s1.heap.objs.size + 3 ∨ c = s1.heap.objs.size ∨ c = s1.heap.objs.size + 1 := by simpa using hcm
        have hle : s1.heap.objs.size ≤ c := by
          rcases e' with z | z | z | z | z
          · rw [z]; exact Nat.le_add_right _ _
          · rw [z]; exact Nat.le_add_right _ _
          · rw [z]; exact Nat.le_add_right _ _
          · rw [z]; exact Nat.le_refl _
          · rw [z]; exact Nat.le_add_right _ _
        exact I1.fpOk hle (I1.hok.fresh hle)
      obtain ⟨its, rv, p1, _⟩ := I1.tuple hqx
      obtain ⟨o1, ho1, _⟩ := id p1
      rcases q1 with ⟨hqy, q⟩ | ⟨hqy, q⟩
      · obtain ⟨its2, rv2, p2, _⟩ := I1.list hqy
        refine call_zm (show s1.heap.IsTuple a its.toArray from p1) p2.isList fun h' hz hTI hTO h1 h2 hsz hk => wpAny_pyIter_zip hz ?_
        have I2 : Inv X pins σ H1 { s1 with heap := h' } := I1.kept (t' := s1.toks) hk
        exact ⟨s1.heap.objs.size + 4, [s1.heap.objs.size + 4, s1.heap.objs.size + 2, s1.heap.objs.size + 3, s1.heap.objs.size, s1.heap.objs.size + 1], _, _, H1, rfl, I2, turn_zm (PySem.W.ktu_apart s1.heap.objs.size a b (Heap.lt_size ho1) p2.lt), ⟨hz, hTI, ⟨_, _, hTO⟩, h1, h2⟩, fresh5, q⟩
      · obtain ⟨its2, rv2, p2, _⟩ := I1.tuple hqy
        obtain ⟨o2, ho2, _⟩ := id p2
        refine RZ.call_zipT (show s1.heap.IsTuple a its.toArray from p1) (show s1.heap.IsTuple b its2.toArray from p2) fun h' hz hTI hTO h1 h2 hsz hk => wpAny_pyIter_zip hz ?_
        have I2 : Inv X pins σ H1 { s1 with heap := h' } := I1.kept (t' := s1.toks) hk
        exact ⟨s1.heap.objs.size + 4, [s1.heap.objs.size + 4, s1.heap.objs.size + 2, s1.heap.objs.size + 3, s1.heap.objs.size, s1.heap.objs.size + 1], _, _, H1, rfl, I2, RZ.turn_zipT (PySem.W.ktu_apart s1.heap.objs.size a b (Heap.lt_size ho1) (Heap.lt_size ho2)), ⟨hz, hTI, ⟨_, _, hTO⟩, h1, h2⟩, fresh5, q⟩
variable {K : PySem.W.Frag}
theorem rd_zipM {ta : TA} {σ : L2.St} {H : Hp} {R : It → Hp → Prop} (h : ta σ H fun vs H1 => ∃ a b xs ys, vs = [.ref a, .ref b] ∧ SqT K H1 a xs ∧ ((SqL K H1 b ys ∧ R (ItzM K a b) H1) ∨ (SqT K H1 b ys ∧ R (RZ.ItzT K a b) H1))) : iZipM K ta σ H R := h
section
variable {α : Type} {R : Hp → V → α → Prop} {g : TG} {tt : TT} {te : TE} {vs : List Nat} {σ : L2.St} {H1 : Hp} {Qd : Addr → Hp → Prop} {f : Nat → Option α}
/-- a comprehension over zip of a tuple and a list or a tuple of the same length -/
theorem lc_zipM (hR : Mn R) {a b : Addr} {xs ys : List V} (hn : xs.length ≤ 1000) (hlen : xs.length = ys.length) (ha : SqT K H1 a xs) (hb : Sq K H1 b ys)
    (hs : ∀ i x y, xs[i]? = some x → ys[i]? = some y → Turn1 R H1 f i fun H' Q N => ∀ T, H' T = none → g (.ref T) (wipe σ vs) (upd H' T (.tup [x, y])) fun σ2 H2 => wipe σ2 vs = wipe σ vs ∧ tt σ2 H2 fun b H3 => if b = true then te σ2 H3 Q else N H3)
    (hd : ∀ D H', Lst R H1 D (upTo f xs.length) H' → Qd D H') {RR : It → Hp → Prop}
    (hRR : RR = fun J H1 => ∀ D, H1 D = none → ∃ W : Nat → Nat → Hp → Prop, (∃ m, W 0 m (upd H1 D (.lst []))) ∧ ∀ i m H, W i m H →
      (J.stop i H ∧ Qd D H) ∨ (J.go i H ∧ ∃ Nx : Hp → Prop, (∀ H', Nx H' → ∃ m', m' < m ∧ W (i + 1) m' H') ∧ ∀ x H', J.yld i H x H' → g x (wipe σ vs) H' fun σ2 H2 => wipe σ2 vs = wipe σ vs ∧ tt σ2 H2 fun b H3 =>
        if b = true then te σ2 H3 fun y H4 => ∃ acc, H4 D = some (.lst acc) ∧ acc.length < sizeLine ∧ Nx (upd H4 D (.lst (acc ++ [y]))) else Nx H3)) :
    (SqL K H1 b ys ∧ RR (ItzM K a b) H1) ∨ (SqT K H1 b ys ∧ RR (RZ.ItzT K a b) H1) := by
  subst hRR
  rcases hb with hb | hb
  · refine .inl ⟨hb, fun D nD => ?_⟩
    refine ⟨fun i m H => m = xs.length - i ∧ i ≤ xs.length ∧ Lst R H1 D (upTo f i) H, ⟨xs.length, by simp, Nat.zero_le _, lst_new nD⟩, ?_⟩
    rintro i m H ⟨rfl, hi, l⟩
    have qa := sqT_same l.1 ha
    have qb := l.1.seq hb
    by_cases hlt : i < xs.length
    · refine .inr ⟨⟨xs, ys, xs[i], ys[i], qa, qb, by simp [hlt], by simp⟩, Lst R H1 D (upTo f (i + 1)), fun H' p' => ⟨xs.length - (i + 1), by omega, rfl, hlt, p'⟩, fun x H' y => ?_⟩
      obtain ⟨T, x, y, rfl, nT, rfl, hx, hy⟩ := y
      exact Turn1.step (i := i) hR nD (by omega) (hs i x y (hx xs qa) (hy ys qb)) l T nT
    · have e : i = xs.length := by omega
      subst e
      exact .inl ⟨⟨xs, ys, qa, qb, rfl, by omega⟩, hd D H l⟩
  · refine .inr ⟨hb, fun D nD => ?_⟩
    refine ⟨fun i m H => m = xs.length - i ∧ i ≤ xs.length ∧ Lst R H1 D (upTo f i) H, ⟨xs.length, by simp, Nat.zero_le _, lst_new nD⟩, ?_⟩
    rintro i m H ⟨rfl, hi, l⟩
    have qa := sqT_same l.1 ha
    have qb := sqT_same l.1 hb
    by_cases hlt : i < xs.length
    · refine .inr ⟨⟨xs, ys, xs[i], ys[i], qa, qb, by simp [hlt], by simp⟩, Lst R H1 D (upTo f (i + 1)), fun H' p' => ⟨xs.length - (i + 1), by omega, rfl, hlt, p'⟩, fun x H' y => ?_⟩
      obtain ⟨T, x, y, rfl, nT, rfl, hx, hy⟩ := y
      exact Turn1.step (i := i) hR nD (by omega) (hs i x y (hx xs qa) (hy ys qb)) l T nT
    · have e : i = xs.length := by omega
      subst e
      exact .inl ⟨⟨xs, ys, qa, qb, .inl (Nat.le_refl _)⟩, hd D H l⟩
end
end My
namespace My
open PySem PySem.Spec PyProof.Rows L2
/-! ### zip of a list and a tuple -/
abbrev znH1 (h : Heap) (l1 : Addr) : Heap := h.push { cls := .type "list_iterator", data := .fields #[.ref l1, .int 0 0] }
abbrev znH2 (h : Heap) (l1 l2 : Addr) : Heap := (znH1 h l1).push { cls := .type "tuple_iterator", data := .fields #[.ref l2, .int 0 0] }
abbrev znH3 (h : Heap) (l1 l2 : Addr) : Heap := (znH2 h l1 l2).push { cls := .type "tuple", data := .seq #[.ref h.objs.size, .ref (znH1 h l1).objs.size] }
abbrev znH4 (h : Heap) (l1 l2 : Addr) : Heap := (znH3 h l1 l2).push { cls := .type "tuple", data := .seq #[.none, .none] }
abbrev znH5 (h : Heap) (l1 l2 : Addr) : Heap := (znH4 h l1 l2).push { cls := .type "zip", data := .fields #[.none, .bool false, .bool false, .ref (znH2 h l1 l2).objs.size, .ref (znH3 h l1 l2).objs.size] }
theorem meets_zn_new (l1 l2 : Addr) (xs ys : Array Value) :
    Meets (Builtin.«zip.__new__» ⟨[.type "zip", .ref l1, .ref l2], []⟩) (fun _ R s => s.heap.IsList l1 xs ∧ s.heap.IsTuple l2 ys ∧
      R (.ok (.ret (.ref (znH4 s.heap l1 l2).objs.size))) { s with heap := znH5 s.heap l1 l2 }) :=
  .of_wp fun prog w A R s h => by
    obtain ⟨hp, g, d, tk, os⟩ := s
    obtain ⟨hl1, hl2, h⟩ := h
    have hsub := sub_zip
    have hL1 : Heap.IsList (Shared.heap ⟨hp, g, d, tk, os⟩) l1 xs := hl1
    have hL2 : Heap.IsTuple (Shared.heap ⟨hp.push { cls := .type "list_iterator", data := .fields #[.ref l1, .int 0 0] }, g, d, tk, os⟩) l2 ys := Heap.IsTuple.push hl2 _
    wp_walk using wpAny_pyIter_list hL1, wpAny_pyIter_tuple hL2
    exact ⟨_, rfl, h⟩
section
variable {prog : Program} {w : World} {A : Around} {E : Value → Shared → Prop} {s : Shared}
theorem call_zn {l1 l2 : Addr} {xs ys : Array Value} {Q : Value → Shared → Prop} (hl1 : s.heap.IsList l1 xs) (hl2 : s.heap.IsTuple l2 ys)
    (h : ∀ h', IsZip h' (s.heap.objs.size + 4) (s.heap.objs.size + 2) (s.heap.objs.size + 3) .none → IsPair h' (s.heap.objs.size + 2) (.ref s.heap.objs.size) (.ref (s.heap.objs.size + 1)) →
      IsPair h' (s.heap.objs.size + 3) .none .none → h'.IsListIter s.heap.objs.size l1 0 → h'.IsTupleIter (s.heap.objs.size + 1) l2 0 → h'.objs.size = s.heap.objs.size + 5 →
      (∀ c o, s.heap.get? c = some o → h'.get? c = some o) → Q (.ref (s.heap.objs.size + 4)) { s with heap := h' }) :
    wpAny (model prog w) A (call (.type "zip") [.ref l1, .ref l2]) Q E s := by
  refine callType_new F.called_zip (by decide) (F.typeCall_zip_2 _ _) (F.newCall_zip_2 _ _) (fun obj => F.args_object_init_3 obj _ _) F.entry_zip_new
    (meets_zn_new l1 l2 xs ys) ⟨hl1, hl2, ?_⟩
  have z1 : (znH1 s.heap l1).objs.size = s.heap.objs.size + 1 := Heap.size_push ..
  have z2 : (znH2 s.heap l1 l2).objs.size = s.heap.objs.size + 2 := by rw [Heap.size_push, z1]
  have z3 : (znH3 s.heap l1 l2).objs.size = s.heap.objs.size + 3 := by rw [Heap.size_push, z2]
  have z4 : (znH4 s.heap l1 l2).objs.size = s.heap.objs.size + 4 := by rw [Heap.size_push, z3]
  have z5 : (znH5 s.heap l1 l2).objs.size = s.heap.objs.size + 5 := by rw [Heap.size_push, z4]
  have g5 : (znH5 s.heap l1 l2).get? (znH4 s.heap l1 l2).objs.size = some _ := Heap.get?_push_size _ rfl
  have g4 : (znH5 s.heap l1 l2).get? (znH3 s.heap l1 l2).objs.size = some _ := Heap.get?_push_of_some _ (Heap.get?_push_size _ rfl)
  have g3 : (znH5 s.heap l1 l2).get? (znH2 s.heap l1 l2).objs.size = some _ := Heap.get?_push_of_some _ (Heap.get?_push_of_some _ (Heap.get?_push_size _ rfl))
  have g2 : (znH5 s.heap l1 l2).get? (znH1 s.heap l1).objs.size = some _ := Heap.get?_push_of_some _ (Heap.get?_push_of_some _ (Heap.get?_push_of_some _ (Heap.get?_push_size _ rfl)))
  have g1 : (znH5 s.heap l1 l2).get? s.heap.objs.size = some _ := Heap.get?_push_of_some _ (Heap.get?_push_of_some _ (Heap.get?_push_of_some _ (Heap.get?_push_of_some _ (Heap.get?_push_size _ rfl))))
  show _ ∧ _
  rw [z2, z3, z4] at g5
  rw [z1, z2] at g3
  rw [z3] at g4
  rw [z1] at g2
  rw [z4]
  exact ⟨⟨_, g5, rfl⟩, h _ g5 g3 g4 ⟨_, g1, rfl, rfl⟩ ⟨_, g2, rfl, rfl⟩ z5 fun c o x =>
    Heap.get?_push_of_some _ (Heap.get?_push_of_some _ (Heap.get?_push_of_some _ (Heap.get?_push_of_some _ (Heap.get?_push_of_some _ x))))⟩
end
def ItzN (K : PySem.W.Frag) (a b : Addr) : It :=
  ⟨fun i H => ∃ (xs ys : List V) (x y : V), SqL K H a xs ∧ SqT K H b ys ∧ xs[i]? = some x ∧ ys[i]? = some y,
    fun i H v H' => ∃ T x y, v = .ref T ∧ H T = none ∧ H' = upd H T (.tup [x, y]) ∧ (∀ xs, SqL K H a xs → xs[i]? = some x) ∧ ∀ ys, SqT K H b ys → ys[i]? = some y,
    fun i H => ∃ xs ys : List V, SqL K H a xs ∧ SqT K H b ys ∧ (xs.length = i ∧ i ≤ ys.length)⟩
theorem turn_zn {P : Program} {w : World} {K : PySem.W.Frag} {elts : List Expr} {kk : Nat} {tpos : Pos} {a b z TI TO i1 i2 : Addr} (D : ZipApart z TI TO i1 i2 a b) :
    Turn P w K (.Tuple elts kk tpos) (ItzN K a b) [z, TI, TO, i1, i2] z (fun i h => IsZip h z TI TO .none ∧ IsPair h TI (.ref i1) (.ref i2) ∧ (∃ x y, IsPair h TO x y) ∧ h.IsListIter i1 a i ∧ h.IsTupleIter i2 b i) where
  mem := by simp
  obj := fun i h st c hc => by
    obtain ⟨hz, hTI, ⟨x, y, hTO⟩, ⟨o1, e1, _, d1⟩, ⟨o2, e2, _, d2⟩⟩ := st
    have e' : c = z ∨ c = TI ∨ c = TO ∨ c = i1 ∨ c = i2 := by simpa using hc
    rcases e' with q | q | q | q | q
    · rw [q]; exact ⟨_, hz, fun v q => nomatch q⟩
    · rw [q]; exact ⟨_, hTI, fun v q => nomatch q⟩
    · rw [q]; exact ⟨_, hTO, fun v q => nomatch q⟩
    · rw [q]; exact ⟨o1, e1, fun v q => by rw [d1] at q; cases q⟩
    · rw [q]; exact ⟨o2, e2, fun v q => by rw [d2] at q; cases q⟩
  keep := fun i h h' st k => by
    obtain ⟨hz, hTI, ⟨x, y, hTO⟩, h1, h2⟩ := st
    exact ⟨k z (by simp) _ hz, k TI (by simp) _ hTI, ⟨x, y, k TO (by simp) _ hTO⟩, h1.at fun o q => k i1 (by simp) o q, h2.at fun o q => k i2 (by simp) o q⟩
  item := by
    intro X hP hw hK hc i pins s σ H E I hf st hg
    subst hP hw hK
    obtain ⟨hz, hTI, ⟨x0, y0, hTO⟩, h1, h2⟩ := st
    obtain ⟨xs, ys, x, y, hqx, hqy, hx, hy⟩ := hg
    obtain ⟨its, rv, p, _⟩ := I.list hqx
    obtain ⟨its2, rv2, p2, _⟩ := I.tuple hqy
    obtain ⟨u, hu, ru⟩ := rv.get hx
    obtain ⟨u2, hu2, ru2⟩ := rv2.get hy
    have hzl : z < s.heap.objs.size := Heap.lt_size hz
    have hh : X.A.in1.handled = none := I.ok.hd hc
    have D1 := Draws.list (prog := X.prog) (w := X.w) (A := X.A.in1) hh i1 a D.l1i1 its.toArray
    have D2 := tupDraws (prog := X.prog) (w := X.w) (A := X.A.in1) (its := its2.toArray) hh D.l2i2
    have n1 : i < its.toArray.size := by
      have := (List.getElem?_eq_some_iff.mp hu).1
      simpa using this
    have n2 : i < its2.toArray.size := by
      have := (List.getElem?_eq_some_iff.mp hu2).1
      simpa using this
    refine wpAny_pyNext_zipD2_item (zip_sep D) D1 D2 hz hTI hTO ⟨h1, p.isList⟩ ⟨h2, p2⟩ n1 n2 fun v1 v2 h' tk e1 e2 z' TO' h1' h2' hT hsz hk => ?_
    obtain rfl : u = v1 := by
      have e3 : its.toArray[i]? = some u := by simpa using hu
      exact Option.some.inj (e3.symm.trans e1)
    obtain rfl : u2 = v2 := by
      have e3 : its2.toArray[i]? = some u2 := by simpa using hu2
      exact Option.some.inj (e3.symm.trans e2)
    refine ⟨_, rfl, wpAny_letOwnedTupleGo_zip (s := { s with heap := h', toks := tk }) z' fun h'' z'' sb => ?_⟩
    have hT2 : h''.get? s.heap.objs.size = some { cls := .type "tuple", data := .seq #[u, u2] } := (sb.2 _ (Nat.ne_of_gt hzl)).trans hT
    have new : ObjOk X.prog X.w (upd H s.heap.objs.size (.tup [x, y])) h'' s.heap.objs.size (.tup [x, y]) :=
      ⟨by show 2 ≤ sizeLine; decide, [u, u2], .cons ru (.cons ru2 .nil), ⟨_, hT2, rfl, _, rfl⟩⟩
    have I1 : Inv X pins σ (upd H s.heap.objs.size (.tup [x, y])) { s with heap := h'', toks := tk } :=
      I.turnedNew (t' := tk) (ch := [z, TI, TO, i1, i2]) (fun c o hb q => (sb.2 c (fun q' => hb (by simp [q']))).trans (hk c o (fun q' => hb (by simp [q'])) (fun q' => hb (by simp [q'])) (fun q' => hb (by simp [q'])) (fun q' => hb (by simp [q'])) q)) hf (Nat.le_refl _) new
    refine ⟨.ref s.heap.objs.size, _, I1, rfl, ⟨_, x, y, rfl, I.hok.fresh (Nat.le_refl _), rfl, fun l hl => by rw [I.list_inj hl hqx]; exact hx, fun l hl => by rw [I.tuple_inj hl hqy]; exact hy⟩, ⟨z'', ?_, ⟨u, u2, ?_⟩, ?_, ?_⟩, fun c hcm => ?_⟩
    · exact (sb.2 _ D.TIz).trans (hk _ _ D.TIz D.TITO D.TIi1 D.TIi2 hTI)
    · exact (sb.2 _ D.TOz).trans TO'
    · exact h1'.1.at fun o q => (sb.2 _ D.i1z).trans q
    · exact Heap.IsTupleIter.at (show h'.IsTupleIter i2 b (i + 1) from h2'.1) fun o q => (sb.2 _ D.i2z).trans q
    · have hlt : c < s.heap.objs.size := by
        have e' : c = z ∨ c = TI ∨ c = TO ∨ c = i1 ∨ c = i2 := by simpa using hcm
        rcases e' with q | q | q | q | q
        · rw [q]; exact hzl
        · rw [q]; exact Heap.lt_size hTI
        · rw [q]; exact Heap.lt_size hTO
        · rw [q]; obtain ⟨_, e1, _⟩ := h1; exact Heap.lt_size e1
        · rw [q]; obtain ⟨_, e2, _⟩ := h2; exact Heap.lt_size e2
      rw [upd_ne (Nat.ne_of_lt hlt)]
      exact (hf c hcm).1
  done := by
    intro X hP hw hK hc i pins s σ H E I hf st hg
    subst hP hw hK
    obtain ⟨hz, hTI, ⟨x0, y0, hTO⟩, h1, h2⟩ := st
    obtain ⟨xs, ys, hqx, hqy, hend⟩ := hg
    obtain ⟨its, rv, p, _⟩ := I.list hqx
    obtain ⟨its2, rv2, p2, _⟩ := I.tuple hqy
    have l1 := rv.length
    have l2 := rv2.length
    have hh : X.A.in1.handled = none := I.ok.hd hc
    have D1 := Draws.list (prog := X.prog) (w := X.w) (A := X.A.in1) hh i1 a D.l1i1 its.toArray
    have D2 := tupDraws (prog := X.prog) (w := X.w) (A := X.A.in1) (its := its2.toArray) hh D.l2i2
    exact wpAny_pyNext_zipD2_end (zip_sep D) D1 D2 hz hTI hTO ⟨h1, p.isList⟩ ⟨h2, p2⟩ (by simp; omega) (by simp; omega) (.inl (by simp; omega)) fun h' tk hk => ⟨rfl, I.turnedL (t' := tk) (ch := [z, TI, TO, i1, i2]) (fun c o hb q =>
      hk c o (fun q' => hb (by simp [q'])) (fun q' => hb (by simp [q'])) (fun q' => hb (by simp [q'])) (fun q' => hb (by simp [q'])) q) hf⟩
  self := fun A i s Q E st h => wpAny_pyIter_zip st.1 h
def iZipN (K : PySem.W.Frag) (ta : TA) : TI := fun σ H R => ta σ H fun vs H1 => ∃ a b xs ys, vs = [.ref a, .ref b] ∧ SqT K H1 b ys ∧ ((SqL K H1 a xs ∧ R (ItzN K a b) H1) ∨ (SqT K H1 a xs ∧ R (RZ.ItzT K a b) H1))
theorem pi_zipN {X : Cx} {e e2 : Expr} {ta : TA} {p pos tpos : Pos} {elts : List Expr} {kk : Nat} (hg : Gl X "zip") (hm : X.mg "zip" = none) (ha : PA X [e, e2] ta)
    (hs : starEach [e, e2] X.env = (false, eval e X.env) :: starEach [e2] X.env := by rfl) (hpl : (backTo pos (starEach [e2] X.env)).any (·.1) = false := by rfl) :
    PI X (.Tuple elts kk tpos) (.Call (.Name "zip" p) [e, e2] [] pos) (iZipN X.K ta) := by
  refine ⟨fun pins s σ H R I h => ?_⟩
  refine Call_ (ld_blt I hg hm PyProof.Rows.boot_zip (PyProof.Rows.callWith_type1 (thn (ha.run pos pins s σ H _ I h) fun us s1 ⟨vs, H1, I1, r1, q1⟩ => ?_) hs hpl))
  obtain ⟨a, b, xs, ys, ex, hqy, q1⟩ := q1
  subst ex
  cases r1 with
  | cons r rr =>
    cases rr with
    | cons r' rr =>
      cases rr
      cases r
      cases r'
      have fresh5 : ∀ c, c ∈ [s1.heap.objs.size + 4, s1.heap.objs.size + 2, s1.heap.objs.size + 3, s1.heap.objs.size, s1.heap.objs.size + 1] → FpOk X pins H1 c := fun c hcm => by
        have e' : c = s1.heap.objs.size + 4 ∨ c = s1.heap.objs.size + 2 ∨ c = s1.heap.objs.size + 3 ∨ c = s1.heap.objs.size ∨ c = s1.heap.objs.size + 1 := by simpa using hcm
        have hle : s1.heap.objs.size ≤ c := by
          rcases e' with z | z | z | z | z
          · rw [z]; exact Nat.le_add_right _ _
          · rw [z]; exact Nat.le_add_right _ _
          · rw [z]; exact Nat.le_add_right _ _
          · rw [z]; exact Nat.le_refl _
          · rw [z]; exact Nat.le_add_right _ _
        exact I1.fpOk hle (I1.hok.fresh hle)
      obtain ⟨its2, rv2, p2, _⟩ := I1.tuple hqy
      obtain ⟨o2, ho2, _⟩ := id p2
      rcases q1 with ⟨hqx, q⟩ | ⟨hqx, q⟩
      · obtain ⟨its, rv, p1, _⟩ := I1.list hqx
        refine call_zn p1.isList (show s1.heap.IsTuple b its2.toArray from p2) fun h' hz hTI hTO h1 h2 hsz hk => wpAny_pyIter_zip hz ?_
        have I2 : Inv X pins σ H1 { s1 with heap := h' } := I1.kept (t' := s1.toks) hk
        exact ⟨s1.heap.objs.size + 4, [s1.heap.objs.size + 4, s1.heap.objs.size + 2, s1.heap.objs.size + 3, s1.heap.objs.size, s1.heap.objs.size + 1], _, _, H1, rfl, I2, turn_zn (PySem.W.ktu_apart s1.heap.objs.size a b p1.lt (Heap.lt_size ho2)), ⟨hz, hTI, ⟨_, _, hTO⟩, h1, h2⟩, fresh5, q⟩
      · obtain ⟨its, rv, p1, _⟩ := I1.tuple hqx
        obtain ⟨o1, ho1, _⟩ := id p1
        refine RZ.call_zipT (show s1.heap.IsTuple a its.toArray from p1) (show s1.heap.IsTuple b its2.toArray from p2) fun h' hz hTI hTO h1 h2 hsz hk => wpAny_pyIter_zip hz ?_
        have I2 : Inv X pins σ H1 { s1 with heap := h' } := I1.kept (t' := s1.toks) hk
        exact ⟨s1.heap.objs.size + 4, [s1.heap.objs.size + 4, s1.heap.objs.size + 2, s1.heap.objs.size + 3, s1.heap.objs.size, s1.heap.objs.size + 1], _, _, H1, rfl, I2, RZ.turn_zipT (PySem.W.ktu_apart s1.heap.objs.size a b (Heap.lt_size ho1) (Heap.lt_size ho2)), ⟨hz, hTI, ⟨_, _, hTO⟩, h1, h2⟩, fresh5, q⟩
variable {K : PySem.W.Frag}
theorem rd_zipN {ta : TA} {σ : L2.St} {H : Hp} {R : It → Hp → Prop} (h : ta σ H fun vs H1 => ∃ a b xs ys, vs = [.ref a, .ref b] ∧ SqT K H1 b ys ∧ ((SqL K H1 a xs ∧ R (ItzN K a b) H1) ∨ (SqT K H1 a xs ∧ R (RZ.ItzT K a b) H1))) : iZipN K ta σ H R := h
section
variable {α : Type} {R : Hp → V → α → Prop} {g : TG} {tt : TT} {te : TE} {vs : List Nat} {σ : L2.St} {H1 : Hp} {Qd : Addr → Hp → Prop} {f : Nat → Option α}
/-- a comprehension over zip of a list and a tuple or a tuple of the same length -/
theorem lc_zipN (hR : Mn R) {a b : Addr} {xs ys : List V} (hn : xs.length ≤ 1000) (hlen : xs.length = ys.length) (ha : Sq K H1 a xs) (hb : SqT K H1 b ys)
    (hs : ∀ i x y, xs[i]? = some x → ys[i]? = some y → Turn1 R H1 f i fun H' Q N => ∀ T, H' T = none → g (.ref T) (wipe σ vs) (upd H' T (.tup [x, y])) fun σ2 H2 => wipe σ2 vs = wipe σ vs ∧ tt σ2 H2 fun b H3 => if b = true then te σ2 H3 Q else N H3)
    (hd : ∀ D H', Lst R H1 D (upTo f xs.length) H' → Qd D H') {RR : It → Hp → Prop}
    (hRR : RR = fun J H1 => ∀ D, H1 D = none → ∃ W : Nat → Nat → Hp → Prop, (∃ m, W 0 m (upd H1 D (.lst []))) ∧ ∀ i m H, W i m H →
      (J.stop i H ∧ Qd D H) ∨ (J.go i H ∧ ∃ Nx : Hp → Prop, (∀ H', Nx H' → ∃ m', m' < m ∧ W (i + 1) m' H') ∧ ∀ x H', J.yld i H x H' → g x (wipe σ vs) H' fun σ2 H2 => wipe σ2 vs = wipe σ vs ∧ tt σ2 H2 fun b H3 =>
        if b = true then te σ2 H3 fun y H4 => ∃ acc, H4 D = some (.lst acc) ∧ acc.length < sizeLine ∧ Nx (upd H4 D (.lst (acc ++ [y]))) else Nx H3)) :
    (SqL K H1 a xs ∧ RR (ItzN K a b) H1) ∨ (SqT K H1 a xs ∧ RR (RZ.ItzT K a b) H1) := by
  subst hRR
  rcases ha with ha | ha
  · refine .inl ⟨ha, fun D nD => ?_⟩
    refine ⟨fun i m H => m = xs.length - i ∧ i ≤ xs.length ∧ Lst R H1 D (upTo f i) H, ⟨xs.length, by simp, Nat.zero_le _, lst_new nD⟩, ?_⟩
    rintro i m H ⟨rfl, hi, l⟩
    have qa := l.1.seq ha
    have qb := sqT_same l.1 hb
    by_cases hlt : i < xs.length
    · refine .inr ⟨⟨xs, ys, xs[i], ys[i], qa, qb, by simp [hlt], by simp⟩, Lst R H1 D (upTo f (i + 1)), fun H' p' => ⟨xs.length - (i + 1), by omega, rfl, hlt, p'⟩, fun x H' y => ?_⟩
      obtain ⟨T, x, y, rfl, nT, rfl, hx, hy⟩ := y
      exact Turn1.step (i := i) hR nD (by omega) (hs i x y (hx xs qa) (hy ys qb)) l T nT
    · have e : i = xs.length := by omega
      subst e
      exact .inl ⟨⟨xs, ys, qa, qb, rfl, by omega⟩, hd D H l⟩
  · refine .inr ⟨ha, fun D nD => ?_⟩
    refine ⟨fun i m H => m = xs.length - i ∧ i ≤ xs.length ∧ Lst R H1 D (upTo f i) H, ⟨xs.length, by simp, Nat.zero_le _, lst_new nD⟩, ?_⟩
    rintro i m H ⟨rfl, hi, l⟩
    have qa := sqT_same l.1 ha
    have qb := sqT_same l.1 hb
    by_cases hlt : i < xs.length
    · refine .inr ⟨⟨xs, ys, xs[i], ys[i], qa, qb, by simp [hlt], by simp⟩, Lst R H1 D (upTo f (i + 1)), fun H' p' => ⟨xs.length - (i + 1), by omega, rfl, hlt, p'⟩, fun x H' y => ?_⟩
      obtain ⟨T, x, y, rfl, nT, rfl, hx, hy⟩ := y
      exact Turn1.step (i := i) hR nD (by omega) (hs i x y (hx xs qa) (hy ys qb)) l T nT
    · have e : i = xs.length := by omega
      subst e
      exact .inl ⟨⟨xs, ys, qa, qb, .inl (Nat.le_refl _)⟩, hd D H l⟩
end
end My
namespace My
open PySem PySem.Spec PyProof.Rows L2 PySem.W PySem.Calls
/-! ### sorted of what reads as data: lists of tuples of ints, and a tuple of ints -/
section
variable {prog : Program} {w : World} {A : Around} {E : Value → Shared → Prop} {s : Shared}
theorem collect_tup {l : Addr} {vs : List Value} {Q : List Value → Shared → Prop} {o : Obj} {n : Nat} (ho : s.heap.get? l = some o) (hc : o.cls = .type "tuple") (hd : o.data = .seq vs.toArray n)
    (h : Q vs { s with heap := (s.heap.push (seqObj "list" #[] 0)).update s.heap.objs.size (Obj.mapSeq (· ++ vs.toArray)) }) (hsz : vs.length ≤ sizeLine) :
    wpAny (model prog w) A (collect (.ref l)) Q E s := by
  unfold collect
  refine wpAny_bind (wpAny_runValue (codeAny_builtin entry_proto_collect' ?_))
  show wpAny _ _ (do again (.builtin "list.__iadd__" ⟨[← newList [], .ref l], []⟩)) _ _ s
  refine wpAny_bind (wpAny_newList (wpAny_pure ⟨Code.quiet_builtin _ (by decide +kernel), codeAny_builtin entry_list_iadd' ?_⟩))
  show wpAny _ _ (Builtin.List.listExtendWith (.ref s.heap.objs.size) (.ref l) (.ref s.heap.objs.size)) _ _ { s with heap := s.heap.push (seqObj "list" #[] 0) }
  unfold Builtin.List.listExtendWith
  have ho' : (s.heap.push (seqObj "list" #[] 0)).get? l = some o := Heap.get?_push_of_some _ ho
  refine wpAny_bind (wpAny_typeOf (T := "tuple") ⟨o, ho', hc⟩ ?_)
  have ht : (Value.type "tuple" == Value.type "tuple") = true := by rfl
  rw [if_pos (by rw [ht]; simp)]
  refine wpAny_bind (listItems_at ho' hd ?_)
  refine wpAny_bind (listItems_at (xs := #[]) (n := 0) (Heap.get?_push_size _ rfl) rfl ?_)
  rw [if_neg (by simp)]
  refine wpAny_bind (listUpdate_at (xs := #[]) (n := 0) (Heap.get?_push_size _ rfl) rfl ?_ (Nat.zero_le _) (by show (#[] ++ vs.toArray).size ≤ sizeLine + 1; simp only [Array.size_append, List.size_toArray, List.length_nil]; omega))
  refine wpAny_pure ?_
  show wpAny (model prog w) A (do
      let o ← load s.heap.objs.size
      match o.data with
      | .seq xs _ => pure xs.toList
      | _ => unsupported "internal:collect") Q E { s with heap := (s.heap.push (seqObj "list" #[] 0)).update s.heap.objs.size (Obj.mapSeq (· ++ vs.toArray)) }
  refine wpAny_bind (wpAny_load (get?_update_seq (Heap.get?_push_size _ rfl) _) ?_)
  show wpAny _ _ (pure ((#[] : Array Value) ++ vs.toArray).toList) Q E _
  rw [show ((#[] : Array Value) ++ vs.toArray).toList = vs by simp]
  exact wpAny_pure h
theorem sorted_ofT {l : Addr} {vs : List Value} {Q : Value → Shared → Prop} {o : Obj} {n : Nat} (ho : s.heap.get? l = some o) (hc : o.cls = .type "tuple") (hd : o.data = .seq vs.toArray n) (hL : vs.length ≤ sizeLine) (ha2 : ∀ x, argsOk "list.sort" ⟨[.ref x], []⟩)
    (body : ∀ E' : Value → Shared → Prop, wpAny (model prog w) A.in1.in1 (Builtin.«list.sort» ⟨[.ref (s.heap.objs.size + 1)], []⟩) (fun f s' => f = .done (.ret .none) ∧ Q (.ref (s.heap.objs.size + 1)) s') E' { s with heap := copyHeap s.heap vs }) :
    wpAny (model prog w) A (call (.builtin "sorted") [.ref l]) Q E s := by
  refine call_function_entry_kw kind_sorted plain_sorted entry_sorted (args_sorted1 _) ?_
  unfold Builtin.«sorted»
  refine wpAny_bind (m := checkCount "sorted" 1 1 _) (wpAny_pure ?_)
  refine wpAny_bind (collect_tup ho hc hd ?_ hL)
  refine wpAny_bind (wpAny_newList ?_ hL)
  have hsz : ((s.heap.push (seqObj "list" #[] 0)).update s.heap.objs.size (Obj.mapSeq (· ++ vs.toArray))).objs.size = s.heap.objs.size + 1 := by
    rw [Heap.size_update, size_push']
  show wpAny _ _ _ _ _ { s with heap := copyHeap s.heap vs }
  rw [hsz]
  refine wpAny_bind (wpAny_holding (wpAny_call_entry_kw slot_list_sort ⟨_, copyHeap_at s.heap vs, rfl⟩ entry_list_sort ?body (ha2 _)))
  case body =>
    show wpAny (model prog w) A.in1.in1 (Builtin.«list.sort» ⟨[.ref (s.heap.objs.size + 1)], []⟩) _ _ _
    refine wpAny_mono (body _) (fun f s' hf => ?_) fun _ _ e => e
    obtain ⟨rfl, hq⟩ := hf
    exact ⟨_, rfl, wpAny_pure ⟨_, rfl, hq⟩⟩
theorem sorted_dataT {β : Type} {vs : List Value} {bs : List β} {enc : β → PyData} {R : Value → β → Prop} {l : Addr} {Q : Value → Shared → Prop} {o : Obj} {n : Nat} (ho : s.heap.get? l = some o) (hc : o.cls = .type "tuple") (hd : o.data = .seq vs.toArray n) (e : EachIs R vs bs) (er : EachIs (fun v b => ∃ as, Reads s.heap v (enc b) as) vs bs) (hal : AllAlike (bs.map enc)) (hk : Sortable (bs.map enc)) (hL : bs.length ≤ sizeLine)
    (hu : ∀ b, b ∈ bs → A.units + 2 + (enc b).depth < cLine) (h : ∀ out, out.length = bs.length → EachIs R out (bs.mergeSort (dataLe false enc)) → Q (.ref (s.heap.objs.size + 1)) { s with heap := sortedAll s.heap vs (List.toArray out) }) :
    wpAny (model prog w) A (call (.builtin "sorted") [.ref l]) Q E s := by
  have er' : EachIs (fun v b => ∃ as, Reads (sortingHeap (copyHeap s.heap vs) (s.heap.objs.size + 1) vs) v (enc b) as) vs bs := er.mono fun _ _ ⟨as, r⟩ => ⟨as, PyProof.Rows.Reads.keeps (fun _ _ => sorting_copy_old) r⟩
  have hL' : vs.length ≤ sizeLine := by rw [e.length]; exact hL
  exact sorted_ofT ho hc hd hL' (fun _ => args_list_sort _) fun _ => list_sort_vals (s := { s with heap := copyHeap s.heap vs }) (copyHeap_at s.heap vs) (SortsAt.data (s := { s with heap := sortingHeap (copyHeap s.heap vs) (s.heap.objs.size + 1) vs }) (each_map (R := fun v d => ∃ as, Reads (sortingHeap (copyHeap s.heap vs) (s.heap.objs.size + 1) vs) v d as) enc er') hal hk (bound_map hu)) hL' ⟨rfl, h _ (by rw [sortVals_length false rfl]; exact e.length) (sortVals_data false e er' hal)⟩
end
section
variable {X : Cx}
/-- a tuple of ints, its first one told -/
def TupN (K : PySem.W.Frag) (H : Hp) (v : V) (p : Int × List Int) : Prop := ∃ t, v = .ref t ∧ SqT K H t ((p.1 :: p.2).map V.int)
def lsN (p : Int × List Int) : List Int := p.1 :: p.2
theorem dpAll_ints {K : PySem.W.Frag} {H : Hp} : ∀ ns : List Int, DpAll K H (ns.map V.int) (ns.map PyData.int)
  | [] => .nil
  | n :: ns => .cons (.int n) (dpAll_ints ns)
theorem each_refs {R : V → Int × List Int → Prop} : ∀ {xs : List V} {its : List Value} {L : List (Int × List Int)}, Vals xs its → Paired R xs L → (∀ v p, R v p → ∃ t, v = V.ref t) → EachIs (fun u p => ∃ t, u = Value.ref t ∧ R (.ref t) p) its L
  | _, _, _, .nil, .nil, _ => .nil
  | _, _, _, .cons r rs, .cons h t, hR => by
    obtain ⟨a, e⟩ := hR _ _ h
    subst e
    cases r
    exact .cons ⟨a, rfl, h⟩ (each_refs rs t hR)
theorem refs_each {R : V → Int × List Int → Prop} : ∀ {out : List Value} {L : List (Int × List Int)}, EachIs (fun u p => ∃ t, u = Value.ref t ∧ R (.ref t) p) out L → ∃ ys, Vals ys out ∧ Paired R ys L
  | _, _, .nil => ⟨[], .nil, .nil⟩
  | _, _, .cons ⟨t, e, h⟩ r => by
    obtain ⟨ys, h1, h2⟩ := refs_each r
    subst e
    exact ⟨.ref t :: ys, .cons rfl h1, .cons h h2⟩
/-- sorted(xs) of tuples of ints: the same, ascending -/
def rSortD (K : PySem.W.Frag) : List V → Hp → VK → Prop := fun vs H Q => ∃ (a : Addr) (xs : List V) (L : List (Int × List Int)), vs = [.ref a] ∧ SqL K H a xs ∧ Paired (TupN K H) xs L ∧ xs.length ≤ 1000 ∧
  ∀ (ys : List V) (L' : List (Int × List Int)) (p : Addr), L'.Perm L → L'.Pairwise (fun x y => lsN x ≤ lsN y) → Paired (TupN K H) ys L' → H p = none → Q (.ref p) (upd H p (.lst ys))
theorem le_trans' (a b c : Int × List Int) (h1 : decide (lsN a ≤ lsN b) = true) (h2 : decide (lsN b ≤ lsN c) = true) : decide (lsN a ≤ lsN c) = true := decide_eq_true (List.le_trans (of_decide_eq_true h1) (of_decide_eq_true h2))
theorem le_total' (a b : Int × List Int) : (decide (lsN a ≤ lsN b) || decide (lsN b ≤ lsN a)) = true := by
  rcases List.le_total (lsN a) (lsN b) with h | h
  · simp [h]
  · simp [h]
theorem depth_tupN (p : Int × List Int) : (PyData.tuple ((lsN p).map PyData.int)).depth = 1 := by
  show PyData.depthAll ((lsN p).map PyData.int) + 1 = 1
  rw [depth_ints]
theorem cr_sortD (hu : X.A.units + 64 < cLine) : CallR X (.builtin "sorted") (rSortD X.K) := by
  intro pins s σ H vs us Q I r h
  obtain ⟨a, xs, L, rfl, hs, hp, hlen, q⟩ := h
  obtain ⟨its, rv, hl, hz⟩ := I.list hs
  obtain ⟨u, rfl, ru⟩ := vals1 r
  obtain rfl : u = Value.ref a := ru
  have lx := Paired.length hp
  have e := each_refs rv hp fun v p ⟨t, e, _⟩ => ⟨t, e⟩
  have er : EachIs (fun v (p : Int × List Int) => ∃ as, Reads s.heap v (PyData.tuple ((lsN p).map PyData.int)) as) its L := by
    refine e.mono fun u p hu => ?_
    obtain ⟨t, e1, t', e2, h⟩ := hu
    cases e2
    exact Dp.reads I _ _ _ (.tup h (dpAll_ints _)) (by rw [e1]; rfl)
  have hal : AllAlike (L.map fun p => PyData.tuple ((lsN p).map PyData.int)) := AllAlike.of fun b b' => alike_ints (lsN b) (lsN b')
  have hsr : Sortable (L.map fun p => PyData.tuple ((lsN p).map PyData.int)) := Sortable.tuples fun b => ⟨.int b.1, b.2.map PyData.int, rfl⟩
  refine sorted_data (enc := fun p => PyData.tuple ((lsN p).map PyData.int)) hl.isList e er hal hsr (by rw [← lx]; exact hz) (fun b _ => by rw [depth_tupN]; omega) fun out hl' eo => ?_
  · obtain ⟨ys, rys, hys⟩ := refs_each eo
    have ele : dataLe false (fun p : Int × List Int => PyData.tuple ((lsN p).map PyData.int)) = fun p q => decide (lsN p ≤ lsN q) := dataLe_rows lsN
    have hpm := List.mergeSort_perm L (dataLe false fun p : Int × List Int => PyData.tuple ((lsN p).map PyData.int))
    have hso : (L.mergeSort (dataLe false fun p : Int × List Int => PyData.tuple ((lsN p).map PyData.int))).Pairwise (fun x y => lsN x ≤ lsN y) := by
      rw [ele]
      refine (List.pairwise_mergeSort le_trans' le_total' L).imp fun h => of_decide_eq_true h
    obtain ⟨ep, he'⟩ := PyProof.Rows.sortedAll_at s.heap its (List.toArray out)
    have hlen2 : ys.length ≤ sizeLine := by
      have h1 := Paired.length hys
      rw [h1, hpm.length_eq, ← lx]
      exact hz
    exact ⟨.ref _, upd H (s.heap.objs.size + 1) (.lst ys), I.laid (t' := s.toks) (fun _ _ => PyProof.Rows.sortedAll_old) (Nat.le_succ _) ⟨hlen2, out, ep, rys, he'⟩, rfl, q ys _ _ hpm hso hys (I.hok.fresh (Nat.le_succ _))⟩
/-- sorted(t) of a tuple of ints: a list of the same, ascending -/
def rSortTI (K : PySem.W.Frag) : List V → Hp → VK → Prop := fun vs H Q => ∃ (a : Addr) (ns : List Int), vs = [.ref a] ∧ SqT K H a (ns.map V.int) ∧
  ∀ (ns' : List Int) (p : Addr), ns'.Perm ns → ns'.Pairwise (· ≤ ·) → H p = none → Q (.ref p) (upd H p (.lst (ns'.map V.int)))
theorem each_ints : ∀ {ns : List Int} {its : List Value}, Vals (ns.map V.int) its → EachIs (fun u (n : Int) => ∃ t, u = Value.int n t) its ns
  | [], _, .nil => .nil
  | n :: ns, _, .cons r rs => .cons r (each_ints rs)
theorem ints_each : ∀ {ns : List Int} {its : List Value}, EachIs (fun u (n : Int) => ∃ t, u = Value.int n t) its ns → Vals (ns.map V.int) its
  | _, _, .nil => .nil
  | _, _, .cons r rs => .cons r (ints_each rs)
theorem cr_sortTI (hu : X.A.units + 64 < cLine) : CallR X (.builtin "sorted") (rSortTI X.K) := by
  intro pins s σ H vs us Q I r h
  obtain ⟨a, ns, rfl, hs, q⟩ := h
  obtain ⟨its, rv, ⟨o, ho, hc, n, hd⟩, hz⟩ := I.tuple hs
  obtain ⟨u, rfl, ru⟩ := vals1 r
  obtain rfl : u = Value.ref a := ru
  have e := each_ints rv
  rw [List.length_map] at hz
  refine sorted_dataT (enc := fun n : Int => PyData.int n) ho hc hd e (e.mono fun u n ⟨t, e⟩ => ⟨_, by rw [e]; exact Reads.int n t⟩) (AllAlike.of fun b b' => rfl) (Sortable.others fun b => ⟨(fun z => by cases z), fun xs z => by cases z⟩) hz (fun b _ => ?_) fun out hl' eo => ?_
  · show X.A.units + 2 + 0 < cLine
    omega
  · have ele : dataLe false (fun n : Int => PyData.int n) = fun a b => decide (a ≤ b) := dataLe_int fun n => n
    have hpm := List.mergeSort_perm ns (dataLe false fun n : Int => PyData.int n)
    have hso : (ns.mergeSort (dataLe false fun n : Int => PyData.int n)).Pairwise (· ≤ ·) := by
      rw [ele]
      refine (List.pairwise_mergeSort (le := fun a b : Int => decide (a ≤ b)) (fun a b c h1 h2 => decide_eq_true (Int.le_trans (of_decide_eq_true h1) (of_decide_eq_true h2))) (fun a b => by rcases Int.le_total a b with h | h <;> simp [h]) ns).imp fun h => of_decide_eq_true h
    obtain ⟨ep, he'⟩ := PyProof.Rows.sortedAll_at s.heap its (List.toArray out)
    have hlen2 : ((ns.mergeSort (dataLe false fun n : Int => PyData.int n)).map V.int).length ≤ sizeLine := by
      rw [List.length_map, hpm.length_eq]
      exact hz
    exact ⟨.ref _, upd H (s.heap.objs.size + 1) (.lst ((ns.mergeSort (dataLe false fun n : Int => PyData.int n)).map V.int)), I.laid (t' := s.toks) (fun _ _ => PyProof.Rows.sortedAll_old) (Nat.le_succ _) ⟨hlen2, out, ep, ints_each eo, he'⟩, rfl, q _ _ hpm hso (I.hok.fresh (Nat.le_succ _))⟩
/-- x < y of data that are alike -/
def rLtD (K : PySem.W.Frag) : R2 := fun x y H Q => ∃ da db, Dp K H x da ∧ Dp K H y db ∧ alike da db = true ∧ da ≠ .none ∧ da.depth ≤ 60 ∧ Q (.bl (dataLt da db)) H
theorem op_ltD (hu : X.A.units + 64 < cLine) : OpR X (compareOp .Lt) (rLtD X.K) := by
  intro pins s σ H x y v u Q I rx ry h
  obtain ⟨d, e, hd, he, al, hn, hdep, q⟩ := h
  obtain ⟨as, r1⟩ := Dp.reads I d x v hd rx
  obtain ⟨bs, r2⟩ := Dp.reads I e y u he ry
  exact lt_data r1 r2 al hn (by omega) ⟨.bl _, H, I, rfl, q⟩
end
end My
namespace My
open PySem PySem.Spec PyProof.Rows L2
theorem op_notInK {K : PySem.W.Frag} {X : Cx} (h : X.K = K) : OpR X (compareOp .NotIn) (rIn K true) := h ▸ op_notIn_seq
end My

namespace My
open PySem PySem.Spec PyProof.Rows L2
def topS (i : Nat) : Stmt := PySem.Challenge.pw_rootstalls_k08_whole_pieces.main.body.getD i (.Pass ⟨0, 0, 0, 0⟩)
abbrev s_is_integer : Stmt := topS 7
abbrev N_is_integer : List Str := ["thing"]
theorem sc_is_integer : FnScope N_is_integer ["thing"] (defScope s_is_integer) := ⟨rfl, rfl, rfl, by decide +kernel, rfl, by decide +kernel, by decide +kernel⟩
abbrev s_is_row : Stmt := topS 8
abbrev N_is_row : List Str := ["thing"]
theorem sc_is_row : FnScope N_is_row ["thing"] (defScope s_is_row) := ⟨rfl, rfl, rfl, by decide +kernel, rfl, by decide +kernel, by decide +kernel⟩
abbrev s_is_fraction : Stmt := topS 9
abbrev N_is_fraction : List Str := ["thing", "top", "bottom"]
theorem sc_is_fraction : FnScope N_is_fraction ["thing"] (defScope s_is_fraction) := ⟨rfl, rfl, rfl, by decide +kernel, rfl, by decide +kernel, by decide +kernel⟩
abbrev s_is_some : Stmt := topS 10
abbrev N_is_some : List Str := ["thing"]
theorem sc_is_some : FnScope N_is_some ["thing"] (defScope s_is_some) := ⟨rfl, rfl, rfl, by decide +kernel, rfl, by decide +kernel, by decide +kernel⟩
abbrev s_multiplied : Stmt := topS 11
abbrev N_multiplied : List Str := ["one", "other", "left", "right"]
theorem sc_multiplied : FnScope N_multiplied ["one", "other"] (defScope s_multiplied) := ⟨rfl, rfl, rfl, by decide +kernel, rfl, by decide +kernel, by decide +kernel⟩
abbrev s_squared : Stmt := topS 12
abbrev N_squared : List Str := ["one"]
theorem sc_squared : FnScope N_squared ["one"] (defScope s_squared) := ⟨rfl, rfl, rfl, by decide +kernel, rfl, by decide +kernel, by decide +kernel⟩
abbrev s_is_stall : Stmt := topS 16
abbrev N_is_stall : List Str := ["wares", "thing", "one", "other", "kept", "other_kept", "root", "ware"]
theorem sc_is_stall : FnScope N_is_stall ["wares", "thing"] (defScope s_is_stall) := ⟨rfl, rfl, rfl, by decide +kernel, rfl, by decide +kernel, by decide +kernel⟩
abbrev s_is_ware : Stmt := topS 18
abbrev N_is_ware : List Str := ["web", "thing"]
theorem sc_is_ware : FnScope N_is_ware ["web", "thing"] (defScope s_is_ware) := ⟨rfl, rfl, rfl, by decide +kernel, rfl, by decide +kernel, by decide +kernel⟩
abbrev s_check_ware : Stmt := topS 19
abbrev N_check_ware : List Str := ["web", "ware"]
theorem sc_check_ware : FnScope N_check_ware ["web", "ware"] (defScope s_check_ware) := ⟨rfl, rfl, rfl, by decide +kernel, rfl, by decide +kernel, by decide +kernel⟩
abbrev s_across : Stmt := topS 20
abbrev N_across : List Str := ["stall", "ware"]
theorem sc_across : FnScope N_across ["stall", "ware"] (defScope s_across) := ⟨rfl, rfl, rfl, by decide +kernel, rfl, by decide +kernel, by decide +kernel⟩
abbrev s_stalls_of : Stmt := topS 21
abbrev N_stalls_of : List Str := ["ware", "stalls", "stall"]
theorem sc_stalls_of : FnScope N_stalls_of ["ware", "stalls"] (defScope s_stalls_of) := ⟨rfl, rfl, rfl, by decide +kernel, rfl, by decide +kernel, by decide +kernel⟩
abbrev s_neighbours : Stmt := topS 22
abbrev N_neighbours : List Str := ["web", "ware", "stall"]
theorem sc_neighbours : FnScope N_neighbours ["web", "ware"] (defScope s_neighbours) := ⟨rfl, rfl, rfl, by decide +kernel, rfl, by decide +kernel, by decide +kernel⟩
abbrev s_joined : Stmt := topS 23
abbrev N_joined : List Str := ["firsts", "stall", "both", "first"]
theorem sc_joined : FnScope N_joined ["firsts", "stall"] (defScope s_joined) := ⟨rfl, rfl, rfl, by decide +kernel, rfl, by decide +kernel, by decide +kernel⟩
abbrev s_pieces : Stmt := topS 24
abbrev N_pieces : List Str := ["web", "firsts", "stall", "ware", "lead"]
theorem sc_pieces : FnScope N_pieces ["web"] (defScope s_pieces) := ⟨rfl, rfl, rfl, by decide +kernel, rfl, by decide +kernel, by decide +kernel⟩
abbrev s_l_deck : Stmt := topS 26
abbrev N_l_deck : List Str := ["_law_script", "_law_cell"]
theorem sc_l_deck : FnScope N_l_deck ["_law_script"] (defScope s_l_deck) := ⟨rfl, rfl, rfl, by decide +kernel, rfl, by decide +kernel, by decide +kernel⟩
abbrev s_l_pick : Stmt := topS 27
abbrev N_l_pick : List Str := ["_law_deck_here", "_law_many", "_law_found", "_law_cells", "_law_cell", "_law_number"]
theorem sc_l_pick : FnScope N_l_pick ["_law_deck_here", "_law_many"] (defScope s_l_pick) := ⟨rfl, rfl, rfl, by decide +kernel, rfl, by decide +kernel, by decide +kernel⟩
abbrev s_l_pairs : Stmt := topS 28
abbrev N_l_pairs : List Str := ["_law_deck_here", "_law_wares", "_law_found", "_law_turn", "_law_one", "_law_other"]
theorem sc_l_pairs : FnScope N_l_pairs ["_law_deck_here", "_law_wares"] (defScope s_l_pairs) := ⟨rfl, rfl, rfl, by decide +kernel, rfl, by decide +kernel, by decide +kernel⟩
abbrev s_l_stalls : Stmt := topS 29
abbrev N_l_stalls : List Str := ["_law_deck_here", "_law_pairs_here", "_law_found", "_law_one", "_law_other", "_law_root"]
theorem sc_l_stalls : FnScope N_l_stalls ["_law_deck_here", "_law_pairs_here"] (defScope s_l_stalls) := ⟨rfl, rfl, rfl, by decide +kernel, rfl, by decide +kernel, by decide +kernel⟩
abbrev s_l_due : Stmt := topS 30
abbrev N_l_due : List Str := ["_law_wares", "_law_pairs_here", "_law_names", "_law_turn", "_law_one", "_law_other", "_law_least", "_law_found", "_law_ware"]
theorem sc_l_due : FnScope N_l_due ["_law_wares", "_law_pairs_here"] (defScope s_l_due) := ⟨rfl, rfl, rfl, by decide +kernel, rfl, by decide +kernel, by decide +kernel⟩
abbrev s_l_is_told : Stmt := topS 31
abbrev N_l_is_told : List Str := ["_law_web", "_law_due_here", "_law_found", "_law_piece", "_law_ware"]
theorem sc_l_is_told : FnScope N_l_is_told ["_law_web", "_law_due_here"] (defScope s_l_is_told) := ⟨rfl, rfl, rfl, by decide +kernel, rfl, by decide +kernel, by decide +kernel⟩
abbrev s_law : Stmt := topS 32
abbrev N_law : List Str := ["_law_script", "_law_deck_here", "_law_turn", "_law_wares", "_law_pairs_here", "_law_stalls_here", "_law_web", "_law_due_here", "_law_piece", "_law_ware", "_law_other", "_law_one", "_law_more", "_law_mine", "_law_rest", "_law_whole"]
theorem sc_law : FnScope N_law ["_law_script"] (defScope s_law) := ⟨rfl, rfl, rfl, by decide +kernel, rfl, by decide +kernel, by decide +kernel⟩
abbrev s_Web_init : Stmt := inClass (topS 17) 0
abbrev N_Web_init : List Str := ["self", "wares", "stalls", "index", "stall"]
theorem sc_Web_init : FnScope N_Web_init ["self", "wares", "stalls"] (defScope s_Web_init) := ⟨rfl, rfl, rfl, by decide +kernel, rfl, by decide +kernel, by decide +kernel⟩
abbrev s_Web_eq : Stmt := inClass (topS 17) 1
abbrev N_Web_eq : List Str := ["self", "other"]
theorem sc_Web_eq : FnScope N_Web_eq ["self", "other"] (defScope s_Web_eq) := ⟨rfl, rfl, rfl, by decide +kernel, rfl, by decide +kernel, by decide +kernel⟩
structure Txt (K : PySem.W.Frag) (mg : Str → Option Value) (f_is_integer f_is_row f_is_fraction f_is_some f_multiplied f_squared f_is_stall f_is_ware f_check_ware f_across f_stalls_of f_neighbours f_joined f_pieces f_l_deck f_l_pick f_l_pairs f_l_stalls f_l_due f_l_is_told f_law f_Web_init f_Web_eq c_BadWare c_Web : Addr) (d_is_integer d_is_row d_is_fraction d_is_some d_multiplied d_squared d_is_stall d_is_ware d_check_ware d_across d_stalls_of d_neighbours d_joined d_pieces d_l_deck d_l_pick d_l_pairs d_l_stalls d_l_due d_l_is_told d_law d_Web_init d_Web_eq : FuncData) : Prop where
  z_all : mg "all" = none
  z_any : mg "any" = none
  z_bool : mg "bool" = none
  z_enumerate : mg "enumerate" = none
  z_int : mg "int" = none
  z_isinstance : mg "isinstance" = none
  z_len : mg "len" = none
  z_list : mg "list" = none
  z_min : mg "min" = none
  z_range : mg "range" = none
  z_set : mg "set" = none
  z_sorted : mg "sorted" = none
  z_sum : mg "sum" = none
  z_tuple : mg "tuple" = none
  m_gcd : mg "gcd" = some (.builtin "math.gcd")
  c_BadWare : ExC K mg "BadWare" c_BadWare
  w_Web : WebC K mg "Web" c_Web f_Web_init
  n_Web_wares : NoAttr K c_Web "wares"
  n_Web_stalls : NoAttr K c_Web "stalls"
  v_MOST_STALLS : ∃ u, mg "MOST_STALLS" = some u ∧ RelV (.int 16) u
  v_MOST_WARES : ∃ u, mg "MOST_WARES" = some u ∧ RelV (.int 8) u
  g_is_integer : mg "is_integer" = some (.ref f_is_integer)
  F_is_integer : Fun K "is_integer" "is_integer" s_is_integer f_is_integer d_is_integer
  k_is_integer : PySem.W.keepIn K (.ref f_is_integer) = true
  b_is_integer : Binds K d_is_integer ["thing"] []
  g_is_row : mg "is_row" = some (.ref f_is_row)
  F_is_row : Fun K "is_row" "is_row" s_is_row f_is_row d_is_row
  k_is_row : PySem.W.keepIn K (.ref f_is_row) = true
  b_is_row : Binds K d_is_row ["thing"] []
  g_is_fraction : mg "is_fraction" = some (.ref f_is_fraction)
  F_is_fraction : Fun K "is_fraction" "is_fraction" s_is_fraction f_is_fraction d_is_fraction
  k_is_fraction : PySem.W.keepIn K (.ref f_is_fraction) = true
  b_is_fraction : Binds K d_is_fraction ["thing"] []
  g_is_some : mg "is_some" = some (.ref f_is_some)
  F_is_some : Fun K "is_some" "is_some" s_is_some f_is_some d_is_some
  k_is_some : PySem.W.keepIn K (.ref f_is_some) = true
  b_is_some : Binds K d_is_some ["thing"] []
  g_multiplied : mg "multiplied" = some (.ref f_multiplied)
  F_multiplied : Fun K "multiplied" "multiplied" s_multiplied f_multiplied d_multiplied
  k_multiplied : PySem.W.keepIn K (.ref f_multiplied) = true
  b_multiplied : Binds K d_multiplied ["one", "other"] []
  g_squared : mg "squared" = some (.ref f_squared)
  F_squared : Fun K "squared" "squared" s_squared f_squared d_squared
  k_squared : PySem.W.keepIn K (.ref f_squared) = true
  b_squared : Binds K d_squared ["one"] []
  g_is_stall : mg "is_stall" = some (.ref f_is_stall)
  F_is_stall : Fun K "is_stall" "is_stall" s_is_stall f_is_stall d_is_stall
  k_is_stall : PySem.W.keepIn K (.ref f_is_stall) = true
  b_is_stall : Binds K d_is_stall ["wares", "thing"] []
  g_is_ware : mg "is_ware" = some (.ref f_is_ware)
  F_is_ware : Fun K "is_ware" "is_ware" s_is_ware f_is_ware d_is_ware
  k_is_ware : PySem.W.keepIn K (.ref f_is_ware) = true
  b_is_ware : Binds K d_is_ware ["web", "thing"] []
  g_check_ware : mg "check_ware" = some (.ref f_check_ware)
  F_check_ware : Fun K "check_ware" "check_ware" s_check_ware f_check_ware d_check_ware
  k_check_ware : PySem.W.keepIn K (.ref f_check_ware) = true
  b_check_ware : Binds K d_check_ware ["web", "ware"] []
  g_across : mg "across" = some (.ref f_across)
  F_across : Fun K "across" "across" s_across f_across d_across
  k_across : PySem.W.keepIn K (.ref f_across) = true
  b_across : Binds K d_across ["stall", "ware"] []
  g_stalls_of : mg "stalls_of" = some (.ref f_stalls_of)
  F_stalls_of : Fun K "stalls_of" "stalls_of" s_stalls_of f_stalls_of d_stalls_of
  k_stalls_of : PySem.W.keepIn K (.ref f_stalls_of) = true
  b_stalls_of : Binds K d_stalls_of ["ware", "stalls"] []
  g_neighbours : mg "neighbours" = some (.ref f_neighbours)
  F_neighbours : Fun K "neighbours" "neighbours" s_neighbours f_neighbours d_neighbours
  k_neighbours : PySem.W.keepIn K (.ref f_neighbours) = true
  b_neighbours : Binds K d_neighbours ["web", "ware"] []
  g_joined : mg "joined" = some (.ref f_joined)
  F_joined : Fun K "joined" "joined" s_joined f_joined d_joined
  k_joined : PySem.W.keepIn K (.ref f_joined) = true
  b_joined : Binds K d_joined ["firsts", "stall"] []
  g_pieces : mg "pieces" = some (.ref f_pieces)
  F_pieces : Fun K "pieces" "pieces" s_pieces f_pieces d_pieces
  k_pieces : PySem.W.keepIn K (.ref f_pieces) = true
  b_pieces : Binds K d_pieces ["web"] []
  g_l_deck : mg "_law_deck" = some (.ref f_l_deck)
  F_l_deck : Fun K "_law_deck" "_law_deck" s_l_deck f_l_deck d_l_deck
  k_l_deck : PySem.W.keepIn K (.ref f_l_deck) = true
  b_l_deck : Binds K d_l_deck ["_law_script"] []
  g_l_pick : mg "_law_pick" = some (.ref f_l_pick)
  F_l_pick : Fun K "_law_pick" "_law_pick" s_l_pick f_l_pick d_l_pick
  k_l_pick : PySem.W.keepIn K (.ref f_l_pick) = true
  b_l_pick : Binds K d_l_pick ["_law_deck_here", "_law_many"] []
  g_l_pairs : mg "_law_pairs" = some (.ref f_l_pairs)
  F_l_pairs : Fun K "_law_pairs" "_law_pairs" s_l_pairs f_l_pairs d_l_pairs
  k_l_pairs : PySem.W.keepIn K (.ref f_l_pairs) = true
  b_l_pairs : Binds K d_l_pairs ["_law_deck_here", "_law_wares"] []
  g_l_stalls : mg "_law_stalls" = some (.ref f_l_stalls)
  F_l_stalls : Fun K "_law_stalls" "_law_stalls" s_l_stalls f_l_stalls d_l_stalls
  k_l_stalls : PySem.W.keepIn K (.ref f_l_stalls) = true
  b_l_stalls : Binds K d_l_stalls ["_law_deck_here", "_law_pairs_here"] []
  g_l_due : mg "_law_due" = some (.ref f_l_due)
  F_l_due : Fun K "_law_due" "_law_due" s_l_due f_l_due d_l_due
  k_l_due : PySem.W.keepIn K (.ref f_l_due) = true
  b_l_due : Binds K d_l_due ["_law_wares", "_law_pairs_here"] []
  g_l_is_told : mg "_law_is_told" = some (.ref f_l_is_told)
  F_l_is_told : Fun K "_law_is_told" "_law_is_told" s_l_is_told f_l_is_told d_l_is_told
  k_l_is_told : PySem.W.keepIn K (.ref f_l_is_told) = true
  b_l_is_told : Binds K d_l_is_told ["_law_web", "_law_due_here"] []
  g_law : mg "law" = some (.ref f_law)
  F_law : Fun K "law" "law" s_law f_law d_law
  k_law : PySem.W.keepIn K (.ref f_law) = true
  b_law : Binds K d_law ["_law_script"] []
  F_Web_init : Fun K "__init__" "Web.__init__" s_Web_init f_Web_init d_Web_init
  b_Web_init : Binds K d_Web_init ["self", "wares", "stalls"] []
  F_Web_eq : Fun K "__eq__" "Web.__eq__" s_Web_eq f_Web_eq d_Web_eq
  b_Web_eq : Binds K d_Web_eq ["self", "other"] []
  i_Web_eq : PySem.W.findIn K (.ref c_Web) "__eq__" = some (some (.ref f_Web_eq))
  fn_Web_eq : PySem.W.isFn K (.ref f_Web_eq) = true
  ne_Web : PySem.W.findIn K (.ref c_Web) "__ne__" = some (some (.builtin "object.__ne__"))
end My
/-! the steps of a reading, one after another; side conditions come last -/
local macro_rules | `(tactic| walk_at "hp") => `(tactic| (repeat (first | (with_reducible assumption) | (with_reducible exact L2.upd_same) | (refine (L2.upd_ne (by first | assumption | (apply Ne.symm; assumption))).trans ?_))))
local macro_rules | `(tactic| walk_at "sd") => `(tactic| first | assumption | decide | omega | (exact My.cpow_of (by decide)) | (exact My.cdivx (b := 64) (by decide) (by decide) (by decide)) | (exact My.cdivx (by omega) (by assumption) (by decide)))
local macro_rules | `(tactic| walk_at "rX") => `(tactic| fail)
local macro_rules | `(tactic| walk_at "rV") => `(tactic| first
  | (with_reducible refine My.rd_C ?_)
  | ((with_reducible refine' My.rd_var ?k1 ?_); (case k1 => rfl))
  | (with_reducible refine My.rd_op ?_) | (with_reducible refine My.rd_cons ?_) | (with_reducible refine My.rd_nil ?_) | (with_reducible refine My.rd_CB ?_) | (with_reducible refine My.rd_call ?_)
  | (with_reducible refine My.rd_rI0 ?_)
  | (with_reducible refine My.rd_rI ?_ (by walk_at "sd"))
  | (with_reducible refine My.rd_rI ?_ ?_)
  | ((with_reducible refine' My.rd_ixL ?k1 ?k2 ?_); (case k1 => walk_at "hp"); (case k2 => rfl))
  | ((with_reducible refine' My.rd_ixT ?k1 ?k2 ?_); (case k1 => walk_at "hp"); (case k2 => rfl))
  | ((with_reducible refine' My.rd_ixTp ?k1 ?k3 ?k2 ?_); (case k1 => walk_at "tp"); (case k2 => rfl); (case k3 => rfl))
  | (with_reducible refine My.rd_un ?_) | (with_reducible refine My.rd_rU ?_)
  | (with_reducible refine My.rd_eqI ?_) | (with_reducible refine My.rd_neI ?_) | (with_reducible refine My.rd_eqB ?_) | (with_reducible refine My.rd_neB ?_) | (with_reducible refine My.rd_eqS ?_) | (with_reducible refine My.rd_neS ?_)
  | (with_reducible refine My.rd_gcd ?_) | (with_reducible refine My.rd_bits ?_)
  | ((with_reducible refine' My.rd_lenL ?_ ?k1); (case k1 => walk_at "hp"))
  | ((with_reducible refine' My.rd_lenT ?_ ?k1); (case k1 => walk_at "hp"))
  | ((with_reducible refine' My.rd_lenTp ?_ ?k1 ?k3); (case k1 => walk_at "tp"); (case k3 => rfl))
  | (with_reducible refine My.rd_int ?_) | (with_reducible refine My.rd_abs ?_) | (with_reducible refine My.rd_min ?_) | (with_reducible refine My.rd_intB ?_)
  | (with_reducible refine ⟨_, rfl, ?_⟩)
  | (with_reducible refine My.rd_len ?_ rfl)
  | (with_reducible refine My.rd_tup ?_) | (with_reducible refine My.rd_lst ?_)
  | (with_reducible refine My.isi_int_int ?_) | (with_reducible refine My.isi_int_bool ?_) | (with_reducible refine My.isi_bl_bool ?_)
  | ((with_reducible refine' My.isi_tup_tup ?k1 ?_); (case k1 => walk_at "hp"))
  | ((with_reducible refine' My.isi_tp ?k1 ?k3 ?_); (case k1 => walk_at "tp"); (case k3 => rfl))
  | (with_reducible refine My.rd_isBl ?_))
local macro_rules | `(tactic| walk_at "rS") => `(tactic| first
  | (with_reducible refine My.rd_seq ?_) | (with_reducible refine My.rd_next ?_) | (with_reducible refine My.rd_asg ?_) | (with_reducible refine My.rd_gName ?_) | (with_reducible refine My.rd_ret ?_)
  | (with_reducible refine My.rd_ifS ?_) | (with_reducible refine My.rd_test ?_) | (with_reducible refine My.rd_B ?_) | (with_reducible refine My.rd_not ?_) | (with_reducible refine My.rd_and ?_) | (with_reducible refine My.rd_or ?_)
  | (with_reducible refine My.rd_andV ?_) | (with_reducible refine My.rd_orV ?_) | (with_reducible refine My.rd_notV ?_) | (with_reducible refine My.rd_ifE ?_) | (with_reducible refine My.rd_chain ?_)
  | (with_reducible refine My.rd_gSub ?_) | ((with_reducible refine' My.rd_setL ?k1 ?k2 ?_); (case k1 => walk_at "hp"); (case k2 => rfl))
  | ((with_reducible refine' My.rd_gTup ?k1 ?k2 ?_); (case k1 => walk_at "hp"); (case k2 => rfl)) | ((with_reducible refine' My.rd_gTp ?k1 ?k3 ?k2 ?_); (case k1 => walk_at "tp"); (case k2 => rfl); (case k3 => rfl)) | (with_reducible refine My.rd_gCons ?_) | (with_reducible refine My.rd_gNil ?_)
  | (with_reducible refine My.rd_drop ?_) | (with_reducible refine My.rd_for ?_) | (with_reducible refine My.rd_rng1 ?_) | (with_reducible refine My.rd_itL ?_) | (with_reducible refine My.rd_itT ?_)
  | (with_reducible refine My.rd_sl ?_) | (with_reducible refine My.rd_part ?_) | (with_reducible refine My.rd_nopart ?_) | (with_reducible refine My.rd_bm ?_) | (with_reducible refine My.rd_yes ?_) | (with_reducible refine My.rd_lc ?_)
  | (with_reducible refine My.ite_nt ?_) | (with_reducible refine My.ite_nf ?_)
  | (with_reducible refine L2.iteF ?_) | (with_reducible refine L2.iteT ?_))
local macro_rules | `(tactic| walk_at "dc") => `(tactic| first | (with_reducible assumption) | ((with_reducible show _ = _); rfl) | omega | decide)
local macro_rules | `(tactic| walk_at "rI") => `(tactic| first
  | ((with_reducible refine' My.if_T ?k1 ?_); (case k1 => walk_at "dc"))
  | ((with_reducible refine' My.if_F ?k1 ?_); (case k1 => walk_at "dc"))
  | ((with_reducible refine' My.if_nF ?k1 ?_); (case k1 => walk_at "dc"))
  | ((with_reducible refine' My.if_nT ?k1 ?_); (case k1 => walk_at "dc")))
local macro_rules | `(tactic| walk_at "r") => `(tactic| (repeat (first | (walk_at "rV") | (walk_at "rS") | (walk_at "rI") | (walk_at "rX"))))
local macro_rules | `(tactic| walk_at "if") => `(tactic| first | (with_reducible refine My.if_dec (fun h => ?_) (fun h => ?_)) | (with_reducible refine My.if_ndec (fun h => ?_) (fun h => ?_)))
local macro_rules | `(tactic| walk_at "st") => `(tactic| (set_option pp.maxSteps 150 in trace_state))
local macro_rules | `(tactic| walk_at "rX") => `(tactic| first | (with_reducible refine My.rd_callS ?_) | (with_reducible refine My.rd_newK ?_) | (with_reducible refine My.rd_raise1 ?_) | (with_reducible refine My.rd_x1 ?_) | (with_reducible refine My.rd_fldS ?_) | (with_reducible refine My.rd_fld ?_) | (with_reducible refine My.rd_make ?_) | (with_reducible refine My.rd_enum ?_) | (with_reducible refine My.rd_enumX ?_) | (with_reducible refine My.rd_ost ?_) | (with_reducible refine My.rd_xf ?_) | (with_reducible refine My.isi_int_tup ?_))
local macro_rules | `(tactic| walk_at "sm") => `(tactic| first | (with_reducible assumption) | (with_reducible exact L2.Same.refl _) | ((with_reducible refine L2.Same.trans ?_ (by with_reducible assumption)); walk_at "sm"))
local macro_rules | `(tactic| walk_at "tp") => `(tactic| first | (with_reducible assumption) | ((with_reducible refine My.Tp.same ?_ (by with_reducible assumption)); walk_at "sm"))
local macro_rules | `(tactic| walk_at "hp") => `(tactic| ((with_reducible refine My.at_same ?_ (by with_reducible assumption)); walk_at "sm"))
local macro_rules | `(tactic| walk_at "kp") => `(tactic| first | (with_reducible assumption) | ((with_reducible refine My.IsF.same ?_ (by with_reducible assumption)); walk_at "sm") | ((with_reducible refine My.IsSt.same ?_ (by with_reducible assumption)); walk_at "sm") | ((with_reducible refine My.IsWeb.same ?_ (by with_reducible assumption)); walk_at "sm") | ((with_reducible refine My.IsMv.same ?_ (by with_reducible assumption)); walk_at "sm") | ((with_reducible refine My.Sts.same ?_ (by with_reducible assumption)); walk_at "sm") | ((with_reducible refine My.Tp.same ?_ (by with_reducible assumption)); walk_at "sm") | ((with_reducible refine My.at_same ?_ (by with_reducible assumption)); walk_at "sm"))
namespace My
open PySem PySem.Spec PyProof.Rows L2
section
variable {P : Program} {w : World} {K : PySem.W.Frag} {mg : Str → Option Value} {base : Heap} {f_is_integer f_is_row f_is_fraction f_is_some f_multiplied f_squared f_is_stall f_is_ware f_check_ware f_across f_stalls_of f_neighbours f_joined f_pieces f_l_deck f_l_pick f_l_pairs f_l_stalls f_l_due f_l_is_told f_law f_Web_init f_Web_eq c_BadWare c_Web : Addr} {d_is_integer d_is_row d_is_fraction d_is_some d_multiplied d_squared d_is_stall d_is_ware d_check_ware d_across d_stalls_of d_neighbours d_joined d_pieces d_l_deck d_l_pick d_l_pairs d_l_stalls d_l_due d_l_is_told d_law d_Web_init d_Web_eq : FuncData}
def sp_pick (M : Nat) : Sp := fun vs H Q _ => ∃ (D C : Addr) (many : Int) (c : Nat), vs = [.ref D, .int many] ∧ (0 < many ∧ many.natAbs < 2 ^ 64) ∧ Deck M D C H c ∧ c ≤ 2 ^ 40 ∧
  ∀ H' r, Fw D H H' → Deck M D C H' (c + 1) → 0 ≤ r → r < many → Q (.int r) H'
theorem ok_pick {M : Nat} (hM : 64 ≤ M) (hM2 : M ≤ 1048576) (T : Txt K mg f_is_integer f_is_row f_is_fraction f_is_some f_multiplied f_squared f_is_stall f_is_ware f_check_ware f_across f_stalls_of f_neighbours f_joined f_pieces f_l_deck f_l_pick f_l_pairs f_l_stalls f_l_due f_l_is_told f_law f_Web_init f_Web_eq c_BadWare c_Web d_is_integer d_is_row d_is_fraction d_is_some d_multiplied d_squared d_is_stall d_is_ware d_check_ware d_across d_stalls_of d_neighbours d_joined d_pieces d_l_deck d_l_pick d_l_pairs d_l_stalls d_l_due d_l_is_told d_law d_Web_init d_Web_eq) : FnOk P w K mg base CX0 1 f_l_pick d_l_pick ["_law_deck_here", "_law_many"] (sp_pick M) := by
  refine T.F_l_pick.ok sc_l_pick (fun vs H Q E h => ?_) (fun cdv A outer s H vs Q E hr h => ?_)
  · obtain ⟨D, C, many, c, rfl, _⟩ := h
    rfl
  · obtain ⟨D, C, many, c, rfl, ⟨hm0, hm1⟩, ⟨cells, pl, rest, cnt, hCD, hD, hC, hlen, hb, ⟨hr0, hr1⟩, hc0, hc1⟩, hc, q⟩ := h
    have cd : ∀ i : Int, CDivX i many := fun i => cdivx (by omega) hm1 (by decide)
    refine ⟨_, (pss_cons (ps_asg (pe_op op_add (pe_ix ix_list (pv 0) pe_int (fun _ _ => rfl)) pe_int) (pg_sub (pv 0) pe_int set_list))
      (pss_cons (ps_if (pt_cmpR op_gt (pe_ix ix_list (pv 0) pe_int (fun _ _ => rfl)) pe_int (nomark _))
        (pss_cons (ps_set (i := 2) sc_l_pick.nd rfl (by first | exact Or.inl rfl | exact Or.inr rfl) (pe_op op_mod (pe_callTy call_intN (by rfl) T.z_int (by decide +kernel) (pa_cons (pe_ix ix_list (pv 0) pe_int (fun _ _ => rfl)) pa_nil)) (pv 1)))
          (pss_cons (ps_asg (pe_op op_fdivX (pe_callTy call_intN (by rfl) T.z_int (by decide +kernel) (pa_cons (pe_ix ix_list (pv 0) pe_int (fun _ _ => rfl)) pa_nil)) (pv 1)) (pg_sub (pv 0) pe_int set_list))
          (pss_one (ps_ret (pv 2)))))
        pss_nil)
      (pss_cons (ps_set (i := 3) sc_l_pick.nd rfl (by first | exact Or.inl rfl | exact Or.inr rfl) (pe_ix ix_list (pv 0) pe_int (fun _ _ => rfl)))
      (pss_cons (ps_set (i := 4) sc_l_pick.nd rfl (by first | exact Or.inl rfl | exact Or.inr rfl) pe_int)
      (pss_cons (ps_if (pt_cmpR op_gt (pe_callB call_lenN (by rfl) T.z_len (by decide +kernel) (pa_cons (pv 3) pa_nil)) pe_int (nomark _))
        (pss_one (ps_set (i := 4) sc_l_pick.nd rfl (by first | exact Or.inl rfl | exact Or.inr rfl) (pe_ix ix_list (pv 3) (pe_op op_mod (pe_callTy call_intN (by rfl) T.z_int (by decide +kernel) (pa_cons (pe_ix ix_list (pv 0) pe_int (fun _ _ => rfl)) pa_nil)) (pe_callB call_lenN (by rfl) T.z_len (by decide +kernel) (pa_cons (pv 3) pa_nil))) (fun _ _ => rfl))))
        pss_nil)
      (pss_cons (ps_asg (pe_op op_add (pe_ix ix_list (pv 0) pe_int (fun _ _ => rfl)) pe_int) (pg_sub (pv 0) pe_int set_list))
      (pss_cons (ps_if (PW.pt (pw_and (pt_cmpR op_ge (pv 4) (pe_op op_pow pe_int pe_int) (nomark _)) (pw_and1 (pt_cmpR op_le (pe_ix ix_list (pv 0) pe_int (fun _ _ => rfl)) (pe_callB call_lenN (by rfl) T.z_len (by decide +kernel) (pa_cons (pv 3) pa_nil)) (nomark _)))))
        (pss_cons (ps_asg (pe_op op_fdivX (pe_callTy call_intN (by rfl) T.z_int (by decide +kernel) (pa_cons (pv 4) pa_nil)) (pv 1)) (pg_sub (pv 0) pe_int set_list))
          (pss_one (ps_ret (pe_op op_mod (pe_callTy call_intN (by rfl) T.z_int (by decide +kernel) (pa_cons (pv 4) pa_nil)) (pv 1)))))
        pss_nil)
      (pss_cons (ps_set (i := 5) sc_l_pick.nd rfl (by first | exact Or.inl rfl | exact Or.inr rfl) (pe_op op_mod (pe_op op_mulX (pe_callTy call_intN (by rfl) T.z_int (by decide +kernel) (pa_cons (pe_op op_add (pe_op op_add (pv 4) (pe_op op_mulX pe_int (pe_ix ix_list (pv 0) pe_int (fun _ _ => rfl)))) pe_int) pa_nil)) pe_int) pe_int))
      (pss_cons (ps_set (i := 5) sc_l_pick.nd rfl (by first | exact Or.inl rfl | exact Or.inr rfl) (pe_op op_mod (pe_op op_mulX (pv 5) (pe_op op_add (pe_op op_fdivX (pv 5) pe_int) pe_int)) pe_int))
      (pss_cons (ps_set (i := 5) sc_l_pick.nd rfl (by first | exact Or.inl rfl | exact Or.inr rfl) (pe_op op_mod (pe_op op_mulX (pv 5) (pe_op op_add (pe_op op_fdivX (pv 5) pe_int) pe_int)) pe_int))
      (pss_one (ps_ret (pe_op op_mod (pv 5) (pv 1)))))))))))))), ?_⟩
    walk_at "r"
    walk_at "if"
    · walk_at "r"
      refine q _ _ (fw_upd.trans fw_upd) ?_ (mod_rng _ hm0).1 (mod_rng _ hm0).2
      exact ⟨cells, pl, rest.fdiv many, cnt + 1, hCD, upd_same, by walk_at "hp", hlen, hb, div_small hr0 hr1 hm0, by omega, by omega⟩
    · walk_at "r"
      have hcl : 0 < (cells.map V.int).length → ∃ z, z ∈ cells ∧ atI (cells.map V.int) (pl % ((cells.map V.int).length : Nat)) = some (.int z) := fun h => at_ints (mod_rng _ (by omega)).1 (mod_rng _ (by omega)).2
      have hz0 : (0 : Int).natAbs < 2 ^ M := Nat.two_pow_pos M
      walk_at "if"
      · obtain ⟨z, hz, ez⟩ := hcl (by omega)
        have hz0 := hb z hz
        walk_at "r"
        refine ⟨_, _, _, .int z, rfl, rfl, SqL.of ?_, ez, ?_⟩
        · walk_at "hp"
        walk_at "r"
        walk_at "if"
        · walk_at "r"
          walk_at "if"
          · walk_at "r"
            have t18 := ten18
            refine q _ _ ((fw_upd.trans fw_upd).trans fw_upd) ?_ (mod_rng _ hm0).1 (mod_rng _ hm0).2
            exact ⟨cells, pl + 1, z.fdiv many, cnt + 1, hCD, upd_same, by walk_at "hp", hlen, hb, div_small (by omega) hz0 hm0, by omega, by omega⟩
          · walk_at "r"
            · refine q _ _ (fw_upd.trans fw_upd) ?_ (mod_rng _ hm0).1 (mod_rng _ hm0).2
              exact ⟨cells, pl + 1, rest, cnt + 1, hCD, upd_same, by walk_at "hp", hlen, hb, ⟨hr0, hr1⟩, by omega, by omega⟩
            · exact pick_mul2 _ (by decide) (by decide) (by decide) (by decide)
            · exact pick_mul2 _ (by decide) (by decide) (by decide) (by decide)
            · exact cmul_big (pw_big hz0 hM hc0 hc1 hc) (by decide) (by omega)
            · exact cmul_small (by decide) (by omega)
        · walk_at "r"
          · refine q _ _ (fw_upd.trans fw_upd) ?_ (mod_rng _ hm0).1 (mod_rng _ hm0).2
            exact ⟨cells, pl + 1, rest, cnt + 1, hCD, upd_same, by walk_at "hp", hlen, hb, ⟨hr0, hr1⟩, by omega, by omega⟩
          · exact pick_mul2 _ (by decide) (by decide) (by decide) (by decide)
          · exact pick_mul2 _ (by decide) (by decide) (by decide) (by decide)
          · exact cmul_big (pw_big hz0 hM hc0 hc1 hc) (by decide) (by omega)
          · exact cmul_small (by decide) (by omega)
      · walk_at "r"
        · refine q _ _ (fw_upd.trans fw_upd) ?_ (mod_rng _ hm0).1 (mod_rng _ hm0).2
          exact ⟨cells, pl + 1, rest, cnt + 1, hCD, upd_same, by walk_at "hp", hlen, hb, ⟨hr0, hr1⟩, by omega, by omega⟩
        · exact pick_mul2 _ (by decide) (by decide) (by decide) (by decide)
        · exact pick_mul2 _ (by decide) (by decide) (by decide) (by decide)
        · exact cmul_big (pw_big hz0 hM hc0 hc1 hc) (by decide) (by omega)
        · exact cmul_small (by decide) (by omega)
end
end My
namespace My
open PySem PySem.Spec PyProof.Rows L2
section
variable {P : Program} {w : World} {K : PySem.W.Frag} {mg : Str → Option Value} {base : Heap} {f_is_integer f_is_row f_is_fraction f_is_some f_multiplied f_squared f_is_stall f_is_ware f_check_ware f_across f_stalls_of f_neighbours f_joined f_pieces f_l_deck f_l_pick f_l_pairs f_l_stalls f_l_due f_l_is_told f_law f_Web_init f_Web_eq c_BadWare c_Web : Addr} {d_is_integer d_is_row d_is_fraction d_is_some d_multiplied d_squared d_is_stall d_is_ware d_check_ware d_across d_stalls_of d_neighbours d_joined d_pieces d_l_deck d_l_pick d_l_pairs d_l_stalls d_l_due d_l_is_told d_law d_Web_init d_Web_eq : FuncData}
def sp_deck (K : PySem.W.Frag) : Sp := fun vs H Q _ => ∃ (a : Addr) (ns : List Int), vs = [.ref a] ∧ SqL K H a (ns.map V.int) ∧ ns.length ≤ 63 ∧ (∀ z ∈ ns, Builtin.Int.intBits z ≤ 1048576) ∧
  ∀ H' D C, Same H H' → Deck 1048576 D C H' 0 → Q (.ref D) H'
theorem ok_l_deck (T : Txt K mg f_is_integer f_is_row f_is_fraction f_is_some f_multiplied f_squared f_is_stall f_is_ware f_check_ware f_across f_stalls_of f_neighbours f_joined f_pieces f_l_deck f_l_pick f_l_pairs f_l_stalls f_l_due f_l_is_told f_law f_Web_init f_Web_eq c_BadWare c_Web d_is_integer d_is_row d_is_fraction d_is_some d_multiplied d_squared d_is_stall d_is_ware d_check_ware d_across d_stalls_of d_neighbours d_joined d_pieces d_l_deck d_l_pick d_l_pairs d_l_stalls d_l_due d_l_is_told d_law d_Web_init d_Web_eq) : FnOk P w K mg base CX0 1 f_l_deck d_l_deck ["_law_script"] (sp_deck K) := by
  refine T.F_l_deck.ok sc_l_deck (fun vs H Q E h => ?_) (fun cdv A outer s H vs Q E hr h => ?_)
  · obtain ⟨a, ns, rfl, _⟩ := h
    rfl
  · obtain ⟨a, ns, rfl, hS, hl, hb, q⟩ := h
    refine ⟨_, (pss_one (ps_ret (pe_lst (pa_cons (pe_lc (own := [("_law_cell", 1)]) (g := gName 1) rfl sc_l_deck.nd (pi_list (pe_slice sl_list (pv 0) po_none (po_some pe_int))) (blkOk_by (own := [("_law_cell", 1)]) (N := N_l_deck) (sc := defScope s_l_deck) (by decide +kernel)) (fun _ _ _ _ _ => (pg_name (i := 1) sc_l_deck.nd rfl (by first | exact Or.inl rfl | exact Or.inr rfl))) (fun _ _ _ _ _ => pts_nil) (fun _ _ _ _ _ => (pe_callTy call_intN (by rfl) T.z_int (by decide +kernel) (pa_cons (pv 1) pa_nil)))) (pa_cons pe_int (pa_cons pe_int (pa_cons pe_int pa_nil))))))), ?_⟩
    walk_at "r"
    refine rd_slL hS (fun p np => ?_)
    refine ⟨_, rfl, ⟨_, .of upd_same⟩, fun D nD => ?_⟩
    have hDp : D ≠ p := fun e => by
      rw [e, upd_same] at nD
      cases nD
    have hcut : cutV (ns.map V.int) none (some 63) = ns.map V.int := cut_all (n := 63) (by rw [List.length_map]; exact hl)
    refine lc_list (K := K) (a := p) (xs := ns.map V.int) (fun i H' => Same H H' ∧ H' p = some (.lst (ns.map V.int)) ∧ H' D = some (.lst ((ns.take i).map V.int))) ?_ ?_ ?_ ?_
    · refine ⟨(same_upd np).trans (same_upd nD), ?_, upd_same⟩
      rw [upd_ne hDp.symm, upd_same, hcut]
    · intro i H' _ h
      exact .of h.2.1
    · rintro i x H' hx ⟨s1, s2, s3⟩
      obtain ⟨z, rfl, hz, et⟩ := take_succ_map hx
      walk_at "r"
      refine ⟨rfl, ?_⟩
      walk_at "r"
      refine ⟨_, s3, ?_, fun b o e => ?_, ?_, ?_⟩
      · rw [List.length_map, List.length_take]
        exact Nat.lt_of_le_of_lt (Nat.min_le_right _ _) (small1000 (by omega))
      · have nb : b ≠ D := fun e' => by
          rw [e', (same_upd np).free nD] at e
          cases e
        rw [upd_ne nb]
        exact s1 b o e
      · rw [upd_ne hDp.symm]
        exact s2
      · rw [upd_same, et]
    · rintro H' ⟨s1, s2, s3⟩
      have hlen : (ns.map V.int).length = ns.length := List.length_map ..
      rw [hlen, List.take_of_length_le (Nat.le_refl _)] at s3
      walk_at "r"
      intro D' nD'
      have hDD : D ≠ D' := ne_of_none s3 nD'
      refine q _ _ _ (s1.trans (same_upd nD')) ⟨ns, 0, 0, 0, hDD, upd_same, ?_, hl, fun z hz => bits_lt (hb z hz), ⟨by decide, Nat.two_pow_pos _⟩, by decide, by decide⟩
      rw [upd_ne hDD]
      exact s3
def sp_divisor : Sp := fun vs H Q _ => ∃ a b : Int, vs = [.int a, .int b] ∧ b.natAbs < 2 ^ 20000 ∧ Q (.int (a.natAbs.gcd b.natAbs : Nat)) H
end
end My
namespace My
open PySem PySem.Spec PyProof.Rows L2
variable {K : PySem.W.Frag}
section
variable {P : Program} {w : World} {K : PySem.W.Frag} {mg : Str → Option Value} {base : Heap} {f_is_integer f_is_row f_is_fraction f_is_some f_multiplied f_squared f_is_stall f_is_ware f_check_ware f_across f_stalls_of f_neighbours f_joined f_pieces f_l_deck f_l_pick f_l_pairs f_l_stalls f_l_due f_l_is_told f_law f_Web_init f_Web_eq c_BadWare c_Web : Addr} {d_is_integer d_is_row d_is_fraction d_is_some d_multiplied d_squared d_is_stall d_is_ware d_check_ware d_across d_stalls_of d_neighbours d_joined d_pieces d_l_deck d_l_pick d_l_pairs d_l_stalls d_l_due d_l_is_told d_law d_Web_init d_Web_eq : FuncData}
/-- two fractions in, one out -/
def sp_two (K : PySem.W.Frag) (f : Rat → Rat → Rat) (C : Rat → Rat → Prop) : Sp := fun vs H Q _ => ∃ x y r s, vs = [x, y] ∧ IsF K H x r ∧ IsF K H y s ∧ Bd 4000 r ∧ Bd 4000 s ∧ C r s ∧ ∀ H' v, Same H H' → IsF K H' v (f r s) → Q v H'
def sp_added (K : PySem.W.Frag) : Sp := sp_two K (· + ·) fun _ _ => True
def sp_multiplied (K : PySem.W.Frag) : Sp := sp_two K (· * ·) fun _ _ => True
theorem ok_multiplied (T : Txt K mg f_is_integer f_is_row f_is_fraction f_is_some f_multiplied f_squared f_is_stall f_is_ware f_check_ware f_across f_stalls_of f_neighbours f_joined f_pieces f_l_deck f_l_pick f_l_pairs f_l_stalls f_l_due f_l_is_told f_law f_Web_init f_Web_eq c_BadWare c_Web d_is_integer d_is_row d_is_fraction d_is_some d_multiplied d_squared d_is_stall d_is_ware d_check_ware d_across d_stalls_of d_neighbours d_joined d_pieces d_l_deck d_l_pick d_l_pairs d_l_stalls d_l_due d_l_is_told d_law d_Web_init d_Web_eq) : FnOk P w K mg base CX0 1 f_multiplied d_multiplied ["one", "other"] (sp_multiplied K) := by
  refine T.F_multiplied.ok sc_multiplied (fun vs H Q E h => ?_) (fun cdv A outer s H vs Q E hr h => ?_)
  · obtain ⟨x, y, r, s, rfl, _⟩ := h
    rfl
  · obtain ⟨x, y, r, s, rfl, ⟨p1, rfl, h1⟩, ⟨p2, rfl, h2⟩, b1, b2, -, q⟩ := h
    obtain ⟨m1, m2, m3, m4, m5, m6⟩ := mul_math b1 b2 _ _ rfl rfl
    refine ⟨_, (pss_cons (ps_set (i := 2) sc_multiplied.nd rfl (by first | exact Or.inl rfl | exact Or.inr rfl) (pe_callBfun cr_gcd (by rfl) T.m_gcd (pa_cons (pe_ix ix_tup (pv 0) pe_int (fun _ _ => rfl)) (pa_cons (pe_ix ix_tup (pv 1) pe_int (fun _ _ => rfl)) pa_nil))))
      (pss_cons (ps_set (i := 3) sc_multiplied.nd rfl (by first | exact Or.inl rfl | exact Or.inr rfl) (pe_callBfun cr_gcd (by rfl) T.m_gcd (pa_cons (pe_ix ix_tup (pv 1) pe_int (fun _ _ => rfl)) (pa_cons (pe_ix ix_tup (pv 0) pe_int (fun _ _ => rfl)) pa_nil))))
      (pss_one (ps_ret (pe_tup (pa_cons (pe_op op_mulX (pe_op op_fdivX (pe_ix ix_tup (pv 0) pe_int (fun _ _ => rfl)) (pv 2)) (pe_op op_fdivX (pe_ix ix_tup (pv 1) pe_int (fun _ _ => rfl)) (pv 3))) (pa_cons (pe_op op_mulX (pe_op op_fdivX (pe_ix ix_tup (pv 0) pe_int (fun _ _ => rfl)) (pv 3)) (pe_op op_fdivX (pe_ix ix_tup (pv 1) pe_int (fun _ _ => rfl)) (pv 2))) pa_nil))))))), ?_⟩
    walk_at "r"
    · intro p np
      exact q _ _ (same_upd np) (isF_new m5 m6)
    all_goals first | assumption | exact m1 _ | exact m2 _
def sp_negated (K : PySem.W.Frag) : Sp := fun vs H Q _ => ∃ x r, vs = [x] ∧ IsF K H x r ∧ ∀ H' v, Same H H' → IsF K H' v (-r) → Q v H'
def sp_lessened (K : PySem.W.Frag) : Sp := sp_two K (· - ·) fun _ _ => True
def sp_divided (K : PySem.W.Frag) : Sp := sp_two K (· / ·) fun _ s => s ≠ 0
end
end My
namespace My
open PySem PySem.Spec PyProof.Rows L2
variable {K : PySem.W.Frag}
section
variable {P : Program} {w : World} {K : PySem.W.Frag} {mg : Str → Option Value} {base : Heap} {f_is_integer f_is_row f_is_fraction f_is_some f_multiplied f_squared f_is_stall f_is_ware f_check_ware f_across f_stalls_of f_neighbours f_joined f_pieces f_l_deck f_l_pick f_l_pairs f_l_stalls f_l_due f_l_is_told f_law f_Web_init f_Web_eq c_BadWare c_Web : Addr} {d_is_integer d_is_row d_is_fraction d_is_some d_multiplied d_squared d_is_stall d_is_ware d_check_ware d_across d_stalls_of d_neighbours d_joined d_pieces d_l_deck d_l_pick d_l_pairs d_l_stalls d_l_due d_l_is_told d_law d_Web_init d_Web_eq : FuncData}
def sp_is_integer : Sp := fun vs H Q _ => ∃ i : Int, vs = [.int i] ∧ Q (.bl true) H
theorem ok_is_integer (T : Txt K mg f_is_integer f_is_row f_is_fraction f_is_some f_multiplied f_squared f_is_stall f_is_ware f_check_ware f_across f_stalls_of f_neighbours f_joined f_pieces f_l_deck f_l_pick f_l_pairs f_l_stalls f_l_due f_l_is_told f_law f_Web_init f_Web_eq c_BadWare c_Web d_is_integer d_is_row d_is_fraction d_is_some d_multiplied d_squared d_is_stall d_is_ware d_check_ware d_across d_stalls_of d_neighbours d_joined d_pieces d_l_deck d_l_pick d_l_pairs d_l_stalls d_l_due d_l_is_told d_law d_Web_init d_Web_eq) : FnOk P w K mg base CX0 1 f_is_integer d_is_integer ["thing"] sp_is_integer := by
  refine T.F_is_integer.ok sc_is_integer (fun vs H Q E h => ?_) (fun cdv A outer s H vs Q E hr h => ?_)
  · obtain ⟨i, rfl, _⟩ := h
    rfl
  · obtain ⟨i, rfl, q⟩ := h
    refine ⟨_, (pss_one (ps_ret (pe_and (pe_callB call_isi (by rfl) T.z_isinstance (by decide +kernel) (pa_cons (pv 0) (pa_cons (pe_bltn (v := .ty "int") (u := .type "int") (by rfl) T.z_int (by decide +kernel) rfl) pa_nil))) (pe_one (pe_not (pe_callB call_isi (by rfl) T.z_isinstance (by decide +kernel) (pa_cons (pv 0) (pa_cons (pe_bltn (v := .ty "bool") (u := .type "bool") (by rfl) T.z_bool (by decide +kernel) rfl) pa_nil)))))))), ?_⟩
    walk_at "r"
    exact q
def sp_is_fraction (K : PySem.W.Frag) : Sp := fun vs H Q _ => ∃ v r, vs = [v] ∧ IsF K H v r ∧ Q (.bl true) H
theorem ok_is_fraction (T : Txt K mg f_is_integer f_is_row f_is_fraction f_is_some f_multiplied f_squared f_is_stall f_is_ware f_check_ware f_across f_stalls_of f_neighbours f_joined f_pieces f_l_deck f_l_pick f_l_pairs f_l_stalls f_l_due f_l_is_told f_law f_Web_init f_Web_eq c_BadWare c_Web d_is_integer d_is_row d_is_fraction d_is_some d_multiplied d_squared d_is_stall d_is_ware d_check_ware d_across d_stalls_of d_neighbours d_joined d_pieces d_l_deck d_l_pick d_l_pairs d_l_stalls d_l_due d_l_is_told d_law d_Web_init d_Web_eq) : FnOk P w K mg base CX0 2 f_is_fraction d_is_fraction ["thing"] (sp_is_fraction K) := by
  have G_is_integer : FnOk P w K mg base CX0 1 f_is_integer d_is_integer ["thing"] sp_is_integer := ok_is_integer T
  refine T.F_is_fraction.ok sc_is_fraction (fun vs H Q E h => ?_) (fun cdv A outer s H vs Q E hr h => ?_)
  · obtain ⟨v, r, rfl, _⟩ := h
    rfl
  · obtain ⟨v, r, rfl, ⟨p, rfl, hp⟩, q⟩ := h
    refine ⟨_, (pss_cons (ps_if (PW.pt (pw_or (pt_not (pt_val (pe_callB call_isi (by rfl) T.z_isinstance (by decide +kernel) (pa_cons (pv 0) (pa_cons (pe_bltn (v := .ty "tuple") (u := .type "tuple") (by rfl) T.z_tuple (by decide +kernel) rfl) pa_nil))))) (pw_or1 (pt_cmpR op_ne (pe_callB call_lenN (by rfl) T.z_len (by decide +kernel) (pa_cons (pv 0) pa_nil)) pe_int (nomark _)))))
        (pss_one (ps_ret pe_bl))
        pss_nil)
      (pss_cons (ps_asg (pv 0) (pg_tup rfl (pgs_cons (pg_name (i := 1) sc_is_fraction.nd rfl (by first | exact Or.inl rfl | exact Or.inr rfl)) (pgs_cons (pg_name (i := 2) sc_is_fraction.nd rfl (by first | exact Or.inl rfl | exact Or.inr rfl)) pgs_nil))))
      (pss_cons (ps_if (PW.pt (pw_or (pt_not (pt_val (pe_call G_is_integer (hr.mono (by decide)) (by rfl) T.g_is_integer T.k_is_integer T.b_is_integer .nil pass0 (pa_cons (pv 1) pa_nil)))) (pw_or1 (pt_not (pt_val (pe_call G_is_integer (hr.mono (by decide)) (by rfl) T.g_is_integer T.k_is_integer T.b_is_integer .nil pass0 (pa_cons (pv 2) pa_nil)))))))
        (pss_one (ps_ret pe_bl))
        pss_nil)
      (pss_one (ps_ret (pe_and (pe_cmpR op_ge (pv 2) pe_int (nomark _)) (pe_one (pe_cmpR op_eq (pe_callBfun cr_gcd (by rfl) T.m_gcd (pa_cons (pv 1) (pa_cons (pv 2) pa_nil))) pe_int (nomark _))))))))), ?_⟩
    walk_at "r"
    refine ⟨_, rfl, ?_⟩
    walk_at "r"
    refine ⟨_, rfl, ?_⟩
    walk_at "r"
    have h1 := den_pos r
    have h2 := gcd_den r
    walk_at "r"
    rw [Int.natAbs_natCast, h2]
    exact q
end
end My
namespace My
open PySem PySem.Spec PyProof.Rows L2
variable {K : PySem.W.Frag}
theorem num_pos' {r : Rat} (h : 0 < r) : 0 < r.num := by
  rw [Rat.lt_iff] at h
  simpa using h
theorem sq_num (s : Rat) : (s * s).num = s.num * s.num ∧ (s * s).den = s.den * s.den := by
  obtain ⟨h1, h2⟩ := mul_form s s 1 1 (gcd_den s).symm (gcd_den s).symm
  rw [h1, h2]
  simp
section
variable {P : Program} {w : World} {K : PySem.W.Frag} {mg : Str → Option Value} {base : Heap} {f_is_integer f_is_row f_is_fraction f_is_some f_multiplied f_squared f_is_stall f_is_ware f_check_ware f_across f_stalls_of f_neighbours f_joined f_pieces f_l_deck f_l_pick f_l_pairs f_l_stalls f_l_due f_l_is_told f_law f_Web_init f_Web_eq c_BadWare c_Web : Addr} {d_is_integer d_is_row d_is_fraction d_is_some d_multiplied d_squared d_is_stall d_is_ware d_check_ware d_across d_stalls_of d_neighbours d_joined d_pieces d_l_deck d_l_pick d_l_pairs d_l_stalls d_l_due d_l_is_told d_law d_Web_init d_Web_eq : FuncData}
def sp_is_some (K : PySem.W.Frag) : Sp := fun vs H Q _ => ∃ v r, vs = [v] ∧ IsF K H v r ∧ 0 < r ∧ Q (.bl true) H
theorem ok_is_some (T : Txt K mg f_is_integer f_is_row f_is_fraction f_is_some f_multiplied f_squared f_is_stall f_is_ware f_check_ware f_across f_stalls_of f_neighbours f_joined f_pieces f_l_deck f_l_pick f_l_pairs f_l_stalls f_l_due f_l_is_told f_law f_Web_init f_Web_eq c_BadWare c_Web d_is_integer d_is_row d_is_fraction d_is_some d_multiplied d_squared d_is_stall d_is_ware d_check_ware d_across d_stalls_of d_neighbours d_joined d_pieces d_l_deck d_l_pick d_l_pairs d_l_stalls d_l_due d_l_is_told d_law d_Web_init d_Web_eq) : FnOk P w K mg base CX0 3 f_is_some d_is_some ["thing"] (sp_is_some K) := by
  have G_is_fraction : FnOk P w K mg base CX0 2 f_is_fraction d_is_fraction ["thing"] (sp_is_fraction K) := ok_is_fraction T
  refine T.F_is_some.ok sc_is_some (fun vs H Q E h => ?_) (fun cdv A outer s H vs Q E hr h => ?_)
  · obtain ⟨v, r, rfl, _⟩ := h
    rfl
  · obtain ⟨v, r, rfl, h, r0, q⟩ := h
    obtain ⟨p, rfl, hp⟩ := id h
    have hn := num_pos' r0
    refine ⟨_, (pss_one (ps_ret (pe_and (pe_call G_is_fraction (hr.mono (by decide)) (by rfl) T.g_is_fraction T.k_is_fraction T.b_is_fraction .nil pass0 (pa_cons (pv 0) pa_nil)) (pe_one (pe_cmpR op_gt (pe_ix ix_tup (pv 0) pe_int (fun _ _ => rfl)) pe_int (nomark _)))))), ?_⟩
    walk_at "r"
    refine ⟨_, _, rfl, h, ?_⟩
    walk_at "r"
    rw [decide_eq_true hn]
    exact q
def sp_squared (K : PySem.W.Frag) : Sp := fun vs H Q _ => ∃ v r, vs = [v] ∧ IsF K H v r ∧ Bd 4000 r ∧ ∀ H' u, Same H H' → IsF K H' u (r * r) → Q u H'
theorem ok_squared (T : Txt K mg f_is_integer f_is_row f_is_fraction f_is_some f_multiplied f_squared f_is_stall f_is_ware f_check_ware f_across f_stalls_of f_neighbours f_joined f_pieces f_l_deck f_l_pick f_l_pairs f_l_stalls f_l_due f_l_is_told f_law f_Web_init f_Web_eq c_BadWare c_Web d_is_integer d_is_row d_is_fraction d_is_some d_multiplied d_squared d_is_stall d_is_ware d_check_ware d_across d_stalls_of d_neighbours d_joined d_pieces d_l_deck d_l_pick d_l_pairs d_l_stalls d_l_due d_l_is_told d_law d_Web_init d_Web_eq) : FnOk P w K mg base CX0 1 f_squared d_squared ["one"] (sp_squared K) := by
  refine T.F_squared.ok sc_squared (fun vs H Q E h => ?_) (fun cdv A outer s H vs Q E hr h => ?_)
  · obtain ⟨v, r, rfl, _⟩ := h
    rfl
  · obtain ⟨v, r, rfl, ⟨p, rfl, hp⟩, b, q⟩ := h
    obtain ⟨e1, e2⟩ := sq_num r
    refine ⟨_, (pss_one (ps_ret (pe_tup (pa_cons (pe_op op_mulX (pe_ix ix_tup (pv 0) pe_int (fun _ _ => rfl)) (pe_ix ix_tup (pv 0) pe_int (fun _ _ => rfl))) (pa_cons (pe_op op_mulX (pe_ix ix_tup (pv 0) pe_int (fun _ _ => rfl)) (pe_ix ix_tup (pv 0) pe_int (fun _ _ => rfl))) pa_nil))))), ?_⟩
    walk_at "r"
    · intro p2 n2
      exact q _ _ (same_upd n2) (isF_new e1 (by rw [e2, Int.natCast_mul]))
    · exact cmx (by rw [Int.natAbs_natCast]; exact p46 b.2) (by rw [Int.natAbs_natCast]; exact p46 b.2)
    · exact cmx (p46 b.1) (p46 b.1)
def sp_is_stall (K : PySem.W.Frag) : Sp := fun vs H Q _ => ∃ (n : Nat) (x : V) (s : Stl), vs = [.int (n : Nat), x] ∧ IsSt K H x s ∧ OkSt n s ∧ BdSt 4000 s ∧ ∀ H', Same H H' → Q (.bl true) H'
theorem ok_is_stall (T : Txt K mg f_is_integer f_is_row f_is_fraction f_is_some f_multiplied f_squared f_is_stall f_is_ware f_check_ware f_across f_stalls_of f_neighbours f_joined f_pieces f_l_deck f_l_pick f_l_pairs f_l_stalls f_l_due f_l_is_told f_law f_Web_init f_Web_eq c_BadWare c_Web d_is_integer d_is_row d_is_fraction d_is_some d_multiplied d_squared d_is_stall d_is_ware d_check_ware d_across d_stalls_of d_neighbours d_joined d_pieces d_l_deck d_l_pick d_l_pairs d_l_stalls d_l_due d_l_is_told d_law d_Web_init d_Web_eq) : FnOk P w K mg base CX0 4 f_is_stall d_is_stall ["wares", "thing"] (sp_is_stall K) := by
  have G_is_integer : FnOk P w K mg base CX0 1 f_is_integer d_is_integer ["thing"] sp_is_integer := ok_is_integer T
  have G_is_some : FnOk P w K mg base CX0 3 f_is_some d_is_some ["thing"] (sp_is_some K) := ok_is_some T
  have G_multiplied : FnOk P w K mg base CX0 1 f_multiplied d_multiplied ["one", "other"] (sp_multiplied K) := ok_multiplied T
  have G_squared : FnOk P w K mg base CX0 1 f_squared d_squared ["one"] (sp_squared K) := ok_squared T
  refine T.F_is_stall.ok sc_is_stall (fun vs H Q E h => ?_) (fun cdv A outer s H vs Q E hr h => ?_)
  · obtain ⟨n, x, s, rfl, _⟩ := h
    rfl
  · obtain ⟨n, x, s, rfl, ⟨p, va, vb, vr, rfl, hp, ha, hb, hr'⟩, ok, bd, q⟩ := h
    have hu := ok.u
    have hv := ok.v
    have hne := ok.ne
    refine ⟨_, (pss_cons (ps_if (PW.pt (pw_or (pt_not (pt_val (pe_callB call_isi (by rfl) T.z_isinstance (by decide +kernel) (pa_cons (pv 1) (pa_cons (pe_bltn (v := .ty "tuple") (u := .type "tuple") (by rfl) T.z_tuple (by decide +kernel) rfl) pa_nil))))) (pw_or1 (pt_cmpR op_ne (pe_callB call_lenN (by rfl) T.z_len (by decide +kernel) (pa_cons (pv 1) pa_nil)) pe_int (nomark _)))))
        (pss_one (ps_ret pe_bl))
        pss_nil)
      (pss_cons (ps_asg (pv 1) (pg_tup rfl (pgs_cons (pg_name (i := 2) sc_is_stall.nd rfl (by first | exact Or.inl rfl | exact Or.inr rfl)) (pgs_cons (pg_name (i := 3) sc_is_stall.nd rfl (by first | exact Or.inl rfl | exact Or.inr rfl)) (pgs_cons (pg_name (i := 4) sc_is_stall.nd rfl (by first | exact Or.inl rfl | exact Or.inr rfl)) (pgs_cons (pg_name (i := 5) sc_is_stall.nd rfl (by first | exact Or.inl rfl | exact Or.inr rfl)) (pgs_cons (pg_name (i := 6) sc_is_stall.nd rfl (by first | exact Or.inl rfl | exact Or.inr rfl)) pgs_nil)))))))
      (pss_cons (ps_for PassesOwn.never rfl (pi_tup (pe_tup (pa_cons (pv 2) (pa_cons (pv 3) pa_nil)))) (pg_name (i := 7) sc_is_stall.nd rfl (by first | exact Or.inl rfl | exact Or.inr rfl))
        (pss_one (ps_if (PW.pt (pw_or (pt_not (pt_val (pe_call G_is_integer (hr.mono (by decide)) (by rfl) T.g_is_integer T.k_is_integer T.b_is_integer .nil pass0 (pa_cons (pv 7) pa_nil)))) (pw_or1 (pt_not (pt_chain op_le op_lt pe_int (pv 7) (pv 0))))))
            (pss_one (ps_ret pe_bl))
            pss_nil)))
      (pss_cons (ps_if (PW.pt (pw_or (pt_cmpR op_eq (pv 2) (pv 3) (nomark _)) (pw_or1 (pt_not (PW.pt (pw_and (pt_val (pe_call G_is_some (hr.mono (by decide)) (by rfl) T.g_is_some T.k_is_some T.b_is_some .nil pass0 (pa_cons (pv 4) pa_nil))) (pw_and (pt_val (pe_call G_is_some (hr.mono (by decide)) (by rfl) T.g_is_some T.k_is_some T.b_is_some .nil pass0 (pa_cons (pv 5) pa_nil))) (pw_and1 (pt_val (pe_call G_is_some (hr.mono (by decide)) (by rfl) T.g_is_some T.k_is_some T.b_is_some .nil pass0 (pa_cons (pv 6) pa_nil)))))))))))
        (pss_one (ps_ret pe_bl))
        pss_nil)
      (pss_one (ps_ret (pe_cmpR (op_eqD hr.units) (pe_call G_multiplied (hr.mono (by decide)) (by rfl) T.g_multiplied T.k_multiplied T.b_multiplied .nil pass0 (pa_cons (pv 4) (pa_cons (pv 5) pa_nil))) (pe_call G_squared (hr.mono (by decide)) (by rfl) T.g_squared T.k_squared T.b_squared .nil pass0 (pa_cons (pv 6) pa_nil)) (nomark _)))))))), ?_⟩
    walk_at "r"
    intro t nt
    have sm := same_upd (o := .tup [V.int (s.u : Nat), .int (s.v : Nat)]) nt
    have ht : upd H t (.tup [V.int (s.u : Nat), .int (s.v : Nat)]) t = some (.tup [V.int (s.u : Nat), .int (s.v : Nat)]) := upd_same
    generalize upd H t (.tup [V.int (s.u : Nat), .int (s.v : Nat)]) = H1 at *
    have ha := ha.same sm
    have hb := hb.same sm
    have hr' := hr'.same sm
    refine ⟨_, rfl, ⟨_, .of ht⟩, ?_⟩
    refine for_tup (K := K) (a := t) (xs := [V.int (s.u : Nat), .int (s.v : Nat)]) (fun i σ H' => ∃ t7, σ = [some (.int (n : Nat)), some (.ref p), some (.int (s.u : Nat)), some (.int (s.v : Nat)), some va, some vb, some vr, t7] ∧ H' = H1) ⟨_, rfl, rfl⟩ ?_ ?_ ?_
    · rintro i σ H' _ ⟨t7, rfl, rfl⟩
      exact .of ht
    · rintro i z σ H' hz ⟨t7, rfl, rfl⟩
      obtain ⟨k, rfl, hk⟩ : ∃ k : Nat, z = .int (k : Nat) ∧ k < n := by
        match i, hz with
        | 0, hz => exact ⟨_, (Option.some.inj hz).symm, hu⟩
        | 1, hz => exact ⟨_, (Option.some.inj hz).symm, hv⟩
      walk_at "r"
      refine ⟨_, rfl, ?_⟩
      walk_at "r"
      exact rfl
    · rintro σ H' ⟨t7, rfl, rfl⟩
      walk_at "r"
      refine ⟨_, _, rfl, ha, ok.a, ?_⟩
      walk_at "r"
      refine ⟨_, _, rfl, hb, ok.b, ?_⟩
      walk_at "r"
      refine ⟨_, _, rfl, hr', ok.r, ?_⟩
      walk_at "r"
      refine ⟨_, _, _, _, rfl, ha, hb, bd.a, bd.b, trivial, fun H2 x1 s1 h1 => ?_⟩
      walk_at "r"
      refine ⟨_, _, rfl, hr'.same s1, bd.r, fun H3 x2 s2 h2 => ?_⟩
      walk_at "r"
      refine eqF (h1.same s2) h2 ?_
      rw [decide_eq_true ok.e]
      exact q _ ((sm.trans s1).trans s2)
def sp_is_row : Sp := fun vs H Q _ => ∃ L xs, vs = [.ref L] ∧ (H L = some (.lst xs) ∨ H L = some (.tup xs)) ∧ ∀ H', Same H H' → Q (.bl true) H'
theorem ok_is_row (T : Txt K mg f_is_integer f_is_row f_is_fraction f_is_some f_multiplied f_squared f_is_stall f_is_ware f_check_ware f_across f_stalls_of f_neighbours f_joined f_pieces f_l_deck f_l_pick f_l_pairs f_l_stalls f_l_due f_l_is_told f_law f_Web_init f_Web_eq c_BadWare c_Web d_is_integer d_is_row d_is_fraction d_is_some d_multiplied d_squared d_is_stall d_is_ware d_check_ware d_across d_stalls_of d_neighbours d_joined d_pieces d_l_deck d_l_pick d_l_pairs d_l_stalls d_l_due d_l_is_told d_law d_Web_init d_Web_eq) : FnOk P w K mg base CX0 1 f_is_row d_is_row ["thing"] sp_is_row := by
  refine T.F_is_row.ok sc_is_row (fun vs H Q E h => ?_) (fun cdv A outer s H vs Q E hr h => ?_)
  · obtain ⟨L, xs, rfl, _⟩ := h
    rfl
  · obtain ⟨L, xs, rfl, h, q⟩ := h
    refine ⟨_, (pss_one (ps_ret (pe_callB call_isiT (by rfl) T.z_isinstance (by decide +kernel) (pa_cons (pv 0) (pa_cons (pe_tup (pa_cons (pe_bltn (v := .ty "list") (u := .type "list") (by rfl) T.z_list (by decide +kernel) rfl) (pa_cons (pe_bltn (v := .ty "tuple") (u := .type "tuple") (by rfl) T.z_tuple (by decide +kernel) rfl) pa_nil))) pa_nil))))), ?_⟩
    walk_at "r"
    intro p np
    walk_at "r"
    rcases h with h | h
    · refine ⟨_, _, _, _, _, true, rfl, upd_same, .cons (.ty _) (.cons (.ty _) .nil), .base (.lst (same_upd np _ _ h)), kitAny_cons (b := true) (kit_ty (by decide +kernel)) (fun z => Bool.noConfusion z) (fun _ => rfl), ?_⟩
      exact q _ (same_upd np)
    · refine ⟨_, _, _, _, _, true, rfl, upd_same, .cons (.ty _) (.cons (.ty _) .nil), .base (.tup (same_upd np _ _ h)), kitAny_cons (b := false) (kit_ty (by decide +kernel)) (fun _ => kitAny_cons (b := true) (kit_ty (by decide +kernel)) (fun z => Bool.noConfusion z) (fun _ => rfl)) (fun z => Bool.noConfusion z), ?_⟩
      exact q _ (same_upd np)
end
end My
namespace My
open PySem PySem.Spec PyProof.Rows L2
variable {K : PySem.W.Frag}
section
variable {P : Program} {w : World} {K : PySem.W.Frag} {mg : Str → Option Value} {base : Heap} {f_is_integer f_is_row f_is_fraction f_is_some f_multiplied f_squared f_is_stall f_is_ware f_check_ware f_across f_stalls_of f_neighbours f_joined f_pieces f_l_deck f_l_pick f_l_pairs f_l_stalls f_l_due f_l_is_told f_law f_Web_init f_Web_eq c_BadWare c_Web : Addr} {d_is_integer d_is_row d_is_fraction d_is_some d_multiplied d_squared d_is_stall d_is_ware d_check_ware d_across d_stalls_of d_neighbours d_joined d_pieces d_l_deck d_l_pick d_l_pairs d_l_stalls d_l_due d_l_is_told d_law d_Web_init d_Web_eq : FuncData}
/-- what Web(n, stalls) makes of right stalls -/
def sp_web (K : PySem.W.Frag) (C : Addr) : Sp := fun vs H Q _ => ∃ (p dx L : Addr) (n : Nat) (xs : List V) (ss : List Stl), vs = [.ref p, .int (n : Nat), .ref L] ∧ H p = some (.ins C dx []) ∧ (H L = some (.lst xs) ∨ H L = some (.tup xs)) ∧ 1 ≤ n ∧ n ≤ 8 ∧ xs.length ≤ 16 ∧
  Sts K H xs ss ∧ (∀ s ∈ ss, OkSt n s ∧ BdSt 4000 s) ∧ ∀ H', IsWeb K C H' (.ref p) n ss → (∀ b o, H b = some o → b ≠ p → H' b = some o) → Q .non H'
theorem ok_Web_init (T : Txt K mg f_is_integer f_is_row f_is_fraction f_is_some f_multiplied f_squared f_is_stall f_is_ware f_check_ware f_across f_stalls_of f_neighbours f_joined f_pieces f_l_deck f_l_pick f_l_pairs f_l_stalls f_l_due f_l_is_told f_law f_Web_init f_Web_eq c_BadWare c_Web d_is_integer d_is_row d_is_fraction d_is_some d_multiplied d_squared d_is_stall d_is_ware d_check_ware d_across d_stalls_of d_neighbours d_joined d_pieces d_l_deck d_l_pick d_l_pairs d_l_stalls d_l_due d_l_is_told d_law d_Web_init d_Web_eq) : FnOk P w K mg base CX0 5 f_Web_init d_Web_init ["self", "wares", "stalls"] (sp_web K c_Web) := by
  have G_is_integer : FnOk P w K mg base CX0 1 f_is_integer d_is_integer ["thing"] sp_is_integer := ok_is_integer T
  have G_is_row : FnOk P w K mg base CX0 1 f_is_row d_is_row ["thing"] sp_is_row := ok_is_row T
  have G_is_stall : FnOk P w K mg base CX0 4 f_is_stall d_is_stall ["wares", "thing"] (sp_is_stall K) := ok_is_stall T
  refine T.F_Web_init.ok sc_Web_init (fun vs H Q E h => ?_) (fun cdv A outer s H vs Q E hr h => ?_)
  · obtain ⟨p, dx, L, n, xs, ss, rfl, _⟩ := h
    rfl
  · obtain ⟨p, dx, L, n, xs, ss, rfl, hp, hL, hn1, hn8, hlen, hss, hok, q⟩ := h
    refine ⟨_, (pss_cons (ps_if (PW.pt (pw_or (pt_not (pt_val (pe_call G_is_integer (hr.mono (by decide)) (by rfl) T.g_is_integer T.k_is_integer T.b_is_integer .nil pass0 (pa_cons (pv 1) pa_nil)))) (pw_or1 (pt_not (pt_chain op_le op_le pe_int (pv 1) (C8.pe_gc (by rfl) T.v_MOST_WARES))))))
        (pss_one ps_never)
        pss_nil)
      (pss_cons (ps_if (PW.pt (pw_or (pt_not (pt_val (pe_call G_is_row (hr.mono (by decide)) (by rfl) T.g_is_row T.k_is_row T.b_is_row .nil pass0 (pa_cons (pv 2) pa_nil)))) (pw_or1 (pt_cmpR op_gt (pe_callB call_lenN (by rfl) T.z_len (by decide +kernel) (pa_cons (pv 2) pa_nil)) (C8.pe_gc (by rfl) T.v_MOST_STALLS) (nomark _)))))
        (pss_one ps_never)
        pss_nil)
      (pss_cons (ps_for PassesOwn.never rfl (pi_enumX (by rfl) T.z_enumerate (pa_cons (pv 2) pa_nil)) (pg_tup rfl (pgs_cons (pg_name (i := 3) sc_Web_init.nd rfl (by first | exact Or.inl rfl | exact Or.inr rfl)) (pgs_cons (pg_name (i := 4) sc_Web_init.nd rfl (by first | exact Or.inl rfl | exact Or.inr rfl)) pgs_nil)))
        (pss_one (ps_if (pt_not (pt_val (pe_call G_is_stall (hr.mono (by decide)) (by rfl) T.g_is_stall T.k_is_stall T.b_is_stall .nil pass0 (pa_cons (pv 1) (pa_cons (pv 4) pa_nil)))))
            (pss_one ps_never)
            pss_nil)))
      (pss_cons (ps_fld (pv 0) (pv 1) rfl)
      (pss_one (ps_fld (pv 0) (pe_callTy call_tuple_of (by rfl) T.z_tuple (by decide +kernel) (pa_cons (pv 2) pa_nil)) rfl)))))), ?_⟩
    walk_at "r"
    refine ⟨_, rfl, ?_⟩
    walk_at "r"
    refine ⟨_, _, rfl, hL, fun H1 s1 => ?_⟩
    have hL1 : H1 L = some (.lst xs) ∨ H1 L = some (.tup xs) := hL.imp (fun h => s1 _ _ h) fun h => s1 _ _ h
    have hSq : ∀ {H2 : Hp}, Same H1 H2 → SqL K H2 L xs ∨ SqT K H2 L xs := fun f => hL1.imp (fun h => .of (f _ _ h)) fun h => .of (f _ _ h)
    walk_at "r"
    refine ⟨L, xs, rfl, hSq (Same.refl _), ?_⟩
    walk_at "r"
    refine ⟨L, xs, rfl, ?_⟩
    have nL : L ≠ p := fun z => by
      rw [z, hp] at hL
      rcases hL with z | z <;> cases z
    rcases hL1 with h | h
    · refine .inl ⟨.of h, ?_⟩
      refine for_enum (K := K) (a := L) (xs := xs) (fun i σ H' => ∃ t3 t4, σ = [some (.ref p), some (.int (n : Nat)), some (.ref L), t3, t4] ∧ Same H1 H') ⟨_, _, rfl, Same.refl _⟩ ?_ ?_ ?_
      · rintro i σ H' _ ⟨t3, t4, rfl, s'⟩
        exact .of (s' _ _ h)
      · rintro i x T2 σ H' hx ⟨t3, t4, rfl, s'⟩ nT
        obtain ⟨s0, hs0, hst⟩ := hss.at hx
        have sm := same_upd (o := .tup [.int (i : Nat), x]) nT
        obtain ⟨ok0, bd0⟩ := hok _ (List.mem_of_getElem? hs0)
        walk_at "r"
        refine ⟨n, x, s0, rfl, hst.same ((s1.trans s').trans sm), ok0, bd0, fun H3 s3 => ?_⟩
        walk_at "r"
        exact ⟨_, _, rfl, (s'.trans sm).trans s3⟩
      · rintro σ H2 ⟨t3, t4, rfl, s'⟩
        have hp2 := s' _ _ (s1 _ _ hp)
        have hL2 := s' _ _ h
        have k2 := s1.trans s'
        walk_at "r"
        refine ⟨_, _, _, _, rfl, hp2, T.w_Web.it.cl, T.n_Web_wares, (by decide), ?_⟩
        walk_at "r"
        refine ⟨_, _, rfl, .inl ⟨.of ((upd_ne nL).trans hL2), fun l nl => ?_⟩⟩
        have hlp : l ≠ p := fun z => by
          rw [z, upd_same] at nl
          cases nl
        have nl2 : H2 l = none := by
          rw [upd_ne hlp] at nl
          exact nl
        walk_at "r"
        refine ⟨_, _, _, _, rfl, (upd_ne (Ne.symm hlp)).trans upd_same, T.w_Web.it.cl, T.n_Web_stalls, (by show 1 < 1000; decide), ?_⟩
        have keep : ∀ b o, H b = some o → b ≠ p → upd (upd (upd H2 p (.ins c_Web dx (putF "wares" (.int (n : Nat)) []))) l (.tup xs)) p (.ins c_Web dx (putF "stalls" (.ref l) (putF "wares" (.int (n : Nat)) []))) b = some o := fun b o hb hbp => by
          have hbl : b ≠ l := fun z => by
            rw [← z, k2 _ _ hb] at nl2
            cases nl2
          rw [upd_ne hbp, upd_ne hbl, upd_ne hbp]
          exact k2 _ _ hb
        refine q _ ⟨p, dx, l, xs, rfl, by rw [upd_same, wF_new], (upd_ne hlp).trans upd_same, hss.ts fun b ys hb => keep b _ hb ?_⟩ keep
        intro z
        rw [z, hp] at hb
        cases hb
    · refine .inr ⟨.of h, ?_⟩
      refine for_enumT (K := K) (a := L) (xs := xs) (fun i σ H' => ∃ t3 t4, σ = [some (.ref p), some (.int (n : Nat)), some (.ref L), t3, t4] ∧ Same H1 H') ⟨_, _, rfl, Same.refl _⟩ ?_ ?_ ?_
      · rintro i σ H' _ ⟨t3, t4, rfl, s'⟩
        exact .of (s' _ _ h)
      · rintro i x T2 σ H' hx ⟨t3, t4, rfl, s'⟩ nT
        obtain ⟨s0, hs0, hst⟩ := hss.at hx
        have sm := same_upd (o := .tup [.int (i : Nat), x]) nT
        obtain ⟨ok0, bd0⟩ := hok _ (List.mem_of_getElem? hs0)
        walk_at "r"
        refine ⟨n, x, s0, rfl, hst.same ((s1.trans s').trans sm), ok0, bd0, fun H3 s3 => ?_⟩
        walk_at "r"
        exact ⟨_, _, rfl, (s'.trans sm).trans s3⟩
      · rintro σ H2 ⟨t3, t4, rfl, s'⟩
        have hp2 := s' _ _ (s1 _ _ hp)
        have hL2 := s' _ _ h
        have k2 := s1.trans s'
        walk_at "r"
        refine ⟨_, _, _, _, rfl, hp2, T.w_Web.it.cl, T.n_Web_wares, (by decide), ?_⟩
        walk_at "r"
        refine ⟨_, _, rfl, .inr ⟨.of ((upd_ne nL).trans hL2), ?_⟩⟩
        walk_at "r"
        refine ⟨_, _, _, _, rfl, upd_same, T.w_Web.it.cl, T.n_Web_stalls, (by show 1 < 1000; decide), ?_⟩
        have keep : ∀ b o, H b = some o → b ≠ p → upd (upd H2 p (.ins c_Web dx (putF "wares" (.int (n : Nat)) []))) p (.ins c_Web dx (putF "stalls" (.ref L) (putF "wares" (.int (n : Nat)) []))) b = some o := fun b o hb hbp => by
          rw [upd_ne hbp, upd_ne hbp]
          exact k2 _ _ hb
        refine q _ ⟨p, dx, L, xs, rfl, by rw [upd_same, wF_new], (upd_ne nL).trans ((upd_ne nL).trans hL2), hss.ts fun b ys hb => keep b _ hb ?_⟩ keep
        intro z
        rw [z, hp] at hb
        cases hb
end
end My
namespace My
open PySem PySem.Spec PyProof.Rows L2
variable {K : PySem.W.Frag}
theorem sq_pos {r : Rat} (h : 0 < r) : 0 < r * r := Rat.mul_pos h h
theorem ne_of_pos {r : Rat} (h : 0 < r) : r ≠ 0 := fun z => by
  rw [z] at h
  exact absurd h (by decide)
section
variable {P : Program} {w : World} {K : PySem.W.Frag} {mg : Str → Option Value} {base : Heap} {f_is_integer f_is_row f_is_fraction f_is_some f_multiplied f_squared f_is_stall f_is_ware f_check_ware f_across f_stalls_of f_neighbours f_joined f_pieces f_l_deck f_l_pick f_l_pairs f_l_stalls f_l_due f_l_is_told f_law f_Web_init f_Web_eq c_BadWare c_Web : Addr} {d_is_integer d_is_row d_is_fraction d_is_some d_multiplied d_squared d_is_stall d_is_ware d_check_ware d_across d_stalls_of d_neighbours d_joined d_pieces d_l_deck d_l_pick d_l_pairs d_l_stalls d_l_due d_l_is_told d_law d_Web_init d_Web_eq : FuncData}
def sp_stall_led (K : PySem.W.Frag) : Sp := fun vs H Q _ => ∃ v s vx x, vs = [v, vx] ∧ IsSt K H v s ∧ IsF K H vx x ∧ Bd 1900 s.r ∧ Bd 3900 x ∧ 0 < x ∧ ∀ H' u, Same H H' → IsSt K H' u (s.first x) → Q u H'
def sp_behind (K : PySem.W.Frag) : Sp := fun vs H Q _ => ∃ (v : V) (s : Stl) (wn : Nat) (vx : V) (x : Rat), vs = [v, .int (wn : Nat), vx] ∧ IsSt K H v s ∧ IsF K H vx x ∧ BdSt 1900 s ∧ Bd 1900 x ∧ 0 < s.a ∧ 0 < s.b ∧ 0 < x ∧ ∀ H' u, Same H H' → IsSt K H' u (s.behind wn x) → Q u H'
end
end My
namespace My
open PySem PySem.Spec PyProof.Rows L2
variable {K : PySem.W.Frag}
theorem at_some {xs : List V} {i : Nat} {x : V} (h : xs[i]? = some x) : atI xs (i : Int) = some x := atI_nat h
theorem in_pair {u v w : Nat} (h : w = u ∨ w = v) : inV (.int (w : Nat)) [V.int (u : Nat), .int (v : Nat)] = true := by
  rcases h with rfl | rfl <;> simp [inV, eqV]
section
variable {P : Program} {w : World} {K : PySem.W.Frag} {mg : Str → Option Value} {base : Heap} {f_is_integer f_is_row f_is_fraction f_is_some f_multiplied f_squared f_is_stall f_is_ware f_check_ware f_across f_stalls_of f_neighbours f_joined f_pieces f_l_deck f_l_pick f_l_pairs f_l_stalls f_l_due f_l_is_told f_law f_Web_init f_Web_eq c_BadWare c_Web : Addr} {d_is_integer d_is_row d_is_fraction d_is_some d_multiplied d_squared d_is_stall d_is_ware d_check_ware d_across d_stalls_of d_neighbours d_joined d_pieces d_l_deck d_l_pick d_l_pairs d_l_stalls d_l_due d_l_is_told d_law d_Web_init d_Web_eq : FuncData}
def sp_is_index (K : PySem.W.Frag) (C : Addr) : Sp := fun vs H Q _ => ∃ (x : V) (n : Nat) (ss : List Stl) (i : Nat), vs = [x, .int (i : Nat)] ∧ IsWeb K C H x n ss ∧ i < ss.length ∧ Q (.bl true) H
def sp_is_move (K : PySem.W.Frag) (C : Addr) : Sp := fun vs H Q _ => ∃ (x mv : V) (n : Nat) (ss : List Stl) (i wn : Nat) (s : Stl) (y : Rat), vs = [x, mv] ∧ IsWeb K C H x n ss ∧ IsMv K H mv i wn y ∧ ss[i]? = some s ∧ (wn = s.u ∨ wn = s.v) ∧ 0 < y ∧ ∀ H', Same H H' → Q (.bl true) H'
end
end My
namespace My
open PySem PySem.Spec PyProof.Rows L2
variable {K : PySem.W.Frag}
theorem mul_div_self {k x : Rat} (h : x ≠ 0) : x * (k / x) = k := by
  rw [Rat.div_def, ← Rat.mul_assoc, Rat.mul_comm x k, Rat.mul_assoc, Rat.mul_inv_cancel x h, Rat.mul_one]
theorem div_pos' {k x : Rat} (h : 0 < k) (hx : 0 < x) : 0 < k / x := by
  rw [Rat.div_def]
  exact Rat.mul_pos h (Rat.inv_pos.mpr hx)
theorem behind_ok {n : Nat} {s : Stl} (h : OkSt n s) (wn : Nat) {y : Rat} (y0 : 0 < y) : OkSt n (s.behind wn y) := by
  have a0 := h.a
  have b0 := h.b
  have rr := sq_pos h.r
  unfold Stl.behind
  split
  · have p : 0 < s.a + y := by grind
    exact ⟨h.u, h.v, h.ne, p, div_pos' rr p, h.r, mul_div_self (ne_of_pos p)⟩
  · have p : 0 < s.b + y := by grind
    exact ⟨h.u, h.v, h.ne, div_pos' rr p, p, h.r, (Rat.mul_comm _ _).trans (mul_div_self (ne_of_pos p))⟩
theorem behind_bd {k l : Nat} {n : Nat} {s : Stl} (hs : OkSt n s) (h : BdSt k s) (wn : Nat) {y : Rat} (y0 : 0 < y) (b : Bd l y) : BdSt (3 * k + l + 1) (s.behind wn y) := by
  have a0 := hs.a
  have b0 := hs.b
  unfold Stl.behind
  split
  · have p : 0 < s.a + y := by grind
    exact ⟨(h.a.add b).mono (by omega), ((h.r.mul h.r).div (ne_of_pos p) (h.a.add b)).mono (by omega), h.r.mono (by omega)⟩
  · have p : 0 < s.b + y := by grind
    exact ⟨((h.r.mul h.r).div (ne_of_pos p) (h.b.add b)).mono (by omega), (h.b.add b).mono (by omega), h.r.mono (by omega)⟩
theorem Sts.set {H : Hp} {xs : List V} {ss : List Stl} {v : V} {s : Stl} (h : Sts K H xs ss) (hv : IsSt K H v s) (i : Nat) : Sts K H (xs.set i v) (ss.set i s) := by
  unfold Sts at *
  induction h generalizing i with
  | nil => exact .nil
  | cons h t ih =>
    cases i with
    | zero => exact .cons hv t
    | succ i => exact .cons h (ih i)
theorem set_parts {xs : List V} {i : Nat} {v : V} (h : i < xs.length) : cutV xs none (some (i : Int)) ++ [v] ++ cutV xs (some ((i : Int) + 1)) none = xs.set i v := by
  have e : ((i : Int) + 1) = ((i + 1 : Nat) : Int) := by omega
  rw [e]
  unfold cutV
  rw [HT.sIx_none, HT.sIx_none, HT.sIx_nat, HT.sIx_nat, List.set_eq_take_append_cons_drop, if_pos h]
  have m1 : min i xs.length = i := by omega
  have m2 : min (i + 1) xs.length = i + 1 := by omega
  rw [m1, m2]
  simp
  exact List.take_of_length_le (by simp)
theorem rd_catA {K : PySem.W.Frag} {H : Hp} {a b : Addr} {xs ys : List V} {Q : VK} (ha : H a = some (.tup xs)) (hb : H b = some (.tup ys)) (hl : xs.length + ys.length ≤ sizeLine)
    (q : ∀ p H', Same H H' → H' p = some (.tup (xs ++ ys)) → Q (.ref p) H') : rCatA K (.ref a) (.ref b) H Q := by
  refine ⟨a, b, xs, ys, rfl, rfl, .of ha, .of hb, hl, fun e => ?_, fun _ e => ?_, fun _ _ p np => q p _ (same_upd np) upd_same⟩
  · subst e
    exact q b H (Same.refl _) hb
  · subst e
    exact q a H (Same.refl _) (by rw [List.append_nil]; exact ha)
theorem rd_slT {K : PySem.W.Frag} {H : Hp} {a : Addr} {xs : List V} {lo hi : Option Int} {Q : VK} (ha : H a = some (.tup xs)) (hw : ¬ (HT.sIx xs.length 0 lo = 0 ∧ HT.sIx xs.length xs.length hi = xs.length))
    (q : ∀ p H', Same H H' → H' p = some (.tup (cutV xs lo hi)) → Q (.ref p) H') : rSlT K (.ref a) lo hi H Q := ⟨a, xs, rfl, .of ha, hw, fun p np => q p _ (same_upd np) upd_same⟩
/-- a web within its bounds -/
structure OkW (n k : Nat) (ss : List Stl) : Prop where
  n1 : 1 ≤ n
  n8 : n ≤ 8
  len : ss.length ≤ 16
  ok : ∀ s ∈ ss, OkSt n s ∧ BdSt k s
theorem OkW.set {n k : Nat} {ss : List Stl} (h : OkW n k ss) {s : Stl} (h1 : OkSt n s) (h2 : BdSt k s) (i : Nat) : OkW n k (ss.set i s) :=
  ⟨h.n1, h.n8, by rw [List.length_set]; exact h.len, fun t ht => by
    rcases List.mem_or_eq_of_mem_set ht with z | z
    · exact h.ok t z
    · subst z
      exact ⟨h1, h2⟩⟩
theorem BdSt.mono {k l : Nat} {s : Stl} (h : BdSt k s) (hl : k ≤ l) : BdSt l s := ⟨h.a.mono hl, h.b.mono hl, h.r.mono hl⟩
theorem OkW.mono {n k l : Nat} {ss : List Stl} (h : OkW n k ss) (hl : k ≤ l) : OkW n l ss := ⟨h.n1, h.n8, h.len, fun s hs => ⟨(h.ok s hs).1, (h.ok s hs).2.mono hl⟩⟩
end My
namespace My
open PySem PySem.Spec PyProof.Rows L2
variable {K : PySem.W.Frag}
def Stl.hold (s : Stl) (w : Nat) : Rat := if w = s.u then s.a else s.b
def Stl.at (s : Stl) (w : Nat) : Bool := decide (w = s.u) || decide (w = s.v)
def at_ (ss : List Stl) (w : Nat) : List Stl := ss.filter (·.at w)
def sumR (l : List Rat) : Rat := l.foldl (· + ·) 0
def heldAt (ss : List Stl) (w : Nat) : Rat := sumR ((at_ ss w).map (·.hold w))
def heldAll (n : Nat) (ss : List Stl) : List Rat := (List.range n).map (heldAt ss)
def Fs (K : PySem.W.Frag) (H : Hp) (ys : List V) (rs : List Rat) : Prop := Paired (IsF K H) ys rs
def IsFs (K : PySem.W.Frag) (H : Hp) (x : V) (rs : List Rat) : Prop := ∃ t ys, x = .ref t ∧ H t = some (.tup ys) ∧ Fs K H ys rs
theorem Fs.same {H H' : Hp} {ys : List V} {rs : List Rat} (s : Same H H') (h : Fs K H ys rs) : Fs K H' ys rs := Paired.mapP h fun _ _ h => h.same s
theorem IsFs.same {H H' : Hp} {x : V} {rs : List Rat} (s : Same H H') (h : IsFs K H x rs) : IsFs K H' x rs := by
  obtain ⟨t, ys, e, h1, h2⟩ := h
  exact ⟨t, ys, e, s _ _ h1, h2.same s⟩
theorem Fs.len {H : Hp} {ys : List V} {rs : List Rat} (h : Fs K H ys rs) : ys.length = rs.length := Paired.length h
theorem Paired.at {α : Type} {F : V → α → Prop} {xs : List V} {as : List α} (h : Paired F xs as) : ∀ {i : Nat} {x : V}, xs[i]? = some x → ∃ a, as[i]? = some a ∧ F x a := by
  induction h with
  | nil =>
    intro i x e
    simp at e
  | cons h t ih =>
    intro i x e
    match i with
    | 0 =>
      simp at e
      subst e
      exact ⟨_, rfl, h⟩
    | i + 1 => exact ih (by simpa using e)
theorem Paired.get' {α : Type} {F : V → α → Prop} {xs : List V} {as : List α} (h : Paired F xs as) : ∀ {i : Nat} {a : α}, as[i]? = some a → ∃ x, xs[i]? = some x ∧ F x a := by
  induction h with
  | nil =>
    intro i x e
    simp at e
  | cons h t ih =>
    intro i x e
    match i with
    | 0 =>
      simp at e
      subst e
      exact ⟨_, rfl, h⟩
    | i + 1 => exact ih (by simpa using e)
theorem stl_at_in (s : Stl) (w : Nat) : inV (.int (w : Nat)) [V.int (s.u : Nat), .int (s.v : Nat)] = s.at w := by
  have e : ∀ k : Nat, eqV (.int (k : Nat)) (.int (w : Nat)) = decide (w = k) := fun k => by
    rw [Bool.eq_iff_iff]
    simp [eqV]
    omega
  show (eqV _ _ || (eqV _ _ || false)) = _
  rw [e, e, Bool.or_false]
  rfl
/-- bounds of sums -/
theorem sumR_snoc (l : List Rat) (r : Rat) : sumR (l ++ [r]) = sumR l + r := by
  unfold sumR
  rw [List.foldl_append]
  rfl
theorem bd_zero {k : Nat} (h : 0 < k) : Bd k 0 := ⟨Nat.two_pow_pos k, Nat.one_lt_two_pow (by omega)⟩
/-- sizes of sums, each item with its own bits -/
def BR (rs : List Rat) (M : Nat) : Prop := ∃ ks : List Nat, Paired (fun r k => Bd k r) rs ks ∧ 1 + (ks.map (· + 1)).sum ≤ M
theorem fold_bd {rs : List Rat} {ks : List Nat} (h : Paired (fun r k => Bd k r) rs ks) : ∀ (a : Rat) (A : Nat), Bd A a → Bd (A + (ks.map (· + 1)).sum) (rs.foldl (· + ·) a) := by
  induction h with
  | nil =>
    intro a A ha
    exact ha
  | cons h t ih =>
    intro a A ha
    refine (ih _ _ (ha.add h)).mono ?_
    rw [List.map_cons, List.sum_cons]
    omega
theorem BR.sum {rs : List Rat} {M : Nat} (h : BR rs M) : Bd M (sumR rs) := by
  obtain ⟨ks, h, hm⟩ := h
  exact (fold_bd h 0 1 (bd_zero (by decide))).mono hm
theorem BR.take {rs : List Rat} {M : Nat} (h : BR rs M) (i : Nat) : BR (rs.take i) M := by
  obtain ⟨ks, h, hm⟩ := h
  refine ⟨ks.take i, ?_, Nat.le_trans (Nat.add_le_add_left ?_ 1) hm⟩
  · clear hm
    induction h generalizing i with
    | nil => cases i <;> exact .nil
    | cons h t ih =>
      cases i with
      | zero => exact .nil
      | succ i => exact .cons h (ih i)
  · clear hm h
    induction ks generalizing i with
    | nil => simp
    | cons k ks ih =>
      cases i with
      | zero => simp
      | succ i =>
        rw [List.take_succ_cons, List.map_cons, List.map_cons, List.sum_cons, List.sum_cons]
        have := ih i
        omega
theorem BR.mem {rs : List Rat} {M : Nat} (h : BR rs M) {r : Rat} (hr : r ∈ rs) : Bd M r := by
  obtain ⟨ks, h, hm⟩ := h
  induction h generalizing M with
  | nil => simp at hr
  | cons h t ih =>
    rw [List.map_cons, List.sum_cons] at hm
    rcases List.mem_cons.mp hr with rfl | hr
    · exact h.mono (by omega)
    · exact ih hr (by omega)
theorem take_at {α : Type} {l : List α} {i : Nat} {a : α} (h : l[i]? = some a) : l.take (i + 1) = l.take i ++ [a] := by
  rw [List.take_add_one, h]
  rfl
theorem IsF.c0 {p : Addr} {H : Hp} (h : SqT K (fun _ => none) p [.int 0, .int 1]) : IsF K H (.ref p) 0 := ⟨p, rfl, .inr h⟩
theorem hold_bd {k : Nat} {s : Stl} (h : BdSt k s) (w : Nat) : Bd k (s.hold w) := by
  unfold Stl.hold
  split
  · exact h.a
  · exact h.b
/-- sizes of stalls, each with its own bits -/
def BL (ss : List Stl) (M : Nat) : Prop := ∃ ks : List Nat, Paired (fun s k => BdSt k s) ss ks ∧ 1 + (ks.map (· + 1)).sum ≤ M
theorem BL.mono {ss : List Stl} {M N : Nat} (h : BL ss M) (l : M ≤ N) : BL ss N := h.imp fun _ h => ⟨h.1, Nat.le_trans h.2 l⟩
theorem bl_of {k : Nat} {ss : List Stl} (h16 : ss.length ≤ 16) (h : ∀ s ∈ ss, BdSt k s) : BL ss (16 * (k + 1) + 1) := by
  refine ⟨ss.map fun _ => k, ?_, ?_⟩
  · clear h16
    induction ss with
    | nil => exact .nil
    | cons s ss ih => exact .cons (h s (by simp)) (ih fun t ht => h t (by simp [ht]))
  · have e : ((ss.map fun _ => k).map (· + 1)).sum = ss.length * (k + 1) := by
      clear h h16
      induction ss with
      | nil => simp
      | cons s ss ih =>
        rw [List.map_cons, List.map_cons, List.sum_cons, ih, List.length_cons, Nat.add_mul]
        omega
    rw [e]
    have := Nat.mul_le_mul_right (k + 1) h16
    omega
theorem BL.at {ss : List Stl} {M : Nat} (h : BL ss M) (w : Nat) : BR ((at_ ss w).map (·.hold w)) M := by
  obtain ⟨ks, h, hm⟩ := h
  have key : ∃ js : List Nat, Paired (fun r k => Bd k r) ((at_ ss w).map (·.hold w)) js ∧ (js.map (· + 1)).sum ≤ (ks.map (· + 1)).sum := by
    clear hm
    induction h with
    | nil => exact ⟨[], .nil, Nat.le_refl _⟩
    | @cons s k ss ks h t ih =>
      obtain ⟨js, h1, h2⟩ := ih
      unfold at_ at *
      rw [List.filter_cons]
      split
      · refine ⟨k :: js, .cons (hold_bd h w) h1, ?_⟩
        rw [List.map_cons, List.map_cons, List.sum_cons, List.sum_cons]
        omega
      · refine ⟨js, h1, ?_⟩
        rw [List.map_cons, List.sum_cons]
        omega
  obtain ⟨js, h1, h2⟩ := key
  exact ⟨js, h1, by omega⟩
theorem BL.held {ss : List Stl} {M : Nat} (h : BL ss M) (w : Nat) : Bd M (heldAt ss w) := (h.at w).sum
theorem upTo_bind {α β : Type} (g : α → Option β) : ∀ l : List α, upTo (fun i => (l[i]?).bind g) l.length = l.filterMap g
  | [] => rfl
  | a :: l => by
    have ih := upTo_bind g l
    unfold upTo at *
    rw [List.length_cons, List.range_succ_eq_map, List.filterMap_cons, List.filterMap_map]
    have e : ((fun i => ((a :: l)[i]?).bind g) ∘ Nat.succ) = fun i => (l[i]?).bind g := rfl
    rw [e, ih, List.filterMap_cons]
    rfl
theorem upTo_filter (p : Stl → Bool) (ss : List Stl) : upTo (fun i => (ss[i]?).filter p) ss.length = ss.filter p := by
  have e : (fun i : Nat => (ss[i]?).filter p) = fun i : Nat => (ss[i]?).bind (Option.guard p) := by
    funext i
    cases ss[i]? <;> simp [Option.filter, Option.guard]
  rw [e, upTo_bind, List.filterMap_eq_filter]
theorem upTo_map {α : Type} {n : Nat} (g : Nat → α) : upTo (fun i => some (g i)) n = (List.range n).map g := by
  unfold upTo
  induction List.range n with
  | nil => rfl
  | cons x l ih => simp [ih]
theorem upTo_list {α β : Type} (l : List α) (g : α → β) : upTo (fun i => (l[i]?).map g) l.length = l.map g := by
  have e : (fun i : Nat => (l[i]?).map g) = fun i : Nat => (l[i]?).bind (fun a => some (g a)) := by
    funext i
    cases l[i]? <;> rfl
  rw [e, upTo_bind]
  exact congrFun (List.filterMap_eq_map (f := g)) l
section
variable {P : Program} {w : World} {K : PySem.W.Frag} {mg : Str → Option Value} {base : Heap} {f_is_integer f_is_row f_is_fraction f_is_some f_multiplied f_squared f_is_stall f_is_ware f_check_ware f_across f_stalls_of f_neighbours f_joined f_pieces f_l_deck f_l_pick f_l_pairs f_l_stalls f_l_due f_l_is_told f_law f_Web_init f_Web_eq c_BadWare c_Web : Addr} {d_is_integer d_is_row d_is_fraction d_is_some d_multiplied d_squared d_is_stall d_is_ware d_check_ware d_across d_stalls_of d_neighbours d_joined d_pieces d_l_deck d_l_pick d_l_pairs d_l_stalls d_l_due d_l_is_told d_law d_Web_init d_Web_eq : FuncData}
def sp_summed (K : PySem.W.Frag) : Sp := fun vs H Q _ => ∃ (L : Addr) (ys : List V) (rs : List Rat) (M : Nat), vs = [.ref L] ∧ H L = some (.lst ys) ∧ Fs K H ys rs ∧ BR rs M ∧ M ≤ 4000 ∧ ∀ H' v, Same H H' → IsF K H' v (sumR rs) → Q v H'
def sp_hold_of (K : PySem.W.Frag) : Sp := fun vs H Q _ => ∃ (v : V) (s : Stl) (wn : Nat), vs = [v, .int (wn : Nat)] ∧ IsSt K H v s ∧ ∀ x, IsF K H x (s.hold wn) → Q x H
def sp_stalls_of (K : PySem.W.Frag) : Sp := fun vs H Q _ => ∃ (t : Addr) (xs : List V) (ss : List Stl) (wn : Nat), vs = [.int (wn : Nat), .ref t] ∧ H t = some (.tup xs) ∧ Sts K H xs ss ∧ ss.length ≤ 16 ∧
  ∀ H' L ys, Same H H' → H' L = some (.lst ys) → Sts K H' ys (at_ ss wn) → Q (.ref L) H'
theorem ok_stalls_of (T : Txt K mg f_is_integer f_is_row f_is_fraction f_is_some f_multiplied f_squared f_is_stall f_is_ware f_check_ware f_across f_stalls_of f_neighbours f_joined f_pieces f_l_deck f_l_pick f_l_pairs f_l_stalls f_l_due f_l_is_told f_law f_Web_init f_Web_eq c_BadWare c_Web d_is_integer d_is_row d_is_fraction d_is_some d_multiplied d_squared d_is_stall d_is_ware d_check_ware d_across d_stalls_of d_neighbours d_joined d_pieces d_l_deck d_l_pick d_l_pairs d_l_stalls d_l_due d_l_is_told d_law d_Web_init d_Web_eq) : FnOk P w K mg base CX0 1 f_stalls_of d_stalls_of ["ware", "stalls"] (sp_stalls_of K) := by
  refine T.F_stalls_of.ok sc_stalls_of (fun vs H Q E h => ?_) (fun cdv A outer s H vs Q E hr h => ?_)
  · obtain ⟨t, xs, ss, wn, rfl, _⟩ := h
    rfl
  · obtain ⟨t, xs, ss, wn, rfl, ht, hss, h16, q⟩ := h
    have hl := hss.len
    refine ⟨_, (pss_one (ps_ret (pe_lc (own := [("stall", 2)]) (g := gName 2) rfl sc_stalls_of.nd (pi_tup (pv 1)) (blkOk_by (own := [("stall", 2)]) (N := N_stalls_of) (sc := defScope s_stalls_of) (by decide +kernel)) (fun _ _ _ _ _ => (pg_name (i := 2) sc_stalls_of.nd rfl (by first | exact Or.inl rfl | exact Or.inr rfl))) (fun _ _ _ _ _ => (pts_one (pt_cmpR (My.op_inK (K := K) (by rfl)) (pv 0) (pe_slice (My.sl_tupK (K := K) (by rfl)) (pv 2) po_none (po_some pe_int)) (by rfl)))) (fun _ _ _ _ _ => (pv 2))))), ?_⟩
    walk_at "r"
    refine ⟨⟨_, .of ht⟩, fun L nL => ?_⟩
    refine lc_tupP (R := IsSt K) (fun _ _ _ _ f h => h.ts f) (f := fun i => (ss[i]?).filter (·.at wn)) nL (by omega) (.of ht) (fun i x hx H' Q' N s1 hy hn => ?_) fun H' hlst => ?_
    · obtain ⟨s, hs, hst⟩ := hss.at hx
      have hst := hst.same s1
      obtain ⟨p, va, vb, vr, rfl, hp, _⟩ := id hst
      walk_at "r"
      refine ⟨rfl, ?_⟩
      walk_at "r"
      refine rd_slT hp (show ¬ (HT.sIx 5 0 none = 0 ∧ HT.sIx 5 5 (some 2) = 5) by decide) fun p1 H2 s2 h2 => ?_
      have h2 : H2 p1 = some (.tup [V.int (s.u : Nat), .int (s.v : Nat)]) := h2
      refine ⟨_, _, rfl, .inr (.of h2), rfl, rfl, ?_⟩
      refine ⟨_, rfl, ?_⟩
      rw [if_neg Bool.false_ne_true, stl_at_in]
      cases e : s.at wn
      · exact hn _ (by simp [hs, Option.filter, e]) s2
      · walk_at "r"
        exact hy s _ _ (by simp [hs, Option.filter, e]) s2 (hst.same s2)
    · obtain ⟨s1, ys, hL, hys⟩ := hlst
      rw [hl, upTo_filter] at hys
      exact q _ _ _ s1 hL hys
def sp_kept_of (K : PySem.W.Frag) : Sp := fun vs H Q _ => ∃ (t : Addr) (xs : List V) (ss : List Stl) (wn M : Nat), vs = [.int (wn : Nat), .ref t] ∧ H t = some (.tup xs) ∧ Sts K H xs ss ∧ ss.length ≤ 16 ∧ BL ss M ∧ M ≤ 4000 ∧
  ∀ H' v, Same H H' → IsF K H' v (heldAt ss wn) → Q v H'
def sp_held (K : PySem.W.Frag) (C : Addr) : Sp := fun vs H Q _ => ∃ (x : V) (n : Nat) (ss : List Stl) (M : Nat), vs = [x] ∧ IsWeb K C H x n ss ∧ n ≤ 8 ∧ ss.length ≤ 16 ∧ BL ss M ∧ M ≤ 4000 ∧ ∀ H' v, Same H H' → IsFs K H' v (heldAll n ss) → Q v H'
end
end My
namespace My
open PySem PySem.Spec PyProof.Rows L2
variable {K : PySem.W.Frag}
/-! ### webs compared -/
instance decStl : DecidableEq Stl := fun s t => decidable_of_decidable_of_iff (p := s.u = t.u ∧ s.v = t.v ∧ s.a = t.a ∧ s.b = t.b ∧ s.r = t.r) (by
  obtain ⟨u, v, a, b, r⟩ := s
  obtain ⟨u', v', a', b', r'⟩ := t
  simp only [Stl.mk.injEq])
def stD (s : Stl) : PyData := .tuple [.int (s.u : Nat), .int (s.v : Nat), frD s.a, frD s.b, frD s.r]
theorem stD_eqv (s t : Stl) : PyData.eqv (stD s) (stD t) = decide (s = t) := by
  have e : PyData.eqv (stD s) (stD t) = (decide ((s.u : Int) = t.u) && (decide ((s.v : Int) = t.v) && (decide (s.a = t.a) && (decide (s.b = t.b) && decide (s.r = t.r))))) := by
    unfold stD
    rw [PyData.eqv, PyData.eqvAll, PyData.eqvAll, PyData.eqvAll, PyData.eqvAll, PyData.eqvAll, PyData.eqvAll, frD_eqv, frD_eqv, frD_eqv]
    simp only [PyData.eqv, Bool.and_true, Bool.beq_eq_decide_eq]
  rw [e, Bool.eq_iff_iff]
  simp only [Bool.and_eq_true, decide_eq_true_eq]
  obtain ⟨u, v, a, b, r⟩ := s
  obtain ⟨u', v', a', b', r'⟩ := t
  simp only [Stl.mk.injEq]
  constructor <;> rintro ⟨h1, h2, h3, h4, h5⟩ <;> exact ⟨by omega, by omega, h3, h4, h5⟩
theorem sts_eqv : ∀ ss tt : List Stl, PyData.eqvAll (ss.map stD) (tt.map stD) = decide (ss = tt)
  | [], [] => rfl
  | [], _ :: _ => rfl
  | _ :: _, [] => rfl
  | s :: ss, t :: tt => by
    show (PyData.eqv (stD s) (stD t) && PyData.eqvAll (ss.map stD) (tt.map stD)) = _
    rw [stD_eqv, sts_eqv ss tt, Bool.eq_iff_iff]
    simp
theorem sts_lay : ∀ ss : List Stl, PyData.canLayAll0 (ss.map stD) = true ∧ PyData.depthAll (ss.map stD) ≤ 2
  | [] => ⟨rfl, by decide⟩
  | s :: ss => by
    obtain ⟨h1, h2⟩ := sts_lay ss
    refine ⟨?_, ?_⟩
    · show (PyData.canLay0 (stD s) && PyData.canLayAll0 (ss.map stD)) = true
      rw [h1]
      rfl
    · show max (PyData.depth (stD s)) (PyData.depthAll (ss.map stD)) ≤ 2
      have : PyData.depth (stD s) = 2 := rfl
      omega
theorem sts_shaped (ss : List Stl) : SeqAt.shaped (.tuple (ss.map stD)) = true := by
  obtain ⟨h1, h2⟩ := sts_lay ss
  unfold SeqAt.shaped
  rw [Bool.and_eq_true]
  refine ⟨h1, decide_eq_true ?_⟩
  show PyData.depthAll (ss.map stD) + 1 ≤ 64
  omega
theorem IsSt.dp {K : PySem.W.Frag} {H : Hp} {x : V} {s : Stl} (h : IsSt K H x s) : Dp K H x (stD s) := by
  obtain ⟨p, va, vb, vr, rfl, h, a, b, r⟩ := h
  exact .tup (.of h) (.cons (.int _) (.cons (.int _) (.cons a.dp (.cons b.dp (.cons r.dp .nil)))))
theorem Sts.dp {K : PySem.W.Frag} {H : Hp} {t : Addr} {xs : List V} {ss : List Stl} (h : Sts K H xs ss) (ht : H t = some (.tup xs)) : Dp K H (.ref t) (.tuple (ss.map stD)) := by
  refine .tup (.of ht) ?_
  clear ht
  unfold Sts at h
  induction h with
  | nil => exact .nil
  | cons h t ih => exact .cons h.dp ih
end My
namespace My
open PySem PySem.Spec PyProof.Rows L2
/-! ### x != y of instances with an own == and no own != -/
section
variable {prog : Program} {w : World} {A : Around} {E : Value → Shared → Prop} {s : Shared} {K : PySem.W.Frag} {x y C f : Addr} {ox : Obj} {od : Option Obj}
theorem boundB {name : Str} {id B : String} {args : List Value} {Q : Option Value → Shared → Prop} (X : K.In s.heap) (I : PySem.W.InstAt s.heap x ox C od) (hs : PySem.W.findIn K (.ref C) name = some (some (.builtin id))) (S : Slot B name id)
    (h : wpAny (model prog w) A (call (.builtin id) (.ref x :: args)) (fun v => Q (some v)) E s) : wpAny (model prog w) A (callSpecialIfBound? (.ref x) name args) Q E s := by
  have fin : wpAny (model prog w) A (do let v ← call (.builtin id) ([.ref x] ++ args); pure (some v)) Q E s := wpAny_bind (wpAny_mono h (fun v s' q => wpAny_pure q) fun _ _ q => q)
  simp only [callSpecialIfBound?, bindSpecialIfBound?]
  refine wpAny_holding (wpAny_bind (wpAny_bind (wpAny_bind (I.type.here ((PySem.W.looks_findIn X hs).here ?_)))))
  simp only [S.bind]
  refine wpAny_bind (wpAny_askSetting (wpAny_ite ?_))
  split
  · exact wpAny_bind (wpAny_pure (wpAny_pure fin))
  · exact wpAny_tryCatch (wpAny_bind (wpAny_pure (wpAny_pure fin)))
theorem neBody {Q : Fin → Shared → Prop} (hu : A.units < cLine) (X : K.In s.heap) (I : PySem.W.InstAt s.heap x ox C od) (hs : PySem.W.findIn K (.ref C) "__eq__" = some (some (.ref f))) (hf : PySem.W.isFn K (.ref f) = true)
    (h : wpAny (model prog w) A (call (.ref f) [.ref x, .ref y]) (fun v s' => ∃ b, v = .bool b ∧ Q (.done (.ret (.bool (!b)))) s') E s) : wpAny (model prog w) A (Builtin.«object.__ne__» ⟨[.ref x, .ref y], []⟩) Q E s := by
  unfold Builtin.«object.__ne__»
  have step : wpAny (model prog w) A (callSpecialIfBound? (.ref x) (Str.ofString "__eq__") [.ref y]) (fun r s' => ∃ b, r = some (.bool b) ∧ Q (.done (.ret (.bool (!b)))) s') E s :=
    PySem.W.ifBound_K X I hs hf (wpAny_mono h (fun v s' q => by obtain ⟨b, rfl, q⟩ := q; exact ⟨b, rfl, q⟩) fun _ _ q => q)
  repeat (first
    | with_reducible refine wpAny_cRoomFor hu ?_
    | (refine wpAny_bind (m := callSpecialIfBound? (.ref x) (Str.ofString "__eq__") [.ref y]) (wpAny_mono step (fun r s' q => ?_) fun _ _ q => q); obtain ⟨b, rfl, q⟩ := q)
    | exact q
    | (refine wpAny_bind (m := truthy (.bool _)) (wpAny_truthy_bool ?_))
    | wp_step)
theorem tryNe {Q : Option Value → Shared → Prop} (hu : A.units + 1 < cLine) (X : K.In s.heap) (I : PySem.W.InstAt s.heap x ox C od) (hne : PySem.W.findIn K (.ref C) "__ne__" = some (some (.builtin "object.__ne__"))) (hm : PySem.W.mroIn K C (.type "object") = some true)
    (hs : PySem.W.findIn K (.ref C) "__eq__" = some (some (.ref f))) (hf : PySem.W.isFn K (.ref f) = true)
    (h : wpAny (model prog w) A.in1 (call (.ref f) [.ref x, .ref y]) (fun v s' => ∃ b, v = .bool b ∧ Q (some (.bool (!b))) s') E s) : wpAny (model prog w) A (tryCompare (.ref x) "__ne__" (.ref y)) Q E s := by
  simp only [tryCompare]
  refine wpAny_bind (boundB X I hne F.cmp_object.ne (wpAny_call (codeAny_call_builtin F.cmp_object.ne.plain F.cmpEntry_ne (PySem.W.check_slot F.cmpKind_ne F.cmpSplit_ne (I.type.andThen (PySem.W.looks_mroIn X hm)) (F.cmpArgs_ne _ _) (neBody (A := A.in1) (by
    show A.units + 1 < cLine
    exact hu) X I hs hf (wpAny_mono h (fun v s' q => ?_) fun _ _ q => q))))))
  obtain ⟨b, rfl, q⟩ := q
  first
    | exact ⟨b, rfl, ⟨_, rfl, wpAny_pure q⟩⟩
    | exact ⟨b, rfl, wpAny_pure q⟩
    | exact ⟨b, rfl, wpAny_pure (wpAny_pure q)⟩
theorem richNe {oy : Obj} {ody : Option Obj} {Q : Value → Shared → Prop} (hu : A.units + 1 < cLine) (X : K.In s.heap) (I : PySem.W.InstAt s.heap x ox C od) (J : PySem.W.InstAt s.heap y oy C ody) (hne : PySem.W.findIn K (.ref C) "__ne__" = some (some (.builtin "object.__ne__"))) (hm : PySem.W.mroIn K C (.type "object") = some true)
    (hs : PySem.W.findIn K (.ref C) "__eq__" = some (some (.ref f))) (hf : PySem.W.isFn K (.ref f) = true)
    (h : wpAny (model prog w) A.in1 (call (.ref f) [.ref x, .ref y]) (fun v s' => ∃ b, v = .bool b ∧ Q (.bool (!b)) s') E s) : wpAny (model prog w) A (richCompare .NotEq (.ref x) (.ref y)) Q E s := by
  unfold richCompare
  simp only [oneThing_ref]
  refine wpAny_holding (wpAny_bind (wpAny_cRoomFor (Nat.lt_of_succ_lt hu) ?_))
  rw [cmpInfo_NotEq]
  refine wpAny_bind (I.type.here (wpAny_bind (J.type.here ?_)))
  rw [show (Value.ref C != Value.ref C) = false by simp]
  simp only [Bool.false_eq_true, if_false]
  refine wpAny_bind (wpAny_pure ?_)
  refine wpAny_bind (tryNe hu X I hne hm hs hf (wpAny_mono h (fun v s' q => ?_) fun _ _ q => q))
  obtain ⟨b, rfl, q⟩ := q
  exact ⟨b, rfl, wpAny_pure q⟩
end
/-- x != y, both instances of C; R what the two must be, for any answer of the own == -/
def spEqB (R : Addr → Addr → Hp → Bool → Prop) : Sp := fun vs H Q _ => ∃ a b r, vs = [.ref a, .ref b] ∧ R a b H r ∧ Q (.bl r) H
def rNeI (C : Addr) (R : Addr → Addr → Hp → Bool → Prop) : R2 := fun x y H Q => ∃ a b dx dy fs gs r, x = .ref a ∧ y = .ref b ∧ H a = some (.ins C dx fs) ∧ H b = some (.ins C dy gs) ∧ R a b H r ∧ Q (.bl (!r)) H
theorem op_neI {X : Cx} {n : Nat} {C f : Addr} {fd : FuncData} {ps : List Str} {R : Addr → Addr → Hp → Bool → Prop} (F : FnOk X.prog X.w X.K X.mg X.base CX0 n f fd ps (spEqB R)) (hr : Room (n + 1) X.A)
    (hne : PySem.W.findIn X.K (.ref C) "__ne__" = some (some (.builtin "object.__ne__"))) (hm : PySem.W.mroIn X.K C (.type "object") = some true) (hs : PySem.W.findIn X.K (.ref C) "__eq__" = some (some (.ref f))) (hf : PySem.W.isFn X.K (.ref f) = true) (hb : Binds X.K fd ps []) :
    OpR X (compareOp .NotEq) (rNeI C R) := by
  intro pins s σ H x y v u Q I rx ry hq
  obtain ⟨a, b, dx, dy, fs, gs, r, rfl, rfl, ha, hb', hR, q⟩ := hq
  cases rx
  cases ry
  obtain ⟨mA, J, _⟩ := ins_get I.hok ha
  obtain ⟨mB, J', _⟩ := ins_get I.hok hb'
  obtain ⟨od, J, _⟩ := J.look
  obtain ⟨od', J', _⟩ := J'.look
  show wpAny (model X.prog X.w) X.A (richCompare .NotEq (.ref a) (.ref b)) (EP X pins σ Q) X.xe s
  refine richNe ?_ I.kIn J J' hne hm hs hf ?_
  · have := hr.un
    omega
  have hsp : spEqB R [.ref a, .ref b] H (fun v H' => v = .bl r ∧ H' = H) E0 := ⟨a, b, r, rfl, hR, rfl, rfl⟩
  have e0 : Env0 X.prog X.w X.K X.mg X.base X.A.in1 X.stack s H := I.env0.in1
  have hl := F.len _ _ _ _ hsp
  have r2 : Vals [V.ref a, V.ref b] [Value.ref a, Value.ref b] := .cons rfl (.cons rfl .nil)
  refine wpAny_call (codeAny_mono (F.run X.A.in1 X.stack s H ⟨[.ref a, .ref b], []⟩ [.ref a, .ref b] [.ref a, .ref b] _ E0 hr.in1 e0 (by
    have := hb s [.ref a, .ref b] I.kIn (by simpa using hl)
    simpa using this) r2 hsp) fun z s' hz => ?_)
  cases z with
  | error e => exact False.elim hz
  | ok fl =>
    cases fl with
    | ret w' =>
      obtain ⟨z, H', I', rz, ez, ex⟩ := I.after hz
      subst ez
      subst ex
      cases rz
      exact ⟨r, rfl, .bl (!r), H', I', rfl, q⟩
    | next => exact False.elim hz
    | brk => exact False.elim hz
    | cont => exact False.elim hz
/-- x == y of such instances, for any answer of the own == -/
def rEqI (C : Addr) (R : Addr → Addr → Hp → Bool → Prop) : R2 := fun x y H Q => ∃ a b dx dy fs gs r, x = .ref a ∧ y = .ref b ∧ H a = some (.ins C dx fs) ∧ H b = some (.ins C dy gs) ∧ R a b H r ∧ Q (.bl r) H
theorem op_eqI {X : Cx} {n : Nat} {C f : Addr} {fd : FuncData} {ps : List Str} {R : Addr → Addr → Hp → Bool → Prop} (F : FnOk X.prog X.w X.K X.mg X.base CX0 n f fd ps (spEqB R)) (hr : Room (n + 1) X.A)
    (hs : PySem.W.findIn X.K (.ref C) "__eq__" = some (some (.ref f))) (hf : PySem.W.isFn X.K (.ref f) = true) (hb : Binds X.K fd ps []) : OpR X (compareOp .Eq) (rEqI C R) := by
  intro pins s σ H x y v u Q I rx ry hq
  obtain ⟨a, b, dx, dy, fs, gs, r, rfl, rfl, ha, hb', hR, q⟩ := hq
  cases rx
  cases ry
  obtain ⟨mA, J, _⟩ := ins_get I.hok ha
  obtain ⟨mB, J', _⟩ := ins_get I.hok hb'
  obtain ⟨od, J, _⟩ := J.look
  obtain ⟨od', J', _⟩ := J'.look
  obtain ⟨m, hF⟩ := I.fr
  show wpAny (model X.prog X.w) X.A (richCompare .Eq (.ref a) (.ref b)) (EP X pins σ Q) X.xe s
  refine PySem.W.cmp_K (op := .Eq) (tb := .ref C) hr.units0 hF I.ok.mod.kin J J'.type (by simp [PySem.W.notFirst]) hs hf ?_
  have hsp : spEqB R [.ref a, .ref b] H (fun v H' => v = .bl r ∧ H' = H) E0 := ⟨a, b, r, rfl, hR, rfl, rfl⟩
  have hl := F.len _ _ _ _ hsp
  have r2 : Vals [V.ref a, V.ref b] [Value.ref a, Value.ref b] := .cons rfl (.cons rfl .nil)
  refine wpAny_call (codeAny_mono (F.run X.A X.stack s H ⟨[.ref a, .ref b], []⟩ [.ref a, .ref b] [.ref a, .ref b] _ E0 (hr.mono (Nat.le_succ n)) I.env0 (by
    have := hb s [.ref a, .ref b] I.kIn (by simpa using hl)
    simpa using this) r2 hsp) fun z s' hz => ?_)
  cases z with
  | error e => exact False.elim hz
  | ok fl =>
    cases fl with
    | ret w' =>
      obtain ⟨z, H', I', rz, ez, ex⟩ := I.after hz
      subst ez
      subst ex
      cases rz
      exact ⟨.bl r, H', I', rfl, q⟩
    | next => exact False.elim hz
    | brk => exact False.elim hz
    | cont => exact False.elim hz
end My
namespace My
open PySem PySem.Spec PyProof.Rows L2
variable {K : PySem.W.Frag}
theorem kit_self {K : PySem.W.Frag} {t : Value} : PySem.W.kitOne K t t = some true := by
  unfold PySem.W.kitOne
  simp
section
variable {P : Program} {w : World} {K : PySem.W.Frag} {mg : Str → Option Value} {base : Heap} {f_is_integer f_is_row f_is_fraction f_is_some f_multiplied f_squared f_is_stall f_is_ware f_check_ware f_across f_stalls_of f_neighbours f_joined f_pieces f_l_deck f_l_pick f_l_pairs f_l_stalls f_l_due f_l_is_told f_law f_Web_init f_Web_eq c_BadWare c_Web : Addr} {d_is_integer d_is_row d_is_fraction d_is_some d_multiplied d_squared d_is_stall d_is_ware d_check_ware d_across d_stalls_of d_neighbours d_joined d_pieces d_l_deck d_l_pick d_l_pairs d_l_stalls d_l_due d_l_is_told d_law d_Web_init d_Web_eq : FuncData}
def sp_weq (K : PySem.W.Frag) (C : Addr) : Sp := fun vs H Q _ => ∃ (x y : V) (n m : Nat) (ss tt : List Stl), vs = [x, y] ∧ IsWeb K C H x n ss ∧ IsWeb K C H y m tt ∧ Q (.bl (decide (n = m) && decide (ss = tt))) H
theorem ok_Web_eq (T : Txt K mg f_is_integer f_is_row f_is_fraction f_is_some f_multiplied f_squared f_is_stall f_is_ware f_check_ware f_across f_stalls_of f_neighbours f_joined f_pieces f_l_deck f_l_pick f_l_pairs f_l_stalls f_l_due f_l_is_told f_law f_Web_init f_Web_eq c_BadWare c_Web d_is_integer d_is_row d_is_fraction d_is_some d_multiplied d_squared d_is_stall d_is_ware d_check_ware d_across d_stalls_of d_neighbours d_joined d_pieces d_l_deck d_l_pick d_l_pairs d_l_stalls d_l_due d_l_is_told d_law d_Web_init d_Web_eq) : FnOk P w K mg base CX0 1 f_Web_eq d_Web_eq ["self", "other"] (sp_weq K c_Web) := by
  refine T.F_Web_eq.ok sc_Web_eq (fun vs H Q E h => ?_) (fun cdv A outer s H vs Q E hr h => ?_)
  · obtain ⟨x, y, n, m, ss, tt, rfl, _⟩ := h
    rfl
  · obtain ⟨x, y, n, m, ss, tt, rfl, ⟨p, dx, t, xs, rfl, hp, ht, hss⟩, ⟨p2, dx2, t2, xs2, rfl, hp2, ht2, hss2⟩, q⟩ := h
    refine ⟨_, (pss_one (ps_ret (pe_and (pe_callB call_isi (by rfl) T.z_isinstance (by decide +kernel) (pa_cons (pv 1) (pa_cons (pe_glob (v := .ref c_Web) (by rfl) T.w_Web.g rfl) pa_nil))) (pe_and (pe_cmpR op_eq (pe_fld (pv 0) rfl) (pe_fld (pv 1) rfl) (nomark _)) (pe_one (pe_cmpR (op_eqD hr.units) (pe_fld (pv 0) rfl) (pe_fld (pv 1) rfl) (nomark _))))))), ?_⟩
    walk_at "r"
    refine ⟨_, _, _, _, _, rfl, .own _, .base (.ins hp2 T.w_Web.it.cl T.w_Web.it.ha T.w_Web.it.hn T.w_Web.it.ht T.w_Web.it.mo), kit_self, ?_⟩
    walk_at "r"
    refine ⟨_, _, _, _, _, rfl, hp, T.w_Web.it.cl, T.n_Web_wares, wF_wares _ _, ?_⟩
    walk_at "r"
    refine ⟨_, _, _, _, _, rfl, hp2, T.w_Web.it.cl, T.n_Web_wares, wF_wares _ _, ?_⟩
    walk_at "r"
    have e1 : decide (((n : Nat) : Int) = (m : Nat)) = decide (n = m) := by
      rw [Bool.eq_iff_iff, decide_eq_true_eq, decide_eq_true_eq]
      omega
    by_cases e : n = m
    · have e2 : ((n : Nat) : Int) = (m : Nat) := by omega
      rw [decide_eq_true e, Bool.true_and] at q
      rw [decide_eq_true e2]
      walk_at "r"
      refine ⟨_, _, _, _, _, rfl, hp, T.w_Web.it.cl, T.n_Web_stalls, wF_stalls _ _, ?_⟩
      walk_at "r"
      refine ⟨_, _, _, _, _, rfl, hp2, T.w_Web.it.cl, T.n_Web_stalls, wF_stalls _ _, ?_⟩
      refine ⟨_, _, hss.dp ht, hss2.dp ht2, sts_shaped _, sts_shaped _, ?_⟩
      rw [show PyData.eqv (.tuple (ss.map stD)) (.tuple (tt.map stD)) = decide (ss = tt) from sts_eqv ss tt]
      exact q
    · have e2 : ¬ ((n : Nat) : Int) = (m : Nat) := by omega
      rw [decide_eq_false e, Bool.false_and] at q
      rw [decide_eq_false e2]
      walk_at "r"
      exact q
/-- two webs that are equal -/
def RWeb (K : PySem.W.Frag) (C : Addr) : Addr → Addr → Hp → Prop := fun a b H => ∃ n ss, IsWeb K C H (.ref a) n ss ∧ IsWeb K C H (.ref b) n ss
theorem ok_Web_eqR (T : Txt K mg f_is_integer f_is_row f_is_fraction f_is_some f_multiplied f_squared f_is_stall f_is_ware f_check_ware f_across f_stalls_of f_neighbours f_joined f_pieces f_l_deck f_l_pick f_l_pairs f_l_stalls f_l_due f_l_is_told f_law f_Web_init f_Web_eq c_BadWare c_Web d_is_integer d_is_row d_is_fraction d_is_some d_multiplied d_squared d_is_stall d_is_ware d_check_ware d_across d_stalls_of d_neighbours d_joined d_pieces d_l_deck d_l_pick d_l_pairs d_l_stalls d_l_due d_l_is_told d_law d_Web_init d_Web_eq) : FnOk P w K mg base CX0 1 f_Web_eq d_Web_eq ["self", "other"] (spEq (RWeb K c_Web)) :=
  (ok_Web_eq T).imp fun vs H Q E h => by
    obtain ⟨a, b, rfl, ⟨n, ss, h1, h2⟩, q⟩ := h
    refine ⟨_, _, n, n, ss, ss, rfl, h1, h2, ?_⟩
    rw [decide_eq_true rfl, decide_eq_true rfl]
    exact q H Ext.rfl'
theorem rc_web {X : Cx} (T : Txt X.K X.mg f_is_integer f_is_row f_is_fraction f_is_some f_multiplied f_squared f_is_stall f_is_ware f_check_ware f_across f_stalls_of f_neighbours f_joined f_pieces f_l_deck f_l_pick f_l_pairs f_l_stalls f_l_due f_l_is_told f_law f_Web_init f_Web_eq c_BadWare c_Web d_is_integer d_is_row d_is_fraction d_is_some d_multiplied d_squared d_is_stall d_is_ware d_check_ware d_across d_stalls_of d_neighbours d_joined d_pieces d_l_deck d_l_pick d_l_pairs d_l_stalls d_l_due d_l_is_told d_law d_Web_init d_Web_eq) : RcG X 1 (DIns c_Web (RWeb X.K c_Web)) :=
  rcG_ins (E := E0) (ok_Web_eqR T) T.i_Web_eq T.fn_Web_eq T.b_Web_eq pass0
/-- what the own == answers of two webs -/
def BWeb (K : PySem.W.Frag) (C : Addr) : Addr → Addr → Hp → Bool → Prop := fun a b H r => ∃ n m ss tt, IsWeb K C H (.ref a) n ss ∧ IsWeb K C H (.ref b) m tt ∧ r = (decide (n = m) && decide (ss = tt))
theorem ok_Web_eq_B (T : Txt K mg f_is_integer f_is_row f_is_fraction f_is_some f_multiplied f_squared f_is_stall f_is_ware f_check_ware f_across f_stalls_of f_neighbours f_joined f_pieces f_l_deck f_l_pick f_l_pairs f_l_stalls f_l_due f_l_is_told f_law f_Web_init f_Web_eq c_BadWare c_Web d_is_integer d_is_row d_is_fraction d_is_some d_multiplied d_squared d_is_stall d_is_ware d_check_ware d_across d_stalls_of d_neighbours d_joined d_pieces d_l_deck d_l_pick d_l_pairs d_l_stalls d_l_due d_l_is_told d_law d_Web_init d_Web_eq) : FnOk P w K mg base CX0 1 f_Web_eq d_Web_eq ["self", "other"] (spEqB (BWeb K c_Web)) :=
  (ok_Web_eq T).imp fun vs H Q E h => by
    obtain ⟨a, b, r, rfl, ⟨n, m, ss, tt, h1, h2, rfl⟩, q⟩ := h
    exact ⟨_, _, n, m, ss, tt, rfl, h1, h2, q⟩
end
end My
namespace My
open PySem PySem.Spec PyProof.Rows L2
variable {K : PySem.W.Frag}
theorem call_tuple_ofK {X : Cx} (h : X.K = K) : CallR X (.type "tuple") (fun xs H Q => ∃ p ys, xs = [.ref p] ∧ ((SqL K H p ys ∧ ∀ l, H l = none → Q (.ref l) (upd H l (.tup ys))) ∨ (SqT K H p ys ∧ Q (.ref p) H))) := h ▸ call_tuple_of
theorem frD_refl (r : Rat) : PyData.eqv (frD r) (frD r) = true := by rw [frD_eqv]; exact decide_eq_true rfl
theorem all_refl {α : Type} (f : α → PyData) (h : ∀ a, PyData.eqv (f a) (f a) = true) : ∀ l : List α, PyData.eqvAll (l.map f) (l.map f) = true
  | [] => rfl
  | a :: l => by
    show (PyData.eqv (f a) (f a) && PyData.eqvAll (l.map f) (l.map f)) = true
    rw [h, all_refl f h l]
    rfl
theorem all_lay {α : Type} (f : α → PyData) (h : ∀ a, PyData.canLay0 (f a) = true ∧ PyData.depth (f a) ≤ 2) : ∀ l : List α, PyData.canLayAll0 (l.map f) = true ∧ PyData.depthAll (l.map f) ≤ 2
  | [] => ⟨rfl, by show PyData.depthAll [] ≤ 2; decide⟩
  | a :: l => by
    obtain ⟨h1, h2⟩ := all_lay f h l
    obtain ⟨g1, g2⟩ := h a
    refine ⟨?_, ?_⟩
    · show (PyData.canLay0 (f a) && PyData.canLayAll0 (l.map f)) = true
      rw [h1, g1]
      rfl
    · show max (PyData.depth (f a)) (PyData.depthAll (l.map f)) ≤ 2
      omega
theorem shaped_list {α : Type} (f : α → PyData) (h : ∀ a, PyData.canLay0 (f a) = true ∧ PyData.depth (f a) ≤ 2) (l : List α) : SeqAt.shaped (.list (l.map f)) = true := by
  obtain ⟨h1, h2⟩ := all_lay f h l
  unfold SeqAt.shaped
  rw [Bool.and_eq_true]
  refine ⟨h1, decide_eq_true ?_⟩
  show PyData.depthAll (l.map f) + 1 ≤ 64
  omega
theorem shaped_tup {α : Type} (f : α → PyData) (h : ∀ a, PyData.canLay0 (f a) = true ∧ PyData.depth (f a) ≤ 2) (l : List α) : SeqAt.shaped (.tuple (l.map f)) = true := by
  obtain ⟨h1, h2⟩ := all_lay f h l
  unfold SeqAt.shaped
  rw [Bool.and_eq_true]
  refine ⟨h1, decide_eq_true ?_⟩
  show PyData.depthAll (l.map f) + 1 ≤ 64
  omega
theorem dps {α : Type} {R : Hp → V → α → Prop} {f : α → PyData} (hf : ∀ {H : Hp} {v : V} {a : α}, R H v a → Dp K H v (f a)) {H : Hp} {ys : List V} {as : List α} (h : Paired (R H) ys as) : DpAll K H ys (as.map f) := by
  induction h with
  | nil => exact .nil
  | cons h t ih => exact .cons (hf h) ih
theorem IsFs.dp {H : Hp} {v : V} {rs : List Rat} (h : IsFs K H v rs) : Dp K H v (.tuple (rs.map frD)) := by
  obtain ⟨L, ys, rfl, h1, h2⟩ := h
  exact .tup (.of h1) (dps (R := IsF K) (fun h => h.dp) h2)
theorem neFs {H : Hp} {v u : V} {rs : List Rat} {Q : VK} (h1 : IsFs K H v rs) (h2 : IsFs K H u rs) (q : Q (.bl false) H) : rNeD K v u H Q := by
  have sh := shaped_tup frD (fun m => ⟨rfl, Nat.le_succ 1⟩) rs
  refine ⟨_, _, h1.dp, h2.dp, sh, sh, ?_⟩
  rw [show PyData.eqv (.tuple (rs.map frD)) (.tuple (rs.map frD)) = true from all_refl frD frD_refl rs]
  exact q
theorem eqFs {H : Hp} {v u : V} {rs : List Rat} {Q : VK} (h1 : IsFs K H v rs) (h2 : IsFs K H u rs) (q : Q (.bl true) H) : rEqD K v u H Q := by
  have sh := shaped_tup frD (fun m => ⟨rfl, Nat.le_succ 1⟩) rs
  refine ⟨_, _, h1.dp, h2.dp, sh, sh, ?_⟩
  rw [show PyData.eqv (.tuple (rs.map frD)) (.tuple (rs.map frD)) = true from all_refl frD frD_refl rs]
  exact q
/-- own == and != of webs that are equal -/
theorem neWeb {C : Addr} {H : Hp} {v u : V} {n : Nat} {ss : List Stl} {Q : VK} (h1 : IsWeb K C H v n ss) (h2 : IsWeb K C H u n ss) (q : Q (.bl false) H) : rNeI C (BWeb K C) v u H Q := by
  obtain ⟨p, dx, t, xs, rfl, hp, _⟩ := id h1
  obtain ⟨p2, dx2, t2, xs2, rfl, hp2, _⟩ := id h2
  exact ⟨_, _, _, _, _, _, true, rfl, rfl, hp, hp2, ⟨n, n, _, _, h1, h2, by simp⟩, q⟩
theorem eqWeb {C : Addr} {H : Hp} {v u : V} {n : Nat} {ss : List Stl} {Q : VK} (h1 : IsWeb K C H v n ss) (h2 : IsWeb K C H u n ss) (q : Q (.bl true) H) : rEqI C (BWeb K C) v u H Q := by
  obtain ⟨p, dx, t, xs, rfl, hp, _⟩ := id h1
  obtain ⟨p2, dx2, t2, xs2, rfl, hp2, _⟩ := id h2
  exact ⟨_, _, _, _, _, _, true, rfl, rfl, hp, hp2, ⟨n, n, _, _, h1, h2, by simp⟩, q⟩
end My
namespace My
open PySem PySem.Spec PyProof.Rows L2
variable {K : PySem.W.Frag}
def Stl.other (s : Stl) (w : Nat) : Nat := if w = s.u then s.v else s.u
section
variable {P : Program} {w : World} {K : PySem.W.Frag} {mg : Str → Option Value} {base : Heap} {f_is_integer f_is_row f_is_fraction f_is_some f_multiplied f_squared f_is_stall f_is_ware f_check_ware f_across f_stalls_of f_neighbours f_joined f_pieces f_l_deck f_l_pick f_l_pairs f_l_stalls f_l_due f_l_is_told f_law f_Web_init f_Web_eq c_BadWare c_Web : Addr} {d_is_integer d_is_row d_is_fraction d_is_some d_multiplied d_squared d_is_stall d_is_ware d_check_ware d_across d_stalls_of d_neighbours d_joined d_pieces d_l_deck d_l_pick d_l_pairs d_l_stalls d_l_due d_l_is_told d_law d_Web_init d_Web_eq : FuncData}
def sp_isiJ7 (K : PySem.W.Frag) : Sp := fun vs H Q _ => ∃ v b, vs = [v] ∧ ((∃ i : Int, v = .int i) ∧ b = true ∨ (∃ D, Od K D H v) ∧ b = false) ∧ Q (.bl b) H
theorem ok_is_integer7 (T : Txt K mg f_is_integer f_is_row f_is_fraction f_is_some f_multiplied f_squared f_is_stall f_is_ware f_check_ware f_across f_stalls_of f_neighbours f_joined f_pieces f_l_deck f_l_pick f_l_pairs f_l_stalls f_l_due f_l_is_told f_law f_Web_init f_Web_eq c_BadWare c_Web d_is_integer d_is_row d_is_fraction d_is_some d_multiplied d_squared d_is_stall d_is_ware d_check_ware d_across d_stalls_of d_neighbours d_joined d_pieces d_l_deck d_l_pick d_l_pairs d_l_stalls d_l_due d_l_is_told d_law d_Web_init d_Web_eq) : FnOk P w K mg base CX0 1 f_is_integer d_is_integer ["thing"] (sp_isiJ7 K) := by
  refine T.F_is_integer.ok sc_is_integer (fun vs H Q E h => ?_) (fun cdv A outer s H vs Q E hr h => ?_)
  · obtain ⟨v, b, rfl, _⟩ := h
    rfl
  · obtain ⟨v, b, rfl, h, q⟩ := h
    refine ⟨_, (pss_one (ps_ret (pe_and (pe_callB call_isi (by rfl) T.z_isinstance (by decide +kernel) (pa_cons (pv 0) (pa_cons (pe_bltn (v := .ty "int") (u := .type "int") (by rfl) T.z_int (by decide +kernel) rfl) pa_nil))) (pe_one (pe_not (pe_callB call_isi (by rfl) T.z_isinstance (by decide +kernel) (pa_cons (pv 0) (pa_cons (pe_bltn (v := .ty "bool") (u := .type "bool") (by rfl) T.z_bool (by decide +kernel) rfl) pa_nil)))))))), ?_⟩
    rcases h with ⟨⟨i, rfl⟩, rfl⟩ | ⟨⟨D, o⟩, rfl⟩
    · walk_at "r"
      exact q
    · obtain ⟨b1, b2, b3, hb, h1, h2, -⟩ := o.isi
      walk_at "r"
      refine h1 _ ?_
      cases b1 with
      | false =>
        walk_at "r"
        exact q
      | true =>
        have e : b2 = true := by
          cases b2
          · cases hb
          · rfl
        subst e
        walk_at "r"
        refine h2 _ ?_
        walk_at "r"
        exact q
def sp_across (K : PySem.W.Frag) : Sp := fun vs H Q _ => ∃ (v : V) (s : Stl) (wn : Nat), vs = [v, .int (wn : Nat)] ∧ IsSt K H v s ∧ Q (.int (s.other wn : Nat)) H
theorem ok_across (T : Txt K mg f_is_integer f_is_row f_is_fraction f_is_some f_multiplied f_squared f_is_stall f_is_ware f_check_ware f_across f_stalls_of f_neighbours f_joined f_pieces f_l_deck f_l_pick f_l_pairs f_l_stalls f_l_due f_l_is_told f_law f_Web_init f_Web_eq c_BadWare c_Web d_is_integer d_is_row d_is_fraction d_is_some d_multiplied d_squared d_is_stall d_is_ware d_check_ware d_across d_stalls_of d_neighbours d_joined d_pieces d_l_deck d_l_pick d_l_pairs d_l_stalls d_l_due d_l_is_told d_law d_Web_init d_Web_eq) : FnOk P w K mg base CX0 1 f_across d_across ["stall", "ware"] (sp_across K) := by
  refine T.F_across.ok sc_across (fun vs H Q E h => ?_) (fun cdv A outer s H vs Q E hr h => ?_)
  · obtain ⟨v, s, wn, rfl, _⟩ := h
    rfl
  · obtain ⟨v, s, wn, rfl, ⟨p, va, vb, vr, rfl, hp, ha, hb, hr'⟩, q⟩ := h
    refine ⟨_, (pss_cons (ps_if (pt_cmpR op_eq (pv 1) (pe_ix ix_tup (pv 0) pe_int (fun _ _ => rfl)) (nomark _))
        (pss_one (ps_ret (pe_ix ix_tup (pv 0) pe_int (fun _ _ => rfl))))
        pss_nil)
      (pss_one (ps_ret (pe_ix ix_tup (pv 0) pe_int (fun _ _ => rfl))))), ?_⟩
    walk_at "r"
    walk_at "if"
    · rename_i e
      rw [show s.other wn = s.v from if_pos (by omega)] at q
      walk_at "r"
      exact q
    · rename_i e
      rw [show s.other wn = s.u from if_neg (by omega)] at q
      walk_at "r"
      exact q
/-- whether a thing is a ware of so many -/
def Wr (K : PySem.W.Frag) (H : Hp) (n : Nat) (v : V) (b : Bool) : Prop := (∃ i : Int, v = .int i ∧ b = decide (0 ≤ i ∧ i < n)) ∨ ((∃ D, Od K D H v) ∧ b = false)
def sp_is_ware (K : PySem.W.Frag) (C : Addr) : Sp := fun vs H Q _ => ∃ (x v : V) (n : Nat) (ss : List Stl) (b : Bool), vs = [x, v] ∧ IsWeb K C H x n ss ∧ Wr K H n v b ∧ Q (.bl b) H
theorem ok_is_ware (T : Txt K mg f_is_integer f_is_row f_is_fraction f_is_some f_multiplied f_squared f_is_stall f_is_ware f_check_ware f_across f_stalls_of f_neighbours f_joined f_pieces f_l_deck f_l_pick f_l_pairs f_l_stalls f_l_due f_l_is_told f_law f_Web_init f_Web_eq c_BadWare c_Web d_is_integer d_is_row d_is_fraction d_is_some d_multiplied d_squared d_is_stall d_is_ware d_check_ware d_across d_stalls_of d_neighbours d_joined d_pieces d_l_deck d_l_pick d_l_pairs d_l_stalls d_l_due d_l_is_told d_law d_Web_init d_Web_eq) : FnOk P w K mg base CX0 2 f_is_ware d_is_ware ["web", "thing"] (sp_is_ware K c_Web) := by
  have G_is_integer : FnOk P w K mg base CX0 1 f_is_integer d_is_integer ["thing"] (sp_isiJ7 K) := ok_is_integer7 T
  refine T.F_is_ware.ok sc_is_ware (fun vs H Q E h => ?_) (fun cdv A outer s H vs Q E hr h => ?_)
  · obtain ⟨x, v, n, ss, b, rfl, _⟩ := h
    rfl
  · obtain ⟨x, v, n, ss, b, rfl, ⟨px, dx, t, xs, rfl, hp, ht, hss⟩, hv, q⟩ := h
    refine ⟨_, (pss_one (ps_ret (pe_and (pe_call G_is_integer (hr.mono (by decide)) (by rfl) T.g_is_integer T.k_is_integer T.b_is_integer .nil pass0 (pa_cons (pv 1) pa_nil)) (pe_one (pe_chain op_le op_lt pe_int (pv 1) (pe_fld (pv 0) rfl)))))), ?_⟩
    rcases hv with ⟨i, rfl, rfl⟩ | ⟨o, rfl⟩
    · walk_at "r"
      refine ⟨_, _, rfl, .inl ⟨⟨_, rfl⟩, rfl⟩, ?_⟩
      walk_at "r"
      by_cases c : 0 ≤ i
      · walk_at "r"
        refine ⟨_, _, _, _, _, rfl, hp, T.w_Web.it.cl, T.n_Web_wares, wF_wares _ _, ?_⟩
        walk_at "r"
        rw [show decide (i < (n : Int)) = decide (0 ≤ i ∧ i < (n : Int)) by simp [c]]
        exact q
      · walk_at "r"
        rw [show decide (0 ≤ i ∧ i < (n : Int)) = false by simp [c]] at q
        exact q
    · walk_at "r"
      refine ⟨_, _, rfl, .inr ⟨o, rfl⟩, ?_⟩
      walk_at "r"
      exact q
def sp_check_ware (K : PySem.W.Frag) (C : Addr) : Sp := fun vs H Q _ => ∃ (x : V) (n : Nat) (ss : List Stl) (wn : Nat), vs = [x, .int (wn : Nat)] ∧ IsWeb K C H x n ss ∧ wn < n ∧ Q .non H
theorem ok_check_ware (T : Txt K mg f_is_integer f_is_row f_is_fraction f_is_some f_multiplied f_squared f_is_stall f_is_ware f_check_ware f_across f_stalls_of f_neighbours f_joined f_pieces f_l_deck f_l_pick f_l_pairs f_l_stalls f_l_due f_l_is_told f_law f_Web_init f_Web_eq c_BadWare c_Web d_is_integer d_is_row d_is_fraction d_is_some d_multiplied d_squared d_is_stall d_is_ware d_check_ware d_across d_stalls_of d_neighbours d_joined d_pieces d_l_deck d_l_pick d_l_pairs d_l_stalls d_l_due d_l_is_told d_law d_Web_init d_Web_eq) : FnOk P w K mg base CX0 3 f_check_ware d_check_ware ["web", "ware"] (sp_check_ware K c_Web) := by
  have G_is_ware : FnOk P w K mg base CX0 2 f_is_ware d_is_ware ["web", "thing"] (sp_is_ware K c_Web) := ok_is_ware T
  refine T.F_check_ware.ok sc_check_ware (fun vs H Q E h => ?_) (fun cdv A outer s H vs Q E hr h => ?_)
  · obtain ⟨x, n, ss, wn, rfl, _⟩ := h
    rfl
  · obtain ⟨x, n, ss, wn, rfl, hw, hn, q⟩ := h
    refine ⟨_, (pss_one (ps_if (pt_not (pt_val (pe_call G_is_ware (hr.mono (by decide)) (by rfl) T.g_is_ware T.k_is_ware T.b_is_ware .nil pass0 (pa_cons (pv 0) (pa_cons (pv 1) pa_nil)))))
        (pss_one ps_never)
        pss_nil)), ?_⟩
    walk_at "r"
    refine ⟨x, _, n, ss, true, rfl, hw, .inl ⟨_, rfl, by simp [hn]⟩, ?_⟩
    walk_at "r"
    exact q
def sp_check_wareB (K : PySem.W.Frag) (C CB : Addr) : Sp := fun vs H _ E => ∃ (x v : V) (n : Nat) (ss : List Stl), vs = [x, v] ∧ IsWeb K C H x n ss ∧ Wr K H n v false ∧ E (.ref CB) none H
theorem ok_check_wareB (T : Txt K mg f_is_integer f_is_row f_is_fraction f_is_some f_multiplied f_squared f_is_stall f_is_ware f_check_ware f_across f_stalls_of f_neighbours f_joined f_pieces f_l_deck f_l_pick f_l_pairs f_l_stalls f_l_due f_l_is_told f_law f_Web_init f_Web_eq c_BadWare c_Web d_is_integer d_is_row d_is_fraction d_is_some d_multiplied d_squared d_is_stall d_is_ware d_check_ware d_across d_stalls_of d_neighbours d_joined d_pieces d_l_deck d_l_pick d_l_pairs d_l_stalls d_l_due d_l_is_told d_law d_Web_init d_Web_eq) : FnOk P w K mg base (L2.CX P w) 3 f_check_ware d_check_ware ["web", "ware"] (sp_check_wareB K c_Web c_BadWare) := by
  have G_is_ware : FnOk P w K mg base CX0 2 f_is_ware d_is_ware ["web", "thing"] (sp_is_ware K c_Web) := ok_is_ware T
  refine T.F_check_ware.okX sc_check_ware (fun vs H Q E h => ?_) (fun cdv A outer s H vs Q E hr h => ?_)
  · obtain ⟨x, v, n, ss, rfl, _⟩ := h
    rfl
  · obtain ⟨x, v, n, ss, rfl, hw, hv, e⟩ := h
    refine ⟨_, (pss_one (ps_if (pt_not (pt_val (pe_call G_is_ware (hr.mono (by decide)) (by rfl) T.g_is_ware T.k_is_ware T.b_is_ware .nil pass0 (pa_cons (pv 0) (pa_cons (pv 1) pa_nil)))))
        (pss_one (ps_raise0 rfl T.c_BadWare (takes_of rfl rfl rfl rfl)))
        pss_nil)), ?_⟩
    walk_at "r"
    refine ⟨x, v, n, ss, false, rfl, hw, hv, ?_⟩
    walk_at "r"
    exact e
/-- the wares to which a stall leads from a ware -/
def Nbr (ss : List Stl) (wn : Nat) (ns : List Int) : Prop := ns.Pairwise (· < ·) ∧ ∀ k : Int, k ∈ ns ↔ ∃ s ∈ ss, s.at wn = true ∧ k = (s.other wn : Nat)
def sp_neighbours (K : PySem.W.Frag) (C : Addr) : Sp := fun vs H Q _ => ∃ (x : V) (n : Nat) (ss : List Stl) (wn : Nat), vs = [x, .int (wn : Nat)] ∧ IsWeb K C H x n ss ∧ wn < n ∧ ss.length ≤ 16 ∧
  ∀ H' t ns, Same H H' → H' t = some (.tup (ns.map V.int)) → Nbr ss wn ns → Q (.ref t) H'
theorem ok_neighbours (T : Txt K mg f_is_integer f_is_row f_is_fraction f_is_some f_multiplied f_squared f_is_stall f_is_ware f_check_ware f_across f_stalls_of f_neighbours f_joined f_pieces f_l_deck f_l_pick f_l_pairs f_l_stalls f_l_due f_l_is_told f_law f_Web_init f_Web_eq c_BadWare c_Web d_is_integer d_is_row d_is_fraction d_is_some d_multiplied d_squared d_is_stall d_is_ware d_check_ware d_across d_stalls_of d_neighbours d_joined d_pieces d_l_deck d_l_pick d_l_pairs d_l_stalls d_l_due d_l_is_told d_law d_Web_init d_Web_eq) : FnOk P w K mg base CX0 4 f_neighbours d_neighbours ["web", "ware"] (sp_neighbours K c_Web) := by
  have G_check_ware : FnOk P w K mg base CX0 3 f_check_ware d_check_ware ["web", "ware"] (sp_check_ware K c_Web) := ok_check_ware T
  have G_across : FnOk P w K mg base CX0 1 f_across d_across ["stall", "ware"] (sp_across K) := ok_across T
  have G_stalls_of : FnOk P w K mg base CX0 1 f_stalls_of d_stalls_of ["ware", "stalls"] (sp_stalls_of K) := ok_stalls_of T
  refine T.F_neighbours.ok sc_neighbours (fun vs H Q E h => ?_) (fun cdv A outer s H vs Q E hr h => ?_)
  · obtain ⟨x, n, ss, wn, rfl, _⟩ := h
    rfl
  · obtain ⟨x, n, ss, wn, rfl, hw, hn, l16, q⟩ := h
    obtain ⟨px, dx, t, xs, rfl, hp, ht, hss⟩ := id hw
    refine ⟨_, (pss_cons (ps_expr (pe_call G_check_ware (hr.mono (by decide)) (by rfl) T.g_check_ware T.k_check_ware T.b_check_ware .nil pass0 (pa_cons (pv 0) (pa_cons (pv 1) pa_nil))))
      (pss_one (ps_ret (pe_callTy call_tuple_of (by rfl) T.z_tuple (by decide +kernel) (pa_cons (pe_callB (cr_sortedSet rfl) (by rfl) T.z_sorted (by decide +kernel) (pa_cons (pe_callTy (My.cr_setOfI rfl) (by rfl) T.z_set (by decide +kernel) (pa_cons (pe_lc (own := [("stall", 2)]) (g := gName 2) rfl sc_neighbours.nd (pi_list (pe_call G_stalls_of (hr.mono (by decide)) (by rfl) T.g_stalls_of T.k_stalls_of T.b_stalls_of .nil pass0 (pa_cons (pv 1) (pa_cons (pe_fld (pv 0) rfl) pa_nil)))) (blkOk_by (own := [("stall", 2)]) (N := N_neighbours) (sc := defScope s_neighbours) (by decide +kernel)) (fun _ _ _ _ _ => (pg_name (i := 2) sc_neighbours.nd rfl (by first | exact Or.inl rfl | exact Or.inr rfl))) (fun _ _ _ _ _ => pts_nil) (fun _ _ _ _ _ => (pe_call G_across (hr.mono (by decide)) (by rfl) T.g_across T.k_across T.b_across .nil pass0 (pa_cons (pv 2) (pa_cons (pv 1) pa_nil))))) pa_nil)) pa_nil)) pa_nil))))), ?_⟩
    walk_at "r"
    refine ⟨_, n, ss, wn, rfl, hw, hn, ?_⟩
    walk_at "r"
    refine ⟨_, _, _, _, _, rfl, hp, T.w_Web.it.cl, T.n_Web_stalls, wF_stalls _ _, ?_⟩
    walk_at "r"
    refine ⟨t, xs, ss, wn, rfl, ht, hss, l16, fun H1 L ys s1 hL hys => ?_⟩
    have hly := hys.len
    have hla : (at_ ss wn).length ≤ 16 := Nat.le_trans (List.length_filter_le _ _) l16
    walk_at "r"
    refine ⟨⟨_, .of hL⟩, fun B nB => ?_⟩
    refine lc_listP (R := fun H v (b : Nat) => v = .int (b : Nat)) (fun _ _ _ _ _ h => h) (f := fun i => ((at_ ss wn)[i]?).map (·.other wn)) nB (by omega) (.of hL) (fun i x hx H' Q' N' s2 hy _ => ?_) fun H2 hl2 => ?_
    · obtain ⟨st, hs, hst⟩ := hys.at hx
      walk_at "r"
      refine ⟨rfl, ?_⟩
      walk_at "r"
      exact ⟨_, st, wn, rfl, hst.same s2, hy (st.other wn) _ _ (by simp [hs]) (Same.refl _) rfl⟩
    · obtain ⟨s2, zs, hB, hzs⟩ := hl2
      rw [hly, upTo_list] at hzs
      have e := ints_of hzs
      subst e
      walk_at "r"
      refine ⟨B, _, rfl, .of hB, by simp; omega, fun p3 c3 n3 l3 => ?_⟩
      have s3 := same_upd (o := SetO w p3 (fun j => decide (j ∈ ((at_ ss wn).map (·.other wn)).map fun b : Nat => (b : Int))) c3) n3
      simp at l3
      walk_at "r"
      refine ⟨p3, _, c3, rfl, upd_same, by omega, fun ns p4 pw mem len n4 => ?_⟩
      have s4 := same_upd (o := .lst (ns.map V.int)) n4
      walk_at "r"
      refine ⟨p4, _, rfl, .inl ⟨.of upd_same, fun l nl => ?_⟩⟩
      have s5 := same_upd (o := .tup (ns.map V.int)) nl
      refine q _ l ns ((((s1.trans s2).trans s3).trans s4).trans s5) upd_same ⟨pw, fun k => ?_⟩
      rw [mem k, decide_eq_true_eq, List.mem_map]
      constructor
      · rintro ⟨b, hb, rfl⟩
        obtain ⟨st, hst, rfl⟩ := List.mem_map.mp hb
        unfold at_ at hst
        rw [List.mem_filter] at hst
        exact ⟨st, hst.1, hst.2, rfl⟩
      · rintro ⟨st, h1, h2, rfl⟩
        exact ⟨_, List.mem_map.mpr ⟨st, List.mem_filter.mpr ⟨h1, h2⟩, rfl⟩, rfl⟩
theorem ok_neighboursB (T : Txt K mg f_is_integer f_is_row f_is_fraction f_is_some f_multiplied f_squared f_is_stall f_is_ware f_check_ware f_across f_stalls_of f_neighbours f_joined f_pieces f_l_deck f_l_pick f_l_pairs f_l_stalls f_l_due f_l_is_told f_law f_Web_init f_Web_eq c_BadWare c_Web d_is_integer d_is_row d_is_fraction d_is_some d_multiplied d_squared d_is_stall d_is_ware d_check_ware d_across d_stalls_of d_neighbours d_joined d_pieces d_l_deck d_l_pick d_l_pairs d_l_stalls d_l_due d_l_is_told d_law d_Web_init d_Web_eq) : FnOk P w K mg base (L2.CX P w) 4 f_neighbours d_neighbours ["web", "ware"] (sp_check_wareB K c_Web c_BadWare) := by
  have G_check_ware : FnOk P w K mg base (L2.CX P w) 3 f_check_ware d_check_ware ["web", "ware"] (sp_check_wareB K c_Web c_BadWare) := ok_check_wareB T
  have G_across : FnOk P w K mg base CX0 1 f_across d_across ["stall", "ware"] (sp_across K) := ok_across T
  have G_stalls_of : FnOk P w K mg base CX0 1 f_stalls_of d_stalls_of ["ware", "stalls"] (sp_stalls_of K) := ok_stalls_of T
  refine T.F_neighbours.okX sc_neighbours (fun vs H Q E h => ?_) (fun cdv A outer s H vs Q E hr h => ?_)
  · obtain ⟨x, v, n, ss, rfl, _⟩ := h
    rfl
  · obtain ⟨x, v, n, ss, rfl, hw, hv, e⟩ := h
    refine ⟨_, (pss_cons (ps_expr (pe_callS G_check_ware (hr.mono (by decide)) (by rfl) T.g_check_ware T.k_check_ware T.b_check_ware (fun σ => passAt (takes_of rfl rfl rfl rfl) σ) (pa_cons (pv 0) (pa_cons (pv 1) pa_nil))))
      (pss_one (ps_ret (pe_callTy call_tuple_of (by rfl) T.z_tuple (by decide +kernel) (pa_cons (pe_callB (cr_sortedSet rfl) (by rfl) T.z_sorted (by decide +kernel) (pa_cons (pe_callTy (My.cr_setOfI rfl) (by rfl) T.z_set (by decide +kernel) (pa_cons (pe_lc (own := [("stall", 2)]) (g := gName 2) rfl sc_neighbours.nd (pi_list (pe_call G_stalls_of (hr.mono (by decide)) (by rfl) T.g_stalls_of T.k_stalls_of T.b_stalls_of .nil pass0 (pa_cons (pv 1) (pa_cons (pe_fld (pv 0) rfl) pa_nil)))) (blkOk_by (own := [("stall", 2)]) (N := N_neighbours) (sc := defScope s_neighbours) (by decide +kernel)) (fun _ _ _ _ _ => (pg_name (i := 2) sc_neighbours.nd rfl (by first | exact Or.inl rfl | exact Or.inr rfl))) (fun _ _ _ _ _ => pts_nil) (fun _ _ _ _ _ => (pe_call G_across (hr.mono (by decide)) (by rfl) T.g_across T.k_across T.b_across .nil pass0 (pa_cons (pv 2) (pa_cons (pv 1) pa_nil))))) pa_nil)) pa_nil)) pa_nil))))), ?_⟩
    walk_at "r"
    exact ⟨x, v, n, ss, rfl, hw, hv, e⟩
end
end My
namespace My
open PySem PySem.Spec PyProof.Rows L2
variable {K : PySem.W.Frag}
theorem ten6e : (10 : Int) ^ (6 : Int).toNat = 1000000 := by decide
theorem rat_pos {r : Rat} (h : 0 < r.num) : 0 < r := by
  rw [Rat.lt_iff]
  simpa using h
theorem divInt_pos {t b : Int} (ht : 0 < t) (hb : 0 < b) : 0 < Rat.divInt t b := by
  have h := (rat_cross (n := t) (d := b) (r := Rat.divInt t b) (by omega)).mp rfl
  have hd := den_pos (Rat.divInt t b)
  have h2 : 0 < t * ((Rat.divInt t b).den : Int) := Int.mul_pos ht hd
  rw [h] at h2
  refine rat_pos ?_
  exact Int.pos_of_mul_pos_left h2 hb
theorem divInt_mul' (r t : Rat) : Rat.divInt (r.num * t.num) ((r.den : Int) * t.den) = r * t := by
  rw [← Rat.divInt_mul_divInt, Rat.num_divInt_den, Rat.num_divInt_den]
theorem mul_lt' {a b : Int} {k l : Nat} (h1 : a.natAbs < 2 ^ k) (h2 : b.natAbs < 2 ^ l) : (a * b).natAbs < 2 ^ (k + l) := by
  rw [Int.natAbs_mul]
  exact nat_mul_lt h1 h2
theorem back_root (r f : Rat) (hf : 0 < f) : r * f * Rat.divInt (r.num * f.den) (r.den * f.num) = r * r := by
  have h0 : f.num * f.den ≠ 0 := Int.ne_of_gt (Int.mul_pos (num_pos' hf) (den_pos f))
  rw [← divInt_mul' r f, ← divInt_mul' r r, Rat.divInt_mul_divInt]
  rw [show r.num * f.num * (r.num * f.den) = r.num * r.num * (f.num * f.den) by grind, show (r.den : Int) * f.den * (r.den * f.num) = (r.den : Int) * r.den * (f.num * f.den) by grind]
  exact Rat.divInt_mul_right h0
theorem add_divInt (r t : Rat) : Rat.divInt (r.num * t.den + t.num * r.den) ((r.den : Int) * t.den) = r + t := by
  have h1 := den_pos r
  have h2 := den_pos t
  rw [← Rat.divInt_add_divInt r.num t.num (by omega) (by omega), Rat.num_divInt_den, Rat.num_divInt_den]
theorem sub_divInt (r t : Rat) : Rat.divInt (r.num * t.den - t.num * r.den) ((r.den : Int) * t.den) = r - t := by
  have h1 := den_pos r
  have h2 := den_pos t
  rw [Rat.sub_eq_add_neg, ← add_divInt r (-t)]
  show _ = Rat.divInt (r.num * t.den + -t.num * r.den) _
  rw [Int.neg_mul, ← Int.sub_eq_add_neg]
  rfl
end My
namespace My
open PySem PySem.Spec PyProof.Rows L2
variable {K : PySem.W.Frag}
section
variable {P : Program} {w : World} {K : PySem.W.Frag} {mg : Str → Option Value} {base : Heap} {f_is_integer f_is_row f_is_fraction f_is_some f_multiplied f_squared f_is_stall f_is_ware f_check_ware f_across f_stalls_of f_neighbours f_joined f_pieces f_l_deck f_l_pick f_l_pairs f_l_stalls f_l_due f_l_is_told f_law f_Web_init f_Web_eq c_BadWare c_Web : Addr} {d_is_integer d_is_row d_is_fraction d_is_some d_multiplied d_squared d_is_stall d_is_ware d_check_ware d_across d_stalls_of d_neighbours d_joined d_pieces d_l_deck d_l_pick d_l_pairs d_l_stalls d_l_due d_l_is_told d_law d_Web_init d_Web_eq : FuncData}
def sp_made (K : PySem.W.Frag) : Sp := fun vs H Q _ => ∃ n d : Int, vs = [.int n, .int d] ∧ 0 < d ∧ d.natAbs < 2 ^ 8000 ∧ ∀ H' v, Same H H' → IsF K H' v (Rat.divInt n d) → Q v H'
theorem p20k {n : Nat} (h : n < 2 ^ 1900) : n < 2 ^ 20000 := Nat.lt_of_lt_of_le h (pow_le (by decide))
def sp_two9 (K : PySem.W.Frag) (f : Rat → Rat → Rat) : Sp := fun vs H Q _ => ∃ x y r s, vs = [x, y] ∧ IsF K H x r ∧ IsF K H y s ∧ Bd 1900 r ∧ Bd 1900 s ∧ ∀ H' v, Same H H' → IsF K H' v (f r s) → Q v H'
end
end My
namespace My
open PySem PySem.Spec PyProof.Rows L2
variable {K : PySem.W.Frag}
theorem eq_div_of {h x k : Rat} (hz : h ≠ 0) (e : h * x = k) : x = k / h := by
  rw [← e, Rat.div_def, Rat.mul_comm h x, Rat.mul_assoc, Rat.mul_inv_cancel h hz, Rat.mul_one]
theorem rest_is (r h : Rat) (h0 : 0 < h) : Rat.divInt (r.num * r.num * h.den) ((r.den : Int) * r.den * h.num) = r * r / h := by
  refine eq_div_of (ne_of_pos h0) ?_
  have hn : h.num * h.den ≠ 0 := Int.ne_of_gt (Int.mul_pos (num_pos' h0) (den_pos h))
  have e : h * Rat.divInt (r.num * r.num * h.den) ((r.den : Int) * r.den * h.num) = Rat.divInt h.num h.den * Rat.divInt (r.num * r.num * h.den) ((r.den : Int) * r.den * h.num) := by rw [Rat.num_divInt_den]
  rw [e, Rat.divInt_mul_divInt, ← divInt_mul' r r]
  rw [show h.num * (r.num * r.num * h.den) = r.num * r.num * (h.num * h.den) by grind, show (h.den : Int) * ((r.den : Int) * r.den * h.num) = (r.den : Int) * r.den * (h.num * h.den) by grind]
  exact Rat.divInt_mul_right hn
theorem isi_web {K : PySem.W.Frag} {H : Hp} {Q : VK} {p C dx : Addr} {fs : List (Str × V)} (h : H p = some (.ins C dx fs)) (it : InsT K C) (q : Q (.bl true) H) : rIsi K [.ref p, .ref C] H Q :=
  ⟨_, _, _, _, _, rfl, .own _, .base (.ins h it.cl it.ha it.hn it.ht it.mo), kit_self, q⟩
theorem many_at (b : Bool) : ∃ z : Int, (z = 8 ∨ z = 16) ∧ atI [V.int 8, V.int 16] (if b = true then 1 else 0) = some (.int z) := by
  cases b
  · exact ⟨8, .inl rfl, rfl⟩
  · exact ⟨16, .inr rfl, rfl⟩
theorem sq_fw {K : PySem.W.Frag} {M c : Nat} {D C a : Addr} {H H' : Hp} {ns : List Int} (h : SqL K H a (ns.map V.int)) (d : Deck M D C H c) (f : Fw D H H') : SqL K H' a (ns.map V.int) := by
  obtain ⟨cells, pl, rest, cnt, h0, h1, h2⟩ := d
  rcases h with (h | ⟨o, h⟩) | h
  · exact .inl (.inl (f _ _ (ne_of h h1 (by
      intro z
      cases ns with
      | nil => cases z
      | cons x l => cases z)) h))
  · exact .inl (.inr ⟨o, f _ _ (ne_of h h1 (by intro z; cases z)) h⟩)
  · exact .inr h
/-- the script's list, beside a new list at S -/
def Kept (K : PySem.W.Frag) (S a : Addr) (ns : List Int) (H : Hp) : Prop := (a ≠ S ∧ SqL K H a (ns.map V.int)) ∨ SqL K (fun _ => none) a (ns.map V.int)
theorem Kept.sq {K : PySem.W.Frag} {S a : Addr} {ns : List Int} {H : Hp} (h : Kept K S a ns H) : SqL K H a (ns.map V.int) := by
  rcases h with h | h
  · exact h.2
  · exact Same.seq (fun _ _ h => by cases h) h
theorem kept_new {K : PySem.W.Frag} {S a : Addr} {ns : List Int} {H : Hp} {o : HO} (h : SqL K H a (ns.map V.int)) (n : H S = none) : Kept K S a ns (upd H S o) := by
  have h0 := (same_upd (o := o) n).seq h
  rcases h with (h | ⟨_, h⟩) | h
  · exact .inl ⟨ne_of_none h n, h0⟩
  · exact .inl ⟨ne_of_none h n, h0⟩
  · exact .inr (.inr h)
theorem Kept.fw {K : PySem.W.Frag} {M c : Nat} {D C S a : Addr} {ns : List Int} {H H' : Hp} (h : Kept K S a ns H) (d : Deck M D C H c) (f : Fw D H H') : Kept K S a ns H' :=
  h.imp (fun h => ⟨h.1, sq_fw h.2 d f⟩) id
theorem Kept.put {K : PySem.W.Frag} {S a : Addr} {ns : List Int} {H : Hp} {o : HO} (h : Kept K S a ns H) : Kept K S a ns (upd H S o) := by
  refine h.imp (fun ⟨n, h⟩ => ⟨n, ?_⟩) id
  rcases h with (h | ⟨_, h⟩) | h
  · exact .inl (.inl ((upd_ne n).trans h))
  · exact .inl (.inr ⟨_, (upd_ne n).trans h⟩)
  · exact .inr h
theorem Sts.snoc {H : Hp} {xs : List V} {ss : List Stl} {v : V} {s : Stl} (h : Sts K H xs ss) (hv : IsSt K H v s) : Sts K H (xs ++ [v]) (ss ++ [s]) := by
  unfold Sts at *
  induction h with
  | nil => exact .cons hv .nil
  | cons h t ih => exact .cons h ih
/-- tuples stand when only the deck changes -/
theorem Fw.ts {M c : Nat} {D C : Addr} {H H' : Hp} (f : Fw D H H') (d : Deck M D C H c) : Tps H H' := fun b xs h => by
  obtain ⟨cells, pl, rest, cnt, h0, h1, h2⟩ := d
  exact f _ _ (ne_of h h1 (by intro z; cases z)) h
theorem IsMv.fw {M c : Nat} {D C : Addr} {H H' : Hp} {v : V} {i wn : Nat} {y : Rat} (f : Fw D H H') (d : Deck M D C H c) (h : IsMv K H v i wn y) : IsMv K H' v i wn y := by
  obtain ⟨p, vx, e, h, a⟩ := h
  exact ⟨p, vx, e, f.ts d _ _ h, a.ts (f.ts d)⟩
theorem IsWeb.fw {M c n : Nat} {D C B : Addr} {H H' : Hp} {x : V} {ss : List Stl} (f : Fw D H H') (d : Deck M D C H c) (h : IsWeb K B H x n ss) : IsWeb K B H' x n ss := by
  obtain ⟨p, dx, t, xs, e, h1, h2, h3⟩ := h
  have d' := d
  obtain ⟨cells, pl, rest, cnt, g0, g1, g2⟩ := d'
  exact ⟨p, dx, t, xs, e, f _ _ (ne_of h1 g1 (by intro z; cases z)) h1, f.ts d _ _ h2, h3.ts (f.ts d)⟩
end My
namespace My
open PySem PySem.Spec PyProof.Rows L2
/-! ### wares that hang together: what the program's list of first wares is -/
def joinL (fs : List Nat) (u v : Nat) : List Nat := fs.map fun f => if f = fs.getD u 0 ∨ f = fs.getD v 0 then min (fs.getD u 0) (fs.getD v 0) else f
def firstsL (n : Nat) (ss : List Stl) : List Nat := ss.foldl (fun fs s => joinL fs s.u s.v) (List.range n)
structure Fst (n : Nat) (C : Nat → Prop) (fs : List Nat) : Prop where
  len : fs.length = n
  le : ∀ x, x < n → fs.getD x 0 ≤ x
  id : ∀ x, x < n → fs.getD (fs.getD x 0) 0 = fs.getD x 0
  c : ∀ x, x < n → (C x ↔ C (fs.getD x 0))
theorem joinL_at {fs : List Nat} {u v x : Nat} (h : x < fs.length) : (joinL fs u v).getD x 0 = if fs.getD x 0 = fs.getD u 0 ∨ fs.getD x 0 = fs.getD v 0 then min (fs.getD u 0) (fs.getD v 0) else fs.getD x 0 := by
  unfold joinL
  rw [List.getD_eq_getElem?_getD, List.getElem?_map, List.getElem?_eq_getElem h]
  simp only [Option.map_some, Option.getD_some]
  rw [show fs.getD x 0 = fs[x] by rw [List.getD_eq_getElem?_getD, List.getElem?_eq_getElem h]; rfl]
theorem Fst.join {n u v : Nat} {C : Nat → Prop} {fs : List Nat} (h : Fst n C fs) (hu : u < n) (hv : v < n) (huv : C u ↔ C v) : Fst n C (joinL fs u v) := by
  have L := h.len
  have eu := h.id u hu
  have ev := h.id v hv
  have lu := h.le u hu
  have lv := h.le v hv
  have cab : C (fs.getD u 0) ↔ C (fs.getD v 0) := (h.c u hu).symm.trans (huv.trans (h.c v hv))
  have mn : min (fs.getD u 0) (fs.getD v 0) = fs.getD u 0 ∨ min (fs.getD u 0) (fs.getD v 0) = fs.getD v 0 := by omega
  have ml := Nat.min_le_left (fs.getD u 0) (fs.getD v 0)
  have mr := Nat.min_le_right (fs.getD u 0) (fs.getD v 0)
  refine ⟨by unfold joinL; rw [List.length_map]; exact L, fun x hx => ?_, fun x hx => ?_, fun x hx => ?_⟩
  · rw [joinL_at (by omega)]
    have := h.le x hx
    split <;> omega
  · have lx := h.le x hx
    have ix := h.id x hx
    rw [joinL_at (x := x) (by omega)]
    by_cases e : fs.getD x 0 = fs.getD u 0 ∨ fs.getD x 0 = fs.getD v 0
    · rw [if_pos e, joinL_at (by omega), if_pos]
      rcases mn with z | z
      · exact .inl (by rw [z]; exact eu)
      · exact .inr (by rw [z]; exact ev)
    · rw [if_neg e, joinL_at (by omega), ix, if_neg e]
  · have cx := h.c x hx
    rw [joinL_at (by omega)]
    by_cases e : fs.getD x 0 = fs.getD u 0 ∨ fs.getD x 0 = fs.getD v 0
    · rw [if_pos e]
      rcases e with e | e <;> rcases mn with z | z <;> rw [z] <;> rw [e] at cx
      · exact cx
      · exact cx.trans cab
      · exact cx.trans cab.symm
      · exact cx
    · rw [if_neg e]
      exact cx
theorem fst_range (n : Nat) (C : Nat → Prop) : Fst n C (List.range n) := by
  have e : ∀ x, x < n → (List.range n).getD x 0 = x := fun x hx => by
    rw [List.getD_eq_getElem?_getD, List.getElem?_range hx]
    rfl
  exact ⟨List.length_range, fun x hx => by rw [e x hx]; exact Nat.le_refl x, fun x hx => by rw [e x hx, e x hx], fun x hx => by rw [e x hx]⟩
theorem fst_fold {n : Nat} {C : Nat → Prop} : ∀ {ss : List Stl} {fs : List Nat}, Fst n C fs → (∀ s ∈ ss, s.u < n ∧ s.v < n) → (∀ s ∈ ss, C s.u ↔ C s.v) → Fst n C (ss.foldl (fun fs s => joinL fs s.u s.v) fs)
  | [], _, h, _, _ => h
  | s :: ss, fs, h, ok, hc => by
    rw [List.foldl_cons]
    exact fst_fold (h.join (ok s (by simp)).1 (ok s (by simp)).2 (hc s (by simp))) (fun t ht => ok t (by simp [ht])) fun t ht => hc t (by simp [ht])
theorem firsts_fst {n : Nat} {C : Nat → Prop} {ss : List Stl} (ok : ∀ s ∈ ss, OkSt n s) (hc : ∀ s ∈ ss, C s.u ↔ C s.v) : Fst n C (firstsL n ss) := fst_fold (fst_range n C) (fun s hs => ⟨(ok s hs).u, (ok s hs).v⟩) hc
/-- a piece's first ware has itself for its first one -/
def leads (n : Nat) (ss : List Stl) : List Nat := (List.range n).filter fun x => (firstsL n ss).getD x 0 = x
theorem lead_of {n : Nat} {ss : List Stl} (ok : ∀ s ∈ ss, OkSt n s) {x : Nat} (hx : x < n) : (firstsL n ss).getD x 0 ∈ leads n ss := by
  have h := firsts_fst (C := fun _ => True) ok fun _ _ => Iff.rfl
  unfold leads
  rw [List.mem_filter]
  have := h.le x hx
  exact ⟨List.mem_range.mpr (by omega), by simpa using h.id x hx⟩
/-- what holds all leads, and of each stall both wares or none, holds all wares -/
theorem all_reached {n : Nat} {ss : List Stl} {C : Nat → Prop} (ok : ∀ s ∈ ss, OkSt n s) (hl : ∀ x ∈ leads n ss, C x) (hc : ∀ s ∈ ss, C s.u ↔ C s.v) {x : Nat} (hx : x < n) : C x := by
  have h := firsts_fst (C := C) ok hc
  exact (h.c x hx).mpr (hl _ (lead_of ok hx))
/-- the piece of a lead begins with it -/
theorem piece_head {n : Nat} {ss : List Stl} (ok : ∀ s ∈ ss, OkSt n s) {l : Nat} (hl : l ∈ leads n ss) : ∃ r, (List.range n).filter (fun x => (firstsL n ss).getD x 0 = l) = l :: r := by
  have h := firsts_fst (C := fun _ => True) ok fun _ _ => Iff.rfl
  unfold leads at hl
  rw [List.mem_filter] at hl
  have hn := List.mem_range.mp hl.1
  have e : (firstsL n ss).getD l 0 = l := by simpa using hl.2
  have es : List.range n = List.range l ++ l :: List.range' (l + 1) (n - l - 1) := by
    have e1 := List.range'_append_1 (s := 0) (m := l) (n := n - l)
    rw [Nat.zero_add, show l + (n - l) = n by omega, show n - l = (n - l - 1) + 1 by omega, List.range'_succ] at e1
    rw [List.range_eq_range', List.range_eq_range']
    exact e1.symm
  rw [es, List.filter_append, List.filter_cons, if_pos (by simpa using e), List.filter_eq_nil_iff.mpr]
  · exact ⟨_, rfl⟩
  · intro y hy z
    have hy := List.mem_range.mp hy
    have := h.le y (by omega)
    have z : (firstsL n ss).getD y 0 = l := by simpa using z
    omega
end My
namespace My
open PySem PySem.Spec PyProof.Rows L2
variable {K : PySem.W.Frag}
abbrev nv (l : List Nat) : List V := (l.map fun b : Nat => (b : Int)).map V.int
theorem nv_len (l : List Nat) : (nv l).length = l.length := by simp
theorem nv_at {l : List Nat} {i : Nat} (h : i < l.length) : (nv l)[i]? = some (.int (l.getD i 0 : Nat)) := by
  rw [List.getElem?_map, List.getElem?_map, List.getD_eq_getElem?_getD, List.getElem?_eq_getElem h]
  rfl
theorem rd_lstRg {ta : TE} {σ : L2.St} {H : Hp} {Q : VK} (h : ta σ H fun x H1 => ∃ n, x = .int n ∧ (RgOk 0 n ∧ ∀ q, H1 q = none → Q (.ref q) (upd H1 q (.lst (rgV 0 n))))) : tLstRg (tRg1 ta) σ H Q := h
theorem nv_range (n : Nat) : rgV 0 (n : Int) = nv (List.range n) := by
  unfold rgV nv
  rw [List.map_map, show ((n : Int) - 0).toNat = n by omega]
  refine List.map_congr_left fun i _ => ?_
  show V.int (0 + (i : Int)) = V.int (i : Int)
  rw [Int.zero_add]
theorem sts_ok {n : Nat} {ss : List Stl} (ok : ∀ s ∈ ss, OkSt n s) : ∀ fs : List Nat, fs.length = n → (ss.foldl (fun fs s => joinL fs s.u s.v) fs).length = n := by
  induction ss with
  | nil => exact fun fs h => h
  | cons s ss ih =>
    intro fs h
    rw [List.foldl_cons]
    exact ih (fun t ht => ok t (by simp [ht])) _ (by unfold joinL; rw [List.length_map]; exact h)
theorem firsts_take {n : Nat} {ss : List Stl} {i : Nat} {s : Stl} (h : ss[i]? = some s) : firstsL n (ss.take (i + 1)) = joinL (firstsL n (ss.take i)) s.u s.v := by
  unfold firstsL
  rw [take_at h, List.foldl_append]
  rfl
theorem firsts_len {n : Nat} {ss : List Stl} (ok : ∀ s ∈ ss, OkSt n s) : (firstsL n ss).length = n := sts_ok ok _ List.length_range
/-- the wares of a lead -/
def pieceL (n : Nat) (ss : List Stl) (l : Nat) : List Nat := (List.range n).filter fun x => decide ((firstsL n ss).getD x 0 = l)
theorem leads_asc (n : Nat) (ss : List Stl) : (leads n ss).Pairwise (· < ·) := List.Pairwise.filter _ List.pairwise_lt_range
theorem leads_mem {n : Nat} {ss : List Stl} (ok : ∀ s ∈ ss, OkSt n s) (k : Int) : k ∈ (firstsL n ss).map (fun b : Nat => (b : Int)) ↔ k ∈ (leads n ss).map fun b : Nat => (b : Int) := by
  have L := firsts_len ok
  have at_' : ∀ x, x < n → (firstsL n ss)[x]? = some ((firstsL n ss).getD x 0) := fun x hx => by
    rw [List.getD_eq_getElem?_getD, List.getElem?_eq_getElem (by omega)]
    rfl
  rw [List.mem_map, List.mem_map]
  constructor
  · rintro ⟨b, hb, rfl⟩
    obtain ⟨x, hx⟩ := List.getElem?_of_mem hb
    have hxn : x < n := by
      have := (List.getElem?_eq_some_iff.mp hx).1
      omega
    have e := at_' x hxn
    rw [hx] at e
    cases e
    exact ⟨_, lead_of ok hxn, rfl⟩
  · rintro ⟨b, hb, rfl⟩
    unfold leads at hb
    rw [List.mem_filter] at hb
    have hn := List.mem_range.mp hb.1
    have e : (firstsL n ss).getD b 0 = b := by simpa using hb.2
    exact ⟨b, by
      have := List.mem_of_getElem? (at_' b hn)
      rw [e] at this
      exact this, rfl⟩
section
variable {P : Program} {w : World} {K : PySem.W.Frag} {mg : Str → Option Value} {base : Heap} {f_is_integer f_is_row f_is_fraction f_is_some f_multiplied f_squared f_is_stall f_is_ware f_check_ware f_across f_stalls_of f_neighbours f_joined f_pieces f_l_deck f_l_pick f_l_pairs f_l_stalls f_l_due f_l_is_told f_law f_Web_init f_Web_eq c_BadWare c_Web : Addr} {d_is_integer d_is_row d_is_fraction d_is_some d_multiplied d_squared d_is_stall d_is_ware d_check_ware d_across d_stalls_of d_neighbours d_joined d_pieces d_l_deck d_l_pick d_l_pairs d_l_stalls d_l_due d_l_is_told d_law d_Web_init d_Web_eq : FuncData}
def sp_joined (K : PySem.W.Frag) : Sp := fun vs H Q _ => ∃ (F : Addr) (v : V) (fs : List Nat) (s : Stl), vs = [.ref F, v] ∧ H F = some (.lst (nv fs)) ∧ IsSt K H v s ∧ s.u < fs.length ∧ s.v < fs.length ∧ fs.length ≤ 8 ∧ ∀ H' p, Same H H' → H' p = some (.lst (nv (joinL fs s.u s.v))) → Q (.ref p) H'
theorem ok_joined (T : Txt K mg f_is_integer f_is_row f_is_fraction f_is_some f_multiplied f_squared f_is_stall f_is_ware f_check_ware f_across f_stalls_of f_neighbours f_joined f_pieces f_l_deck f_l_pick f_l_pairs f_l_stalls f_l_due f_l_is_told f_law f_Web_init f_Web_eq c_BadWare c_Web d_is_integer d_is_row d_is_fraction d_is_some d_multiplied d_squared d_is_stall d_is_ware d_check_ware d_across d_stalls_of d_neighbours d_joined d_pieces d_l_deck d_l_pick d_l_pairs d_l_stalls d_l_due d_l_is_told d_law d_Web_init d_Web_eq) : FnOk P w K mg base CX0 1 f_joined d_joined ["firsts", "stall"] (sp_joined K) := by
  refine T.F_joined.ok sc_joined (fun vs H Q E h => ?_) (fun cdv A outer sh H vs Q E hr h => ?_)
  · obtain ⟨F, v, fs, s, rfl, _⟩ := h
    rfl
  · obtain ⟨F, v, fs, s, rfl, hF, ⟨p, va, vb, vr, rfl, hp, ha, hb, hr'⟩, hu, hv, l8, q⟩ := h
    refine ⟨_, (pss_cons (ps_set (i := 2) sc_joined.nd rfl (by first | exact Or.inl rfl | exact Or.inr rfl) (pe_tup (pa_cons (pe_ix ix_list (pv 0) (pe_ix ix_tup (pv 1) pe_int (fun _ _ => rfl)) (fun _ _ => rfl)) (pa_cons (pe_ix ix_list (pv 0) (pe_ix ix_tup (pv 1) pe_int (fun _ _ => rfl)) (fun _ _ => rfl)) pa_nil))))
      (pss_one (ps_ret (pe_lc (own := [("first", 3)]) (g := gName 3) rfl sc_joined.nd (pi_list (pv 0)) (blkOk_by (own := [("first", 3)]) (N := N_joined) (sc := defScope s_joined) (by decide +kernel)) (fun _ _ _ _ _ => (pg_name (i := 3) sc_joined.nd rfl (by first | exact Or.inl rfl | exact Or.inr rfl))) (fun _ _ _ _ _ => pts_nil) (fun _ _ _ _ _ => (pe_ifExp (pt_cmpR (My.op_inK (K := K) (by rfl)) (pv 3) (pv 2) (by rfl)) (pe_callB (My.cr_minTK (K := K) (by rfl) rfl hr.units) (by rfl) T.z_min (by decide +kernel) (pa_cons (pv 2) pa_nil)) (pv 3))))))), ?_⟩
    walk_at "r"
    refine rd_ixL hF (at_some (nv_at hu)) ?_
    walk_at "r"
    refine rd_ixL hF (at_some (nv_at hv)) ?_
    walk_at "r"
    intro B nB
    have s1 := same_upd (o := .tup [V.int (fs.getD s.u 0 : Nat), .int (fs.getD s.v 0 : Nat)]) nB
    have hB : upd H B (.tup [V.int (fs.getD s.u 0 : Nat), .int (fs.getD s.v 0 : Nat)]) B = some (.tup [V.int (fs.getD s.u 0 : Nat), .int (fs.getD s.v 0 : Nat)]) := upd_same
    generalize upd H B (.tup [V.int (fs.getD s.u 0 : Nat), .int (fs.getD s.v 0 : Nat)]) = H1 at *
    walk_at "r"
    refine ⟨⟨_, .of (s1 _ _ hF)⟩, fun D nD => ?_⟩
    refine lc_listP (R := fun H v (b : Nat) => v = .int (b : Nat)) (fun _ _ _ _ _ h => h) (f := fun i => (fs[i]?).map fun f => if f = fs.getD s.u 0 ∨ f = fs.getD s.v 0 then min (fs.getD s.u 0) (fs.getD s.v 0) else f) nD (by rw [nv_len]; omega) (.of (s1 _ _ hF)) (fun i x hx H' Q' N' s2 hy _ => ?_) fun H2 hl2 => ?_
    · have hi : i < fs.length := by
        have := (List.getElem?_eq_some_iff.mp hx).1
        rw [nv_len] at this
        exact this
      have hf : fs[i]? = some (fs.getD i 0) := by
        rw [List.getD_eq_getElem?_getD, List.getElem?_eq_getElem hi]
        rfl
      rw [nv_at hi] at hx
      cases hx
      generalize fs.getD i 0 = f at *
      have hB2 := s2 _ _ hB
      walk_at "r"
      refine ⟨rfl, ?_⟩
      walk_at "r"
      refine ⟨_, _, rfl, .inr (.of hB2), rfl, rfl, ?_⟩
      rw [if_neg Bool.false_ne_true]
      have ein : inV (.int (f : Nat)) [V.int (fs.getD s.u 0 : Nat), .int (fs.getD s.v 0 : Nat)] = decide (f = fs.getD s.u 0 ∨ f = fs.getD s.v 0) := by
        have e : ∀ k : Nat, eqV (.int (k : Nat)) (.int (f : Nat)) = decide (f = k) := fun k => by
          rw [Bool.eq_iff_iff]
          simp [eqV]
          omega
        show (eqV _ _ || (eqV _ _ || false)) = _
        rw [e, e, Bool.or_false, Bool.eq_iff_iff]
        simp
      rw [ein]
      refine ⟨_, rfl, ?_⟩
      generalize fs.getD s.u 0 = fu at *
      generalize fs.getD s.v 0 = fv at *
      by_cases c : f = fu ∨ f = fv
      · rw [decide_eq_true c]
        walk_at "r"
        refine ⟨B, _, _, rfl, .of hB2, fun m hm => ?_⟩
        refine hy (min fu fv) _ _ (by show Option.map _ fs[i]? = _; rw [hf]; exact congrArg some (if_pos c)) (Same.refl _) ?_
        congr 1
        omega
      · rw [decide_eq_false c]
        walk_at "r"
        exact hy f _ _ (by show Option.map _ fs[i]? = _; rw [hf]; exact congrArg some (if_neg c)) (Same.refl _) rfl
    · obtain ⟨s2, ys, hD, hys⟩ := hl2
      rw [nv_len, upTo_list] at hys
      have e := ints_of hys
      subst e
      exact q _ D (s1.trans s2) hD
/-- the pieces, by their leads -/
def IsPcs (K : PySem.W.Frag) (n : Nat) (ss : List Stl) (H : Hp) (v : V) (l : Nat) : Prop := ∃ t, v = .ref t ∧ H t = some (.tup (nv (pieceL n ss l)))
def sp_pieces (K : PySem.W.Frag) (C : Addr) : Sp := fun vs H Q _ => ∃ (x : V) (n : Nat) (ss : List Stl), vs = [x] ∧ IsWeb K C H x n ss ∧ n ≤ 8 ∧ ss.length ≤ 16 ∧ (∀ s ∈ ss, OkSt n s) ∧ ∀ H' L ys, Same H H' → H L = none → H' L = some (.lst ys) → Paired (IsPcs K n ss H') ys (leads n ss) → Q (.ref L) H'
theorem ok_pieces (T : Txt K mg f_is_integer f_is_row f_is_fraction f_is_some f_multiplied f_squared f_is_stall f_is_ware f_check_ware f_across f_stalls_of f_neighbours f_joined f_pieces f_l_deck f_l_pick f_l_pairs f_l_stalls f_l_due f_l_is_told f_law f_Web_init f_Web_eq c_BadWare c_Web d_is_integer d_is_row d_is_fraction d_is_some d_multiplied d_squared d_is_stall d_is_ware d_check_ware d_across d_stalls_of d_neighbours d_joined d_pieces d_l_deck d_l_pick d_l_pairs d_l_stalls d_l_due d_l_is_told d_law d_Web_init d_Web_eq) : FnOk P w K mg base CX0 2 f_pieces d_pieces ["web"] (sp_pieces K c_Web) := by
  have G_joined : FnOk P w K mg base CX0 1 f_joined d_joined ["firsts", "stall"] (sp_joined K) := ok_joined T
  refine T.F_pieces.ok sc_pieces (fun vs H Q E h => ?_) (fun cdv A outer sh H vs Q E hr h => ?_)
  · obtain ⟨x, n, ss, rfl, _⟩ := h
    rfl
  · obtain ⟨x, n, ss, rfl, ⟨px, dx, t, xs, rfl, hp, ht, hss⟩, n8, l16, ok, q⟩ := h
    have hlx := hss.len
    refine ⟨_, (pss_cons (ps_set (i := 1) sc_pieces.nd rfl (by first | exact Or.inl rfl | exact Or.inr rfl) (pe_listRg rfl (by rfl) T.z_list (prg_1 (by rfl) T.z_range (pe_fld (pv 0) rfl))))
      (pss_cons (ps_for PassesOwn.never rfl (pi_tup (pe_fld (pv 0) rfl)) (pg_name (i := 2) sc_pieces.nd rfl (by first | exact Or.inl rfl | exact Or.inr rfl))
        (pss_one (ps_set (i := 1) sc_pieces.nd rfl (by first | exact Or.inl rfl | exact Or.inr rfl) (pe_call G_joined (hr.mono (by decide)) (by rfl) T.g_joined T.k_joined T.b_joined .nil pass0 (pa_cons (pv 1) (pa_cons (pv 2) pa_nil))))))
      (pss_one (ps_ret (pe_lc (own := [("lead", 4)]) (g := gName 4) rfl sc_pieces.nd (pi_list (pe_callB (cr_sortedSet rfl) (by rfl) T.z_sorted (by decide +kernel) (pa_cons (pe_callTy (My.cr_setOfI rfl) (by rfl) T.z_set (by decide +kernel) (pa_cons (pv 1) pa_nil)) pa_nil))) (blkOk_by (own := [("lead", 4)]) (N := N_pieces) (sc := defScope s_pieces) (by decide +kernel)) (fun _ _ _ _ _ => (pg_name (i := 4) sc_pieces.nd rfl (by first | exact Or.inl rfl | exact Or.inr rfl))) (fun _ _ _ _ _ => pts_nil) (fun _ _ _ _ _ => (pe_callTy (My.call_tuple_ofK (K := K) (by rfl)) (by rfl) T.z_tuple (by decide +kernel) (pa_cons (pe_lc (own := [("ware", 3)]) (g := gName 3) rfl sc_pieces.nd (pi_range1 (by rfl) T.z_range (pa_cons (My.pe_fldK (K := K) (by rfl) (pv 0) rfl) pa_nil)) (blkOk_by (own := [("ware", 3)]) (N := N_pieces) (sc := _) (by kernel_rfl)) (fun _ _ _ _ _ => (pg_name (i := 3) sc_pieces.nd rfl (by first | exact Or.inl rfl | exact Or.inr rfl))) (fun _ _ _ _ _ => (pts_one (pt_cmpR op_eq (pe_ix (My.ix_listK (K := K) (by rfl)) (pv 1) (pv 3) (fun _ _ => rfl)) (pv 4) (nomark _)))) (fun _ _ _ _ _ => (pv 3))) pa_nil)))))))), ?_⟩
    walk_at "r"
    refine rd_lstRg ?_
    walk_at "r"
    refine ⟨_, _, _, _, _, rfl, hp, T.w_Web.it.cl, T.n_Web_wares, wF_wares _ _, ?_⟩
    refine ⟨n, rfl, .of_le (by decide) (by omega) (by decide) (by omega), fun F nF => ?_⟩
    rw [nv_range]
    have s1 := same_upd (o := .lst (nv (List.range n))) nF
    have hF : upd H F (.lst (nv (List.range n))) F = some (.lst (nv (List.range n))) := upd_same
    generalize upd H F (.lst (nv (List.range n))) = H1 at *
    walk_at "r"
    refine ⟨_, _, _, _, _, rfl, s1 _ _ hp, T.w_Web.it.cl, T.n_Web_stalls, wF_stalls _ _, ?_⟩
    walk_at "r"
    refine ⟨⟨_, .of (s1 _ _ ht)⟩, ?_⟩
    refine for_tup (K := K) (a := t) (xs := xs) (fun i σ H' => ∃ (F' : Addr) (t2 t3 t4 : Option V), σ = [some (.ref px), some (.ref F'), t2, t3, t4] ∧ Same H H' ∧ H' F' = some (.lst (nv (firstsL n (ss.take i))))) ?_ ?_ ?_ ?_
    · exact ⟨F, _, _, _, rfl, s1, hF⟩
    · rintro i σ H' _ ⟨F', t2, t3, t4, rfl, s2, _⟩
      exact .of (s2 _ _ ht)
    · rintro i v σ H' hx ⟨F', t2, t3, t4, rfl, s2, hF'⟩
      obtain ⟨s, hs, hst⟩ := hss.at hx
      have oks := ok s (List.mem_of_getElem? hs)
      have lf := firsts_len (n := n) (ss := ss.take i) fun t ht => ok t (List.mem_of_mem_take ht)
      walk_at "r"
      refine ⟨F', v, _, s, rfl, hF', hst.same s2, by rw [lf]; exact oks.u, by rw [lf]; exact oks.v, by omega, fun H3 p s3 hp3 => ?_⟩
      rw [← firsts_take hs] at hp3
      walk_at "r"
      exact ⟨p, _, _, _, rfl, s2.trans s3, hp3⟩
    · rintro σ H2 ⟨F', t2, t3, t4, rfl, s2, hF2⟩
      rw [hlx, List.take_length] at hF2
      have lf := firsts_len ok
      walk_at "r"
      refine ⟨F', _, rfl, .of hF2, by rw [List.length_map]; omega, fun p c np cl => ?_⟩
      rw [List.length_map] at cl
      have s3 := same_upd (o := SetO w p (fun j => decide (j ∈ (firstsL n ss).map fun b : Nat => (b : Int))) c) np
      walk_at "r"
      refine ⟨p, _, c, rfl, upd_same, by omega, fun ns p2 pw mem len np2 => ?_⟩
      have en : ns = (leads n ss).map fun b : Nat => (b : Int) := by
        refine asc_eq pw (List.pairwise_map.mpr ((leads_asc n ss).imp fun {a b} hab => by omega)) fun k => ?_
        rw [mem k, decide_eq_true_eq]
        exact leads_mem ok k
      subst en
      have k4' := s3.trans (same_upd (o := .lst (nv (leads n ss))) np2)
      have hp2' : upd (upd H2 p (SetO w p (fun j => decide (j ∈ (firstsL n ss).map fun b : Nat => (b : Int))) c)) p2 (.lst (nv (leads n ss))) p2 = some (.lst (nv (leads n ss))) := upd_same
      generalize hH : upd (upd H2 p _) p2 _ = H4
      have k4 : Same H2 H4 := hH ▸ k4'
      have hp2 : H4 p2 = some (.lst (nv (leads n ss))) := hH ▸ hp2'
      clear k4' hp2' hH
      have ll : (leads n ss).length ≤ 8 := Nat.le_trans (List.length_filter_le _ _) (by simp; omega)
      refine ⟨_, rfl, ⟨_, .of hp2⟩, fun D nD => ?_⟩
      refine lc_listP (R := IsPcs K n ss) (fun _ _ _ _ f h => by
        obtain ⟨t, e, h⟩ := h
        exact ⟨t, e, f _ _ h⟩) (f := fun i => ((leads n ss)[i]?).map id) nD (by rw [nv_len]; omega) (.of hp2) (fun i x hx H' Q' N' s5 hy _ => ?_) fun H5 hl5 => ?_
      · have hi : i < (leads n ss).length := by
          have := (List.getElem?_eq_some_iff.mp hx).1
          rw [nv_len] at this
          exact this
        have hl : (leads n ss)[i]? = some ((leads n ss).getD i 0) := by
          rw [List.getD_eq_getElem?_getD, List.getElem?_eq_getElem hi]
          rfl
        rw [nv_at hi] at hx
        cases hx
        generalize (leads n ss).getD i 0 = l at *
        have k5 := k4.trans s5
        have hF5 := k5 _ _ hF2
        have hp5 := k5 _ _ (s2 _ _ hp)
        walk_at "r"
        refine ⟨rfl, ?_⟩
        walk_at "r"
        refine ⟨_, _, _, _, _, rfl, hp5, T.w_Web.it.cl, T.n_Web_wares, wF_wares _ _, ?_⟩
        walk_at "r"
        refine ⟨by omega, by omega, fun D2 nD2 => ?_⟩
        refine lc_rangeP (R := fun H v (b : Nat) => v = .int (b : Nat)) (fun _ _ _ _ _ h => h) (f := Option.guard fun x => decide ((firstsL n ss).getD x 0 = l)) nD2 (by omega) (fun j hj H6 Q6 N6 s6 hy6 hn6 => ?_) fun H7 hl7 => ?_
        · have hj : j < n := hj
          have hF6 := s6 _ _ hF5
          rw [Int.zero_add]
          walk_at "r"
          refine ⟨rfl, ?_⟩
          walk_at "r"
          refine rd_ixL hF6 (at_some (nv_at (by omega))) ?_
          walk_at "r"
          by_cases c : (firstsL n ss).getD j 0 = l
          · have c' : (((firstsL n ss).getD j 0 : Nat) : Int) = (l : Nat) := by omega
            walk_at "r"
            exact hy6 j _ _ (by simp only [Option.guard, c, decide_true, if_true]) (Same.refl _) rfl
          · have c' : ¬ (((firstsL n ss).getD j 0 : Nat) : Int) = (l : Nat) := by omega
            walk_at "r"
            exact hn6 _ (by simp only [Option.guard, c, decide_false, Bool.false_eq_true, if_false]) (Same.refl _)
        obtain ⟨s7, zs, hD2, hzs⟩ := hl7
        rw [show ((n : Nat) : Int).toNat = n from rfl, show upTo (Option.guard fun x => decide ((firstsL n ss).getD x 0 = l)) n = pieceL n ss l from by
          unfold upTo pieceL
          exact congrFun List.filterMap_eq_filter _] at hzs
        have e7 := ints_of hzs
        subst e7
        walk_at "r"
        refine ⟨_, _, rfl, .inl ⟨.of hD2, fun q nq => ?_⟩⟩
        have s8 := same_upd (o := .tup (nv (pieceL n ss l))) nq
        exact hy l _ _ (by show Option.map id _ = _; rw [hl]; rfl) (s7.trans s8) ⟨q, rfl, upd_same⟩
      obtain ⟨s5, ys, hD, hys⟩ := hl5
      rw [nv_len, upTo_list, List.map_id] at hys
      exact q _ D ys ((s2.trans k4).trans s5) ((s2.trans k4).free nD) hD hys
end
end My
namespace My
open PySem PySem.Spec PyProof.Rows L2
/-! ### names that spread -/
def stepN (nm : List Nat) (p : Nat × Nat) : List Nat := (nm.set p.1 (min (nm.getD p.1 0) (nm.getD p.2 0))).set p.2 (min (nm.getD p.1 0) (nm.getD p.2 0))
def turnN (nm : List Nat) (ps : List (Nat × Nat)) : List Nat := ps.foldl stepN nm
def namesN (n : Nat) (ps : List (Nat × Nat)) : Nat → List Nat
  | 0 => List.range n
  | t + 1 => turnN (namesN n ps t) ps
structure LeadF (n : Nat) (ps : List (Nat × Nat)) (F : Nat → Nat) : Prop where
  lt : ∀ p ∈ ps, p.1 < n ∧ p.2 < n
  le : ∀ x, x < n → F x ≤ x
  ed : ∀ p ∈ ps, F p.1 = F p.2
  id : ∀ x, x < n → F (F x) = F x
  cl : ∀ C : Nat → Prop, (∀ p ∈ ps, C p.1 ↔ C p.2) → ∀ x, x < n → (C x ↔ C (F x))
structure InvN (n : Nat) (F : Nat → Nat) (nm : List Nat) : Prop where
  len : nm.length = n
  le : ∀ x, x < n → nm.getD x 0 ≤ x
  fix : ∀ x, x < n → F (nm.getD x 0) = F x
section
variable {n : Nat} {ps : List (Nat × Nat)} {F : Nat → Nat}
theorem getD_set {l : List Nat} {i j m : Nat} (h : i < l.length) : (l.set i m).getD j 0 = if i = j then m else l.getD j 0 := by
  rw [List.getD_eq_getElem?_getD, List.getElem?_set]
  by_cases c : i = j
  · subst c
    rw [if_pos rfl, if_pos rfl, if_pos h]
    rfl
  · rw [if_neg c, if_neg c, List.getD_eq_getElem?_getD]
theorem stepN_len (nm : List Nat) (p : Nat × Nat) : (stepN nm p).length = nm.length := by
  unfold stepN
  rw [List.length_set, List.length_set]
theorem stepN_at {nm : List Nat} {p : Nat × Nat} (h1 : p.1 < nm.length) (h2 : p.2 < nm.length) (x : Nat) : (stepN nm p).getD x 0 = if p.2 = x ∨ p.1 = x then min (nm.getD p.1 0) (nm.getD p.2 0) else nm.getD x 0 := by
  unfold stepN
  rw [getD_set (by rw [List.length_set]; exact h2), getD_set h1]
  by_cases c2 : p.2 = x
  · rw [if_pos c2, if_pos (.inl c2)]
  · rw [if_neg c2]
    by_cases c1 : p.1 = x
    · rw [if_pos c1, if_pos (.inr c1)]
    · rw [if_neg c1, if_neg (by simp [c1, c2])]
theorem InvN.ge {nm : List Nat} (L : LeadF n ps F) (h : InvN n F nm) {x : Nat} (hx : x < n) : F x ≤ nm.getD x 0 := by
  have e := h.fix x hx
  have := h.le x hx
  have := L.le (nm.getD x 0) (by omega)
  omega
theorem InvN.start (n : Nat) (F : Nat → Nat) : InvN n F (List.range n) := by
  have e : ∀ x, x < n → (List.range n).getD x 0 = x := fun x hx => by
    rw [List.getD_eq_getElem?_getD, List.getElem?_range hx]
    rfl
  exact ⟨List.length_range, fun x hx => by rw [e x hx]; exact Nat.le_refl x, fun x hx => by rw [e x hx]⟩
theorem InvN.step {nm : List Nat} (L : LeadF n ps F) (h : InvN n F nm) {p : Nat × Nat} (hp : p ∈ ps) : InvN n F (stepN nm p) := by
  obtain ⟨l1, l2⟩ := L.lt p hp
  have hl := h.len
  have le1 := h.le p.1 l1
  have le2 := h.le p.2 l2
  have f1 := h.fix p.1 l1
  have f2 := h.fix p.2 l2
  have ed := L.ed p hp
  have m : min (nm.getD p.1 0) (nm.getD p.2 0) = nm.getD p.1 0 ∨ min (nm.getD p.1 0) (nm.getD p.2 0) = nm.getD p.2 0 := by omega
  have ml := Nat.min_le_left (nm.getD p.1 0) (nm.getD p.2 0)
  have mr := Nat.min_le_right (nm.getD p.1 0) (nm.getD p.2 0)
  refine ⟨by rw [stepN_len]; exact hl, fun x hx => ?_, fun x hx => ?_⟩
  · rw [stepN_at (by omega) (by omega)]
    split
    · rename_i c
      rcases c with c | c <;> omega
    · exact h.le x hx
  · rw [stepN_at (by omega) (by omega)]
    split
    · rename_i c
      rcases c with c | c <;> rcases m with m | m <;> rw [m] <;> subst c <;> omega
    · exact h.fix x hx
def Right (F : Nat → Nat) (nm : List Nat) (x : Nat) : Prop := nm.getD x 0 = F x
theorem right_step {nm : List Nat} (L : LeadF n ps F) (h : InvN n F nm) {p : Nat × Nat} (hp : p ∈ ps) {x : Nat} (hx : x < n) (r : Right F nm x) : Right F (stepN nm p) x := by
  obtain ⟨l1, l2⟩ := L.lt p hp
  have hl := h.len
  have g1 := h.ge L l1
  have g2 := h.ge L l2
  have ed := L.ed p hp
  unfold Right at *
  rw [stepN_at (by omega) (by omega)]
  split
  · rename_i c
    rcases c with c | c <;> subst c <;> omega
  · exact r
theorem right_new {nm : List Nat} (L : LeadF n ps F) (h : InvN n F nm) {p : Nat × Nat} (hp : p ∈ ps) (r : Right F nm p.1 ∨ Right F nm p.2) : Right F (stepN nm p) p.1 ∧ Right F (stepN nm p) p.2 := by
  obtain ⟨l1, l2⟩ := L.lt p hp
  have hl := h.len
  have g1 := h.ge L l1
  have g2 := h.ge L l2
  have ed := L.ed p hp
  unfold Right at *
  rw [stepN_at (by omega) (by omega), stepN_at (by omega) (by omega), if_pos (.inr rfl), if_pos (.inl rfl)]
  omega
theorem fold_inv {qs : List (Nat × Nat)} (L : LeadF n ps F) (hq : ∀ q ∈ qs, q ∈ ps) : ∀ {nm : List Nat}, InvN n F nm → InvN n F (turnN nm qs) := by
  induction qs with
  | nil => exact fun h => h
  | cons q qs ih => exact fun h => ih (fun z hz => hq z (by simp [hz])) (h.step L (hq q (by simp)))
theorem fold_right {qs : List (Nat × Nat)} (L : LeadF n ps F) (hq : ∀ q ∈ qs, q ∈ ps) {x : Nat} (hx : x < n) : ∀ {nm : List Nat}, InvN n F nm → Right F nm x → Right F (turnN nm qs) x := by
  induction qs with
  | nil => exact fun _ h => h
  | cons q qs ih => exact fun h r => ih (fun z hz => hq z (by simp [hz])) (h.step L (hq q (by simp))) (right_step L h (hq q (by simp)) hx r)
theorem fold_new {qs : List (Nat × Nat)} (L : LeadF n ps F) (hq : ∀ q ∈ qs, q ∈ ps) {p : Nat × Nat} (hp : p ∈ qs) : ∀ {nm : List Nat}, InvN n F nm → (Right F nm p.1 ∨ Right F nm p.2) → Right F (turnN nm qs) p.1 ∧ Right F (turnN nm qs) p.2 := by
  induction qs with
  | nil => cases hp
  | cons q qs ih =>
    intro nm h r
    have hq' : ∀ z ∈ qs, z ∈ ps := fun z hz => hq z (by simp [hz])
    have hqp := hq q (by simp)
    have h' := h.step L hqp
    obtain ⟨l1, l2⟩ := L.lt p (hq p hp)
    rcases List.mem_cons.mp hp with e | e
    · subst e
      obtain ⟨r1, r2⟩ := right_new L h hqp r
      exact ⟨fold_right L hq' l1 h' r1, fold_right L hq' l2 h' r2⟩
    · refine ih hq' e h' ?_
      rcases r with r | r
      · exact .inl (right_step L h hqp l1 r)
      · exact .inr (right_step L h hqp l2 r)
theorem some_new {nm : List Nat} (L : LeadF n ps F) (h : InvN n F nm) (hw : ∃ x, x < n ∧ ¬ Right F nm x) : ∃ x, x < n ∧ ¬ Right F nm x ∧ Right F (turnN nm ps) x := by
  obtain ⟨x, hx, hr⟩ := hw
  by_cases c : ∀ p ∈ ps, Right F nm p.1 ↔ Right F nm p.2
  · exfalso
    have e := L.cl (Right F nm) c x hx
    refine hr (e.mpr ?_)
    have lx := L.le x hx
    have g := h.ge L (x := F x) (by omega)
    have l := h.le (F x) (by omega)
    have i := L.id x hx
    unfold Right
    omega
  · obtain ⟨p, hp, hne⟩ : ∃ p, p ∈ ps ∧ ¬ (Right F nm p.1 ↔ Right F nm p.2) := by
      refine Classical.byContradiction fun z => c fun p hp => Classical.byContradiction fun y => z ⟨p, hp, y⟩
    obtain ⟨l1, l2⟩ := L.lt p hp
    by_cases r1 : Right F nm p.1
    · have r2 : ¬ Right F nm p.2 := fun z => hne ⟨fun _ => z, fun _ => r1⟩
      exact ⟨p.2, l2, r2, (fold_new L (fun _ h => h) hp h (.inl r1)).2⟩
    · by_cases r2 : Right F nm p.2
      · exact ⟨p.1, l1, r1, (fold_new L (fun _ h => h) hp h (.inr r2)).1⟩
      · exact absurd ⟨fun z => absurd z r1, fun z => absurd z r2⟩ hne
theorem filter_lt {α : Type} {p q : α → Bool} : ∀ {l : List α}, (∀ x ∈ l, p x = true → q x = true) → (∃ x ∈ l, q x = true ∧ p x = false) → (l.filter p).length < (l.filter q).length
  | [], _, ⟨x, hx, _⟩ => by cases hx
  | a :: l, h, ⟨x, hx, h1, h2⟩ => by
    have hl : ∀ y ∈ l, p y = true → q y = true := fun y hy => h y (by simp [hy])
    have le : (l.filter p).length ≤ (l.filter q).length := by
      clear hx h1 h2 h
      induction l with
      | nil => exact Nat.le_refl _
      | cons b l ih =>
        have := ih fun y hy => hl y (by simp [hy])
        have hb := hl b (by simp)
        rw [List.filter_cons, List.filter_cons]
        cases e1 : p b
        · cases e2 : q b
          · simpa using this
          · simp; omega
        · simp [hb e1]; omega
    rw [List.filter_cons, List.filter_cons]
    rcases List.mem_cons.mp hx with e | e
    · subst e
      simp [h1, h2]
      omega
    · have ih := filter_lt hl ⟨x, e, h1, h2⟩
      have ha := h a (by simp)
      cases e1 : p a
      · cases e2 : q a
        · simpa using ih
        · simp; omega
      · simp [ha e1]; omega
def wrongs (n : Nat) (F : Nat → Nat) (nm : List Nat) : Nat := ((List.range n).filter fun x => !decide (nm.getD x 0 = F x)).length
theorem wrongs_lt {nm : List Nat} (L : LeadF n ps F) (h : InvN n F nm) : wrongs n F (turnN nm ps) < wrongs n F nm ∨ wrongs n F nm = 0 := by
  by_cases c : ∃ x, x < n ∧ ¬ Right F nm x
  · obtain ⟨x, hx, h1, h2⟩ := some_new L h c
    refine .inl (filter_lt (fun y hy hw => ?_) ⟨x, List.mem_range.mpr hx, by simpa [Right] using h1, by simpa [Right] using h2⟩)
    have hy := List.mem_range.mp hy
    have hw : ¬ Right F (turnN nm ps) y := by simpa [Right] using hw
    have : ¬ Right F nm y := fun r => hw (fold_right L (fun _ h => h) hy h r)
    simpa [Right] using this
  · refine .inr ?_
    unfold wrongs
    rw [List.length_eq_zero_iff, List.filter_eq_nil_iff]
    intro y hy z
    have hy := List.mem_range.mp hy
    exact c ⟨y, hy, by simpa [Right] using z⟩
theorem names_inv (L : LeadF n ps F) : ∀ t, InvN n F (namesN n ps t)
  | 0 => InvN.start n F
  | t + 1 => fold_inv L (fun _ h => h) (names_inv L t)
theorem names_wrong (L : LeadF n ps F) : ∀ t, wrongs n F (namesN n ps t) + t ≤ n ∨ wrongs n F (namesN n ps t) = 0
  | 0 => by
    refine .inl ?_
    unfold wrongs
    have := List.length_filter_le (fun x => !decide ((namesN n ps 0).getD x 0 = F x)) (List.range n)
    rw [List.length_range] at this
    omega
  | t + 1 => by
    have w := wrongs_lt L (names_inv L t)
    have ih := names_wrong L t
    have e : namesN n ps (t + 1) = turnN (namesN n ps t) ps := rfl
    rw [e]
    by_cases z : wrongs n F (namesN n ps t) = 0
    · refine .inr ?_
      have : ∀ x, x < n → Right F (namesN n ps t) x := fun x hx => by
        unfold wrongs at z
        rw [List.length_eq_zero_iff, List.filter_eq_nil_iff] at z
        have := z x (List.mem_range.mpr hx)
        simpa [Right] using this
      unfold wrongs
      rw [List.length_eq_zero_iff, List.filter_eq_nil_iff]
      intro y hy zz
      have hy := List.mem_range.mp hy
      have r := fold_right L (fun _ h => h) hy (names_inv L t) (this y hy)
      unfold Right at r
      rw [r, decide_eq_true rfl] at zz
      exact absurd zz (by decide)
    · rcases w with w | w
      · rcases ih with ih | ih
        · exact .inl (by omega)
        · exact absurd ih z
      · exact absurd w z
theorem names_end (L : LeadF n ps F) {x : Nat} (hx : x < n) : (namesN n ps n).getD x 0 = F x := by
  have z : wrongs n F (namesN n ps n) = 0 := by
    rcases names_wrong L n with h | h
    · omega
    · exact h
  unfold wrongs at z
  rw [List.length_eq_zero_iff, List.filter_eq_nil_iff] at z
  have := z x (List.mem_range.mpr hx)
  simpa using this
/-- leads are told by what they are -/
theorem lead_uniq {G : Nat → Nat} {qs : List (Nat × Nat)} (L : LeadF n ps F) (M : LeadF n qs G) (h1 : ∀ p ∈ ps, p ∈ qs) (h2 : ∀ p ∈ qs, p ∈ ps) {x : Nat} (hx : x < n) : F x = G x := by
  have a : ∀ (F G : Nat → Nat) (ps qs : List (Nat × Nat)), LeadF n ps F → LeadF n qs G → (∀ p ∈ ps, p ∈ qs) → G (F x) = G x := fun F G ps qs L M h => by
    have := (L.cl (fun y => G y = G x) (fun p hp => by rw [M.ed p (h p hp)]) x hx).mp rfl
    exact this
  have e1 := a F G ps qs L M h1
  have e2 := a G F qs ps M L h2
  have l1 := L.le x hx
  have l2 := M.le x hx
  have l3 := M.le (F x) (by omega)
  have l4 := L.le (G x) (by omega)
  omega
theorem zero_sum (ls : List Nat) : (ls.map fun _ => 0).sum = 0 := by
  induction ls with
  | nil => rfl
  | cons l ls ih => simpa using ih
/-- each thing stands in one heap -/
theorem sum_parts {α : Type} {f : α → Nat} : ∀ (ls : List Nat) (xs : List α), ls.Nodup → (∀ x ∈ xs, f x ∈ ls) → (ls.map fun l => (xs.filter fun x => decide (f x = l)).length).sum = xs.length
  | ls, [], _, _ => zero_sum ls
  | ls, x :: xs, nd, h => by
    have ih := sum_parts ls xs nd fun y hy => h y (by simp [hy])
    have one : ∀ (ls : List Nat) (g : Nat → Nat) (a : Nat), ls.Nodup → a ∈ ls → (ls.map fun l => g l + if a = l then 1 else 0).sum = (ls.map g).sum + 1 := by
      intro ls
      induction ls with
      | nil => intro g a _ ha; cases ha
      | cons l ls ih =>
        intro g a nd ha
        obtain ⟨n1, n2⟩ := List.nodup_cons.mp nd
        rw [List.map_cons, List.map_cons, List.sum_cons, List.sum_cons]
        by_cases c : a = l
        · subst c
          have e : (ls.map fun l => g l + if a = l then 1 else 0) = ls.map g := List.map_congr_left fun l hl => by
            have : ¬ a = l := fun z => n1 (z ▸ hl)
            simp [this]
          rw [e, if_pos rfl]
          omega
        · have ha : a ∈ ls := by
            rcases List.mem_cons.mp ha with z | z
            · exact absurd z c
            · exact z
          rw [ih g a n2 ha, if_neg c]
          omega
    rw [List.length_cons, ← ih, ← one ls _ (f x) nd (h x (by simp))]
    congr 1
    refine List.map_congr_left fun l _ => ?_
    rw [List.filter_cons]
    by_cases c : f x = l
    · simp [c]
    · simp [c]
end
end My
namespace My
open PySem PySem.Spec PyProof.Rows L2
/-! ### pieces, told by leads -/
def fF (n : Nat) (ss : List Stl) (x : Nat) : Nat := (firstsL n ss).getD x 0
def prS (ss : List Stl) : List (Nat × Nat) := ss.map fun s => (s.u, s.v)
theorem join_keep {fs : List Nat} {u v a b : Nat} (ha : a < fs.length) (hb : b < fs.length) (e : fs.getD a 0 = fs.getD b 0) : (joinL fs u v).getD a 0 = (joinL fs u v).getD b 0 := by
  rw [joinL_at ha, joinL_at hb, e]
theorem join_len (fs : List Nat) (u v : Nat) : (joinL fs u v).length = fs.length := by
  unfold joinL
  rw [List.length_map]
theorem fold_keep {a b : Nat} : ∀ {ss : List Stl} {fs : List Nat}, a < fs.length → b < fs.length → fs.getD a 0 = fs.getD b 0 → (ss.foldl (fun fs s => joinL fs s.u s.v) fs).getD a 0 = (ss.foldl (fun fs s => joinL fs s.u s.v) fs).getD b 0
  | [], _, _, _, e => e
  | s :: ss, fs, ha, hb, e => by
    rw [List.foldl_cons]
    exact fold_keep (by rw [join_len]; exact ha) (by rw [join_len]; exact hb) (join_keep ha hb e)
theorem fold_edge : ∀ {ss : List Stl} {fs : List Nat}, (∀ s ∈ ss, s.u < fs.length ∧ s.v < fs.length) → ∀ s ∈ ss, (ss.foldl (fun fs s => joinL fs s.u s.v) fs).getD s.u 0 = (ss.foldl (fun fs s => joinL fs s.u s.v) fs).getD s.v 0
  | [], _, _, s, hs => by cases hs
  | t :: ss, fs, h, s, hs => by
    rw [List.foldl_cons]
    obtain ⟨hu, hv⟩ := h t (by simp)
    rcases List.mem_cons.mp hs with e | e
    · subst e
      refine fold_keep (by rw [join_len]; exact hu) (by rw [join_len]; exact hv) ?_
      rw [joinL_at hu, joinL_at hv, if_pos (.inl rfl), if_pos (.inr rfl)]
    · exact fold_edge (fun z hz => by rw [join_len]; exact h z (by simp [hz])) s e
theorem lead_firsts {n : Nat} {ss : List Stl} (ok : ∀ s ∈ ss, OkSt n s) : LeadF n (prS ss) (fF n ss) := by
  have h := firsts_fst (C := fun _ => True) ok fun _ _ => Iff.rfl
  refine ⟨fun p hp => ?_, h.le, fun p hp => ?_, h.id, fun C hc x hx => ?_⟩
  · obtain ⟨s, hs, rfl⟩ := List.mem_map.mp hp
    exact ⟨(ok s hs).u, (ok s hs).v⟩
  · obtain ⟨s, hs, rfl⟩ := List.mem_map.mp hp
    exact fold_edge (fun s hs => by rw [List.length_range]; exact ⟨(ok s hs).u, (ok s hs).v⟩) s hs
  · exact (firsts_fst (C := C) ok fun s hs => hc (s.u, s.v) (List.mem_map.mpr ⟨s, hs, rfl⟩)).c x hx
def pcF (n : Nat) (F : Nat → Nat) (l : Nat) : List Nat := (List.range n).filter fun x => decide (F x = l)
def ldF (n : Nat) (F : Nat → Nat) : List Nat := (List.range n).filter fun x => decide (F x = x)
theorem pc_is (n : Nat) (ss : List Stl) (l : Nat) : pieceL n ss l = pcF n (fF n ss) l := rfl
theorem ld_is (n : Nat) (ss : List Stl) : leads n ss = ldF n (fF n ss) := rfl
theorem pc_congr {n : Nat} {F G : Nat → Nat} (h : ∀ x, x < n → F x = G x) (l : Nat) : pcF n F l = pcF n G l := List.filter_congr fun x hx => by rw [h x (List.mem_range.mp hx)]
theorem ld_congr {n : Nat} {F G : Nat → Nat} (h : ∀ x, x < n → F x = G x) : ldF n F = ldF n G := List.filter_congr fun x hx => by rw [h x (List.mem_range.mp hx)]
theorem pc_mem {n : Nat} {F : Nat → Nat} {l x : Nat} : x ∈ pcF n F l ↔ x < n ∧ F x = l := by
  unfold pcF
  rw [List.mem_filter, List.mem_range, decide_eq_true_eq]
theorem ld_mem {n : Nat} {F : Nat → Nat} {x : Nat} : x ∈ ldF n F ↔ x < n ∧ F x = x := by
  unfold ldF
  rw [List.mem_filter, List.mem_range, decide_eq_true_eq]
theorem pc_asc (n : Nat) (F : Nat → Nat) (l : Nat) : (pcF n F l).Pairwise (· < ·) := List.Pairwise.filter _ List.pairwise_lt_range
theorem ld_asc (n : Nat) (F : Nat → Nat) : (ldF n F).Pairwise (· < ·) := List.Pairwise.filter _ List.pairwise_lt_range
theorem asc_nat {l m : List Nat} (h1 : l.Pairwise (· < ·)) (h2 : m.Pairwise (· < ·)) (h : ∀ x, x ∈ l ↔ x ∈ m) : l = m := by
  have e : l.map (fun b : Nat => (b : Int)) = m.map fun b : Nat => (b : Int) := by
    refine asc_eq (List.pairwise_map.mpr (h1.imp fun {a b} hab => by omega)) (List.pairwise_map.mpr (h2.imp fun {a b} hab => by omega)) fun k => ?_
    rw [List.mem_map, List.mem_map]
    constructor
    · rintro ⟨b, hb, e⟩
      exact ⟨b, (h b).mp hb, e⟩
    · rintro ⟨b, hb, e⟩
      exact ⟨b, (h b).mpr hb, e⟩
  exact List.map_inj_right (fun a b z => by omega) |>.mp e
section
variable {n : Nat} {ps : List (Nat × Nat)} {F : Nat → Nat}
theorem pc_head (L : LeadF n ps F) {l : Nat} (hl : l ∈ ldF n F) : ∃ r, pcF n F l = l :: r := by
  obtain ⟨h1, h2⟩ := ld_mem.mp hl
  have hm : l ∈ pcF n F l := pc_mem.mpr ⟨h1, h2⟩
  cases e : pcF n F l with
  | nil =>
    rw [e] at hm
    cases hm
  | cons a r =>
    have asc := pc_asc n F l
    rw [e] at asc hm
    have ha : a ∈ pcF n F l := by rw [e]; simp
    obtain ⟨g1, g2⟩ := pc_mem.mp ha
    have := L.le a g1
    rcases List.mem_cons.mp hm with z | z
    · exact ⟨r, by rw [z]⟩
    · have := List.rel_of_pairwise_cons asc z
      omega
theorem pc_sum (L : LeadF n ps F) : ((ldF n F).map fun l => (pcF n F l).length).sum = n := by
  have h := sum_parts (f := F) (ldF n F) (List.range n) ((ld_asc n F).imp fun h => Nat.ne_of_lt h) fun x hx => by
    have hx := List.mem_range.mp hx
    have := L.le x hx
    exact ld_mem.mpr ⟨by omega, L.id x hx⟩
  rw [List.length_range] at h
  exact h
/-- one stall more, between a and b -/
def moreF (F : Nat → Nat) (a b x : Nat) : Nat := if F x = F a ∨ F x = F b then min (F a) (F b) else F x
variable {a b : Nat}
def inF (F : Nat → Nat) (a b l : Nat) : Bool := decide (l = F a) || decide (l = F b)
theorem mine_one (L : LeadF n ps F) (ha : a < n) (e : F a = F b) : (ldF n F).filter (inF F a b) = [F a] := by
  refine asc_nat ((ld_asc n F).filter _) (List.pairwise_singleton ..) fun x => ?_
  rw [List.mem_filter, List.mem_singleton, ld_mem]
  unfold inF
  rw [← e, Bool.or_self, decide_eq_true_eq]
  have := L.le a ha
  constructor
  · exact fun h => h.2
  · exact fun h => ⟨by rw [h]; exact ⟨by omega, L.id a ha⟩, h⟩
theorem mine_two (L : LeadF n ps F) (ha : a < n) (hb : b < n) (e : F a ≠ F b) : (ldF n F).filter (inF F a b) = [min (F a) (F b), max (F a) (F b)] := by
  refine asc_nat ((ld_asc n F).filter _) (List.pairwise_pair.mpr (by omega)) fun x => ?_
  rw [List.mem_filter, ld_mem, List.mem_cons, List.mem_singleton]
  unfold inF
  rw [Bool.or_eq_true, decide_eq_true_eq, decide_eq_true_eq]
  have la := L.le a ha
  have lb := L.le b hb
  have ia := L.id a ha
  have ib := L.id b hb
  constructor
  · rintro ⟨_, h⟩
    omega
  · intro h
    have h2 : x = F a ∨ x = F b := by omega
    refine ⟨?_, h2⟩
    rcases h2 with h2 | h2
    · rw [h2]
      exact ⟨by omega, ia⟩
    · rw [h2]
      exact ⟨by omega, ib⟩
theorem more_leads (L : LeadF n ps F) (ha : a < n) (hb : b < n) : (ldF n (moreF F a b)).Perm ((ldF n F).filter (fun l => !inF F a b l) ++ [min (F a) (F b)]) := by
  have la := L.le a ha
  have lb := L.le b hb
  have ia := L.id a ha
  have ib := L.id b hb
  refine (List.perm_ext_iff_of_nodup ((ld_asc n _).imp fun h => Nat.ne_of_lt h) ?_).mpr fun x => ?_
  · rw [List.nodup_append]
    refine ⟨((ld_asc n F).filter _).imp fun h => Nat.ne_of_lt h, by simp, fun x hx y hy z => ?_⟩
    rw [List.mem_singleton] at hy
    rw [List.mem_filter] at hx
    have h2 := hx.2
    unfold inF at h2
    rw [Bool.not_eq_true', Bool.or_eq_false_iff, decide_eq_false_iff_not, decide_eq_false_iff_not] at h2
    omega
  · rw [List.mem_append, List.mem_singleton, List.mem_filter, ld_mem, ld_mem]
    unfold moreF inF
    rw [Bool.not_eq_true', Bool.or_eq_false_iff, decide_eq_false_iff_not, decide_eq_false_iff_not]
    constructor
    · rintro ⟨h1, h2⟩
      split at h2
      · exact .inr h2.symm
      · rename_i c
        refine .inl ⟨⟨h1, h2⟩, fun z => c (.inl (by omega)), fun z => c (.inr (by omega))⟩
    · rintro (⟨⟨h1, h2⟩, h3, h4⟩ | h)
      · refine ⟨h1, ?_⟩
        rw [if_neg (by omega)]
        exact h2
      · have h2 : x = F a ∨ x = F b := by omega
        refine ⟨by omega, ?_⟩
        rw [if_pos]
        · exact h.symm
        · rcases h2 with h2 | h2
          · left
            rw [h2, ia]
          · right
            rw [h2, ib]
theorem more_rest {l : Nat} (hl : inF F a b l = false) : pcF n (moreF F a b) l = pcF n F l := by
  unfold inF at hl
  rw [Bool.or_eq_false_iff, decide_eq_false_iff_not, decide_eq_false_iff_not] at hl
  refine asc_nat (pc_asc _ _ _) (pc_asc _ _ _) fun x => ?_
  rw [pc_mem, pc_mem]
  unfold moreF
  constructor
  · rintro ⟨h1, h2⟩
    split at h2 <;> exact ⟨h1, by omega⟩
  · rintro ⟨h1, h2⟩
    refine ⟨h1, ?_⟩
    rw [if_neg (by omega)]
    exact h2
theorem more_mem {x : Nat} : x ∈ pcF n (moreF F a b) (min (F a) (F b)) ↔ x ∈ pcF n F (F a) ∨ x ∈ pcF n F (F b) := by
  rw [pc_mem, pc_mem, pc_mem]
  unfold moreF
  constructor
  · rintro ⟨h1, h2⟩
    split at h2
    · rename_i c
      rcases c with c | c
      · exact .inl ⟨h1, c⟩
      · exact .inr ⟨h1, c⟩
    · have : F x = F a ∨ F x = F b := by omega
      rcases this with c | c
      · exact .inl ⟨h1, c⟩
      · exact .inr ⟨h1, c⟩
  · rintro (⟨h1, h2⟩ | ⟨h1, h2⟩)
    · exact ⟨h1, if_pos (.inl h2)⟩
    · exact ⟨h1, if_pos (.inr h2)⟩
theorem more_one (e : F a = F b) : pcF n (moreF F a b) (min (F a) (F b)) = pcF n F (F a) := by
  refine asc_nat (pc_asc _ _ _) (pc_asc _ _ _) fun x => ?_
  rw [more_mem, ← e, or_self]
theorem more_two {zs : List Int} (e : F a ≠ F b) (hp : zs.Perm ((pcF n F (min (F a) (F b)) ++ pcF n F (max (F a) (F b))).map fun b : Nat => (b : Int))) (hs : zs.Pairwise (· ≤ ·)) : zs = (pcF n (moreF F a b) (min (F a) (F b))).map fun b : Nat => (b : Int) := by
  have nd0 : (pcF n F (min (F a) (F b)) ++ pcF n F (max (F a) (F b))).Nodup := by
    refine List.nodup_append.mpr ⟨(pc_asc _ _ _).imp fun h => Nat.ne_of_lt h, (pc_asc _ _ _).imp fun h => Nat.ne_of_lt h, fun x hx y hy z => ?_⟩
    have h1 := (pc_mem.mp hx).2
    have h2 := (pc_mem.mp hy).2
    rw [z] at h1
    omega
  have nd : ((pcF n F (min (F a) (F b)) ++ pcF n F (max (F a) (F b))).map fun b : Nat => (b : Int)).Nodup := List.Pairwise.map _ (fun a b h z => h (by omega)) nd0
  have ndz : zs.Nodup := hp.nodup_iff.mpr nd
  have st : zs.Pairwise (· < ·) := by
    refine (List.Pairwise.and hs ndz).imp fun {x y} h => ?_
    have h1 := h.1
    have h2 : x ≠ y := h.2
    omega
  refine asc_eq st (List.pairwise_map.mpr ((pc_asc _ _ _).imp fun {a b} hab => by omega)) fun k => ?_
  rw [hp.mem_iff, List.mem_map, List.mem_map]
  have mm : ∀ x, x ∈ pcF n F (min (F a) (F b)) ++ pcF n F (max (F a) (F b)) ↔ x ∈ pcF n (moreF F a b) (min (F a) (F b)) := fun x => by
    rw [List.mem_append, more_mem]
    by_cases c : F a ≤ F b
    · rw [Nat.min_eq_left c, Nat.max_eq_right c]
    · rw [Nat.min_eq_right (by omega), Nat.max_eq_left (by omega)]
      exact Or.comm
  constructor
  · rintro ⟨x, hx, rfl⟩
    exact ⟨x, (mm x).mp hx, rfl⟩
  · rintro ⟨x, hx, rfl⟩
    exact ⟨x, (mm x).mpr hx, rfl⟩
end
/-- a piece, its first ware told -/
def toP (l : List Nat) : Int × List Int := match l with
  | [] => (0, [])
  | a :: r => ((a : Int), r.map fun b : Nat => (b : Int))
theorem lsN_inj {x y : Int × List Int} (h : lsN x = lsN y) : x = y := by
  obtain ⟨a, r⟩ := x
  obtain ⟨b, t⟩ := y
  unfold lsN at h
  injection h with h1 h2
  have h1 : a = b := h1
  have h2 : r = t := h2
  rw [h1, h2]
theorem lsN_toP {l : List Nat} (h : l ≠ []) : lsN (toP l) = l.map fun b : Nat => (b : Int) := by
  cases l with
  | nil => exact absurd rfl h
  | cons a r => rfl
theorem pieces_sorted {n : Nat} {ps : List (Nat × Nat)} {F : Nat → Nat} (L : LeadF n ps F) : ((ldF n F).map fun l => toP (pcF n F l)).Pairwise fun x y => lsN x ≤ lsN y := by
  rw [List.pairwise_map]
  refine (List.pairwise_of_forall_mem_list ?_ : (ldF n F).Pairwise fun l m => l < m → lsN (toP (pcF n F l)) ≤ lsN (toP (pcF n F m))).imp₂ ?_ (ld_asc n F)
  · intro l hl m hm hlt
    obtain ⟨r, e1⟩ := pc_head L hl
    obtain ⟨t, e2⟩ := pc_head L hm
    rw [e1, e2]
    refine List.le_of_lt ?_
    show (l : Int) :: (r.map fun b : Nat => (b : Int)) < (m : Int) :: (t.map fun b : Nat => (b : Int))
    exact List.Lex.rel (by show (l : Int) < (m : Int); omega)
  · exact fun _ _ h h' => h h'
theorem sorted_uniq {L M : List (Int × List Int)} (hp : L.Perm M) (h1 : L.Pairwise fun x y => lsN x ≤ lsN y) (h2 : M.Pairwise fun x y => lsN x ≤ lsN y) : L = M :=
  hp.eq_of_pairwise (fun x y _ _ a b => lsN_inj (List.le_antisymm a b)) h1 h2
end My
namespace My
open PySem PySem.Spec PyProof.Rows L2
variable {K : PySem.W.Frag}
theorem Fs.ts {H H' : Hp} {ys : List V} {rs : List Rat} (f : Tps H H') (h : Fs K H ys rs) : Fs K H' ys rs := Paired.mapP h fun _ _ h => h.ts f
end My
namespace My
open PySem PySem.Spec PyProof.Rows L2
variable {K : PySem.W.Frag}
theorem Fs.set {H : Hp} {ys : List V} {rs : List Rat} {v : V} {r : Rat} (h : Fs K H ys rs) (hv : IsF K H v r) (i : Nat) : Fs K H (ys.set i v) (rs.set i r) := by
  unfold Fs at *
  induction h generalizing i with
  | nil => exact .nil
  | cons h t ih =>
    cases i with
    | zero => exact .cons hv t
    | succ i => exact .cons h (ih i)
theorem ixN_at {n i : Nat} (h : i < n) : ixN n (i : Int) = some i := by
  unfold ixN
  split <;> first | omega | (simp; omega) | simp_all
end My
namespace My
open PySem PySem.Spec PyProof.Rows L2
variable {K : PySem.W.Frag}
theorem rd_bm0 {T : String} {r : V → List V → Hp → VK → Prop} {te : TE} {σ : L2.St} {H : Hp} {Q : VK} (h : te σ H fun x H1 => tyV K T x H1 ∧ r x [] H1 Q) : tBM0 K T r te σ H Q := h
def IsPr (H : Hp) (v : V) (p : Nat × Nat) : Prop := ∃ q, v = .ref q ∧ H q = some (.tup [V.int (p.1 : Nat), .int (p.2 : Nat)])
theorem IsPr.ts {H H' : Hp} {v : V} {p : Nat × Nat} (f : Tps H H') (h : IsPr H v p) : IsPr H' v p := by
  obtain ⟨q, e, h⟩ := h
  exact ⟨q, e, f _ _ h⟩
theorem prs_ts {H H' : Hp} {ys : List V} {ps : List (Nat × Nat)} (f : Tps H H') (h : Paired (IsPr H) ys ps) : Paired (IsPr H') ys ps := Paired.mapP h fun _ _ h => h.ts f
theorem size08 {i : Int} (h0 : 0 ≤ i) (h1 : i < 3) : ∃ z : Int, (3 ≤ z ∧ z ≤ 17) ∧ atI [V.int 4, V.int 8, V.int 17] i = some (.int z) := by
  rcases (show i = 0 ∨ i = 1 ∨ i = 2 by omega) with rfl | rfl | rfl
  · exact ⟨4, by decide, rfl⟩
  · exact ⟨8, by decide, rfl⟩
  · exact ⟨17, by decide, rfl⟩
/-- pieces by leads -/
def IsPcF (n : Nat) (F : Nat → Nat) (H : Hp) (v : V) (l : Nat) : Prop := ∃ t, v = .ref t ∧ H t = some (.tup (nv (pcF n F l)))
theorem IsPcF.ts {n : Nat} {F : Nat → Nat} {H H' : Hp} {v : V} {l : Nat} (f : Tps H H') (h : IsPcF n F H v l) : IsPcF n F H' v l := by
  obtain ⟨q, e, h⟩ := h
  exact ⟨q, e, f _ _ h⟩
theorem pcs_ts {n : Nat} {F : Nat → Nat} {H H' : Hp} {ys : List V} {ls : List Nat} (f : Tps H H') (h : Paired (IsPcF n F H) ys ls) : Paired (IsPcF n F H') ys ls := Paired.mapP h fun _ _ h => h.ts f
theorem root_ok {n u v : Nat} {r : Int} (hu : u < n) (hv : v < n) (ne : u ≠ v) (r0 : 0 < r) (r1 : r ≤ 5) : OkSt n ⟨u, v, (r : Rat), (r : Rat), (r : Rat)⟩ ∧ BdSt 3 ⟨u, v, (r : Rat), (r : Rat), (r : Rat)⟩ := by
  have p : (0 : Rat) < (r : Rat) := by exact_mod_cast r0
  have b : Bd 3 (r : Rat) := ⟨by show r.natAbs < 2 ^ 3; omega, by show 1 < 2 ^ 3; decide⟩
  exact ⟨⟨hu, hv, ne, p, p, p, rfl⟩, ⟨b, b, b⟩⟩
theorem isF_int {H : Hp} {p : Addr} {r : Int} (h : H p = some (.tup [V.int r, .int 1])) : IsF K H (.ref p) (r : Rat) := ⟨p, rfl, .inl h⟩
theorem up_filter (n : Nat) (p : Nat → Prop) [DecidablePred p] : upTo (fun x => if p x then some x else none) n = (List.range n).filter fun x => decide (p x) := by
  unfold upTo
  generalize List.range n = l
  induction l with
  | nil => rfl
  | cons a l ih =>
    rw [List.filterMap_cons, List.filter_cons]
    by_cases c : p a
    · simp [c, ih]
    · simp [c, ih]
section
variable {P : Program} {w : World} {K : PySem.W.Frag} {mg : Str → Option Value} {base : Heap} {f_is_integer f_is_row f_is_fraction f_is_some f_multiplied f_squared f_is_stall f_is_ware f_check_ware f_across f_stalls_of f_neighbours f_joined f_pieces f_l_deck f_l_pick f_l_pairs f_l_stalls f_l_due f_l_is_told f_law f_Web_init f_Web_eq c_BadWare c_Web : Addr} {d_is_integer d_is_row d_is_fraction d_is_some d_multiplied d_squared d_is_stall d_is_ware d_check_ware d_across d_stalls_of d_neighbours d_joined d_pieces d_l_deck d_l_pick d_l_pairs d_l_stalls d_l_due d_l_is_told d_law d_Web_init d_Web_eq : FuncData}
def sp_lpairs (M : Nat) : Sp := fun vs H Q _ => ∃ (D C : Addr) (c n : Nat), vs = [.ref D, .int (n : Nat)] ∧ Deck M D C H c ∧ c ≤ 2 ^ 38 ∧ 1 ≤ n ∧ n ≤ 8 ∧
  ∀ H' L ys ps, Fw D H H' → Deck M D C H' (c + 60) → L ≠ D → L ≠ C → H' L = some (.lst ys) → Paired (IsPr H') ys ps → ps.length ≤ 16 → (∀ p ∈ ps, p.1 < n ∧ p.2 < n ∧ p.1 ≠ p.2) → Q (.ref L) H'
theorem ok_l_pairs {M : Nat} (hM : 64 ≤ M) (hM2 : M ≤ 1048576) (T : Txt K mg f_is_integer f_is_row f_is_fraction f_is_some f_multiplied f_squared f_is_stall f_is_ware f_check_ware f_across f_stalls_of f_neighbours f_joined f_pieces f_l_deck f_l_pick f_l_pairs f_l_stalls f_l_due f_l_is_told f_law f_Web_init f_Web_eq c_BadWare c_Web d_is_integer d_is_row d_is_fraction d_is_some d_multiplied d_squared d_is_stall d_is_ware d_check_ware d_across d_stalls_of d_neighbours d_joined d_pieces d_l_deck d_l_pick d_l_pairs d_l_stalls d_l_due d_l_is_told d_law d_Web_init d_Web_eq) : FnOk P w K mg base CX0 2 f_l_pairs d_l_pairs ["_law_deck_here", "_law_wares"] (sp_lpairs M) := by
  have G_l_pick : FnOk P w K mg base CX0 1 f_l_pick d_l_pick ["_law_deck_here", "_law_many"] (sp_pick M) := ok_pick hM hM2 T
  refine T.F_l_pairs.ok sc_l_pairs (fun vs H Q E h => ?_) (fun cdv A outer s H vs Q E hr h => ?_)
  · obtain ⟨D, C, c, n, rfl, _⟩ := h
    rfl
  · obtain ⟨D, C, c, n, rfl, dk, hc, n1, n8, q⟩ := h
    refine ⟨_, (pss_cons (ps_set (i := 2) sc_l_pairs.nd rfl (by first | exact Or.inl rfl | exact Or.inr rfl) (pe_lst pa_nil))
      (pss_cons (ps_if (pt_cmpR op_lt (pv 1) pe_int (nomark _))
        (pss_one (ps_ret (pv 2)))
        pss_nil)
      (pss_cons (ps_for PassesOwn.never rfl (pi_range1 (by rfl) T.z_range (pa_cons (pe_call G_l_pick (hr.mono (by decide)) (by rfl) T.g_l_pick T.k_l_pick T.b_l_pick .nil pass0 (pa_cons (pv 0) (pa_cons (pe_ix ix_list (pe_lst (pa_cons pe_int (pa_cons pe_int (pa_cons pe_int pa_nil)))) (pe_call G_l_pick (hr.mono (by decide)) (by rfl) T.g_l_pick T.k_l_pick T.b_l_pick .nil pass0 (pa_cons (pv 0) (pa_cons pe_int pa_nil))) (fun _ _ => rfl)) pa_nil))) pa_nil)) (pg_name (i := 3) sc_l_pairs.nd rfl (by first | exact Or.inl rfl | exact Or.inr rfl))
        (pss_cons (ps_set (i := 4) sc_l_pairs.nd rfl (by first | exact Or.inl rfl | exact Or.inr rfl) (pe_call G_l_pick (hr.mono (by decide)) (by rfl) T.g_l_pick T.k_l_pick T.b_l_pick .nil pass0 (pa_cons (pv 0) (pa_cons (pv 1) pa_nil))))
          (pss_cons (ps_set (i := 5) sc_l_pairs.nd rfl (by first | exact Or.inl rfl | exact Or.inr rfl) (pe_call G_l_pick (hr.mono (by decide)) (by rfl) T.g_l_pick T.k_l_pick T.b_l_pick .nil pass0 (pa_cons (pv 0) (pa_cons (pe_op op_sub (pv 1) pe_int) pa_nil))))
          (C8.pss_cut (ps_if (pt_cmpR op_ge (pv 5) (pv 4) (nomark _))
            (pss_one (ps_set (i := 5) sc_l_pairs.nd rfl (by first | exact Or.inl rfl | exact Or.inr rfl) (pe_op op_add (pv 5) pe_int)))
            pss_nil)
          (pss_one (ps_expr (pe_bm PySem.F.plainAttrs_list PySem.F.slot_list_append PySem.F.type_list_append mt_append (pv 2) (pa_cons (pe_tup (pa_cons (pv 4) (pa_cons (pv 5) pa_nil))) pa_nil))))))))
      (pss_one (ps_ret (pv 2)))))), ?_⟩
    walk_at "r"
    intro L nL
    have s1 := same_upd (o := .lst ([] : List V)) nL
    have hL : upd H L (.lst []) L = some (.lst []) := upd_same
    generalize upd H L (.lst []) = H1 at *
    have LD := dk.ne nL
    have LC := dk.neC nL
    have k1 := dk.same s1
    by_cases c2 : (n : Int) < 2
    · walk_at "r"
      exact q _ L [] [] (Same.fw s1) (k1.mono (by omega)) LD LC hL .nil (by decide) (by simp)
    · walk_at "r"
      intro l5 nl5
      have s7 := same_upd (o := .lst [V.int 4, V.int 8, V.int 17]) nl5
      have hl5 : upd H1 l5 (.lst [V.int 4, V.int 8, V.int 17]) l5 = some (.lst [V.int 4, V.int 8, V.int 17]) := upd_same
      have hl5D := k1.ne nl5
      generalize upd H1 l5 (.lst [V.int 4, V.int 8, V.int 17]) = H7 at *
      have k7 := k1.same s7
      walk_at "r"
      refine ⟨_, _, _, _, rfl, ⟨by decide, by decide⟩, k7, by omega, fun H8 r8 w8 k8 a8 b8 => ?_⟩
      obtain ⟨z, ⟨z1, z2⟩, ez⟩ := size08 a8 b8
      refine rd_ixL (w8 _ _ hl5D hl5) ez ?_
      walk_at "r"
      refine ⟨_, _, _, _, rfl, ⟨by omega, by omega⟩, k8, by omega, fun H9 r9 w9 k9 a9 b9 => ?_⟩
      have f9 : Fw D H H9 := ((Same.fw (s1.trans s7)).trans w8).trans w9
      have hL9 := w9 _ _ LD (w8 _ _ LD (s7 _ _ hL))
      walk_at "r"
      refine ⟨by omega, by omega, ?_⟩
      refine for_range (lo := 0) (n := r9.toNat) (fun i σ H' => ∃ (t3 t4 t5 : Option V) (ys : List V) (ps : List (Nat × Nat)), σ = [some (.ref D), some (.int (n : Nat)), some (.ref L), t3, t4, t5] ∧ Fw D H H' ∧ Deck M D C H' (c + 2 + 2 * i) ∧ H' L = some (.lst ys) ∧ Paired (IsPr H') ys ps ∧ ps.length = i ∧ (∀ p ∈ ps, p.1 < n ∧ p.2 < n ∧ p.1 ≠ p.2)) ?_ ?_ ?_
      · exact ⟨_, _, _, [], [], rfl, f9, k9.mono (by omega), hL9, .nil, rfl, by simp⟩
      · rintro i σ H2 hi ⟨t3, t4, t5, ys, ps, rfl, f2, k2, hL2, hp2, lp, ap⟩
        have lys := Paired.length hp2
        walk_at "r"
        refine ⟨_, _, _, _, rfl, ⟨by omega, by omega⟩, k2, by omega, fun H3 r3 w3 k3 a3 b3 => ?_⟩
        obtain ⟨u, rfl⟩ := Int.eq_ofNat_of_zero_le a3
        walk_at "r"
        refine ⟨_, _, _, _, rfl, ⟨by omega, by omega⟩, k3, by omega, fun H4 r4 w4 k4 a4 b4 => ?_⟩
        obtain ⟨v, rfl⟩ := Int.eq_ofNat_of_zero_le a4
        have hL4 := w4 _ _ LD (w3 _ _ LD hL2)
        have z4 : Tps H2 H4 := fun _ _ h => w4.ts k3 _ _ (w3.ts k2 _ _ h)
        have f4 := (f2.trans w3).trans w4
        walk_at "r"
        refine ⟨fun σ H' => ∃ v : Nat, σ = [some (.ref D), some (.int (n : Nat)), some (.ref L), some (.int (0 + (i : Nat))), some (.int (u : Nat)), some (.int (v : Nat))] ∧ H' = H4 ∧ v < n ∧ u ≠ v, ?_, ?_⟩
        · by_cases c3 : (v : Int) ≥ (u : Nat)
          · have h1 : v + 1 < n := by omega
            have h2 : u ≠ v + 1 := by omega
            walk_at "r"
            exact ⟨rfl, h1, h2⟩
          · walk_at "r"
            exact ⟨rfl, by omega, by omega⟩
        · rintro σ H' ⟨v, rfl, rfl, hv, huv⟩
          walk_at "r"
          refine ⟨Or.inl ⟨rfl, _, Or.inl (Or.inl hL4)⟩, ?_⟩
          walk_at "r"
          intro p np
          have s5 := same_upd (o := .tup [V.int (u : Nat), .int (v : Nat)]) np
          have h5 : upd H' p (.tup [V.int (u : Nat), .int (v : Nat)]) p = some (.tup [V.int (u : Nat), .int (v : Nat)]) := upd_same
          generalize upd H' p (.tup [V.int (u : Nat), .int (v : Nat)]) = H5 at *
          have hL5 := s5 _ _ hL4
          walk_at "r"
          refine ⟨L, ys, _, rfl, rfl, hL5, small1000 (by omega), ?_⟩
          have tp := tps_put (H1 := H5) (o := .lst (ys ++ [V.ref p])) hL5
          refine ⟨_, _, _, ys ++ [.ref p], ps ++ [(u, v)], rfl, fun b o hb h => (upd_ne (ne_of_none h nL)).trans (s5 _ _ (f4 _ _ hb h)), ((k4.same s5).put LD LC).mono (by omega), upd_same, Paired.snoc (prs_ts (fun a x h => tp _ _ (s5 _ _ (z4 _ _ h))) hp2) (IsPr.ts tp ⟨p, rfl, h5⟩), by simp [lp], fun p' hp' => ?_⟩
          rcases List.mem_append.mp hp' with h | h
          · exact ap p' h
          · rw [List.mem_singleton.mp h]
            exact ⟨by omega, hv, huv⟩
      · rintro σ H2 ⟨t3, t4, t5, ys, ps, rfl, f2, k2, hL2, hp2, lp, ap⟩
        walk_at "r"
        exact q _ L ys ps f2 (k2.mono (by omega)) LD LC hL2 hp2 (by omega) ap
def sp_lstalls8 (K : PySem.W.Frag) (M : Nat) : Sp := fun vs H Q _ => ∃ (D C L : Addr) (c n : Nat) (ys : List V) (ps : List (Nat × Nat)), vs = [.ref D, .ref L] ∧ Deck M D C H c ∧ c ≤ 2 ^ 38 ∧ L ≠ D ∧ H L = some (.lst ys) ∧ Paired (IsPr H) ys ps ∧ ps.length ≤ 16 ∧ (∀ p ∈ ps, p.1 < n ∧ p.2 < n ∧ p.1 ≠ p.2) ∧
  ∀ H' S xs ss, Fw D H H' → Deck M D C H' (c + 20) → S ≠ D → S ≠ C → H S = none → H' S = some (.lst xs) → Sts K H' xs ss → prS ss = ps → (∀ s ∈ ss, OkSt n s ∧ BdSt 3 s) → Q (.ref S) H'
theorem ok_l_stalls {M : Nat} (hM : 64 ≤ M) (hM2 : M ≤ 1048576) (T : Txt K mg f_is_integer f_is_row f_is_fraction f_is_some f_multiplied f_squared f_is_stall f_is_ware f_check_ware f_across f_stalls_of f_neighbours f_joined f_pieces f_l_deck f_l_pick f_l_pairs f_l_stalls f_l_due f_l_is_told f_law f_Web_init f_Web_eq c_BadWare c_Web d_is_integer d_is_row d_is_fraction d_is_some d_multiplied d_squared d_is_stall d_is_ware d_check_ware d_across d_stalls_of d_neighbours d_joined d_pieces d_l_deck d_l_pick d_l_pairs d_l_stalls d_l_due d_l_is_told d_law d_Web_init d_Web_eq) : FnOk P w K mg base CX0 2 f_l_stalls d_l_stalls ["_law_deck_here", "_law_pairs_here"] (sp_lstalls8 K M) := by
  have G_l_pick : FnOk P w K mg base CX0 1 f_l_pick d_l_pick ["_law_deck_here", "_law_many"] (sp_pick M) := ok_pick hM hM2 T
  refine T.F_l_stalls.ok sc_l_stalls (fun vs H Q E h => ?_) (fun cdv A outer sh H vs Q E hr h => ?_)
  · obtain ⟨D, C, L, c, n, ys, ps, rfl, _⟩ := h
    rfl
  · obtain ⟨D, C, L, c, n, ys, ps, rfl, dk, hc, LD, hL, hps, l16, ap, q⟩ := h
    have lys := Paired.length hps
    refine ⟨_, (pss_cons (ps_set (i := 2) sc_l_stalls.nd rfl (by first | exact Or.inl rfl | exact Or.inr rfl) (pe_lst pa_nil))
      (pss_cons (ps_for PassesOwn.never rfl (pi_list (pv 1)) (pg_tup rfl (pgs_cons (pg_name (i := 3) sc_l_stalls.nd rfl (by first | exact Or.inl rfl | exact Or.inr rfl)) (pgs_cons (pg_name (i := 4) sc_l_stalls.nd rfl (by first | exact Or.inl rfl | exact Or.inr rfl)) pgs_nil)))
        (pss_cons (ps_set (i := 5) sc_l_stalls.nd rfl (by first | exact Or.inl rfl | exact Or.inr rfl) (pe_op op_add pe_int (pe_call G_l_pick (hr.mono (by decide)) (by rfl) T.g_l_pick T.k_l_pick T.b_l_pick .nil pass0 (pa_cons (pv 0) (pa_cons pe_int pa_nil)))))
          (pss_one (ps_expr (pe_bm PySem.F.plainAttrs_list PySem.F.slot_list_append PySem.F.type_list_append mt_append (pv 2) (pa_cons (pe_tup (pa_cons (pv 3) (pa_cons (pv 4) (pa_cons (pe_tup (pa_cons (pv 5) (pa_cons pe_int pa_nil))) (pa_cons (pe_tup (pa_cons (pv 5) (pa_cons pe_int pa_nil))) (pa_cons (pe_tup (pa_cons (pv 5) (pa_cons pe_int pa_nil))) pa_nil)))))) pa_nil))))))
      (pss_one (ps_ret (pv 2))))), ?_⟩
    walk_at "r"
    intro S nS
    have s1 := same_upd (o := .lst ([] : List V)) nS
    have hS : upd H S (.lst []) S = some (.lst []) := upd_same
    generalize upd H S (.lst []) = H1 at *
    have SD := dk.ne nS
    have SC := dk.neC nS
    walk_at "r"
    refine ⟨⟨_, .of (s1 _ _ hL)⟩, ?_⟩
    refine for_list (K := K) (a := L) (xs := ys) (fun i σ H' => ∃ (t3 t4 t5 : Option V) (xs : List V) (ss : List Stl), σ = [some (.ref D), some (.ref L), some (.ref S), t3, t4, t5] ∧ Fw D H H' ∧ Deck M D C H' (c + i) ∧ H' S = some (.lst xs) ∧ Sts K H' xs ss ∧ prS ss = ps.take i ∧ (∀ s ∈ ss, OkSt n s ∧ BdSt 3 s)) ?_ ?_ ?_ ?_
    · exact ⟨_, _, _, [], [], rfl, Same.fw s1, dk.same s1, hS, .nil, rfl, by simp⟩
    · rintro i σ H' _ ⟨t3, t4, t5, xs, ss, rfl, f2, _⟩
      exact .of (f2 _ _ LD hL)
    · rintro i x σ H2 hx ⟨t3, t4, t5, xs, ss, rfl, f2, k2, hS2, hst2, ep, ok2⟩
      have hil := (List.getElem?_eq_some_iff.mp hx).1
      have z2 : Tps H H2 := f2.ts dk
      obtain ⟨⟨u, v⟩, hpi, qp, rfl, hq⟩ := Paired.at hps hx
      obtain ⟨au, av, ane⟩ := ap _ (List.mem_of_getElem? hpi)
      have hq2 : H2 qp = some (.tup [V.int (u : Nat), .int (v : Nat)]) := z2 _ _ hq
      have lxs := hst2.len
      have lss : ss.length = i := by
        have := congrArg List.length ep
        unfold prS at this
        rw [List.length_map, List.length_take] at this
        omega
      walk_at "r"
      refine ⟨_, _, _, _, rfl, ⟨by decide, by decide⟩, k2, by omega, fun H3 r3 w3 k3 a3 b3 => ?_⟩
      have z3 := w3.ts k2
      have hS3 := w3 _ _ SD hS2
      walk_at "r"
      refine ⟨Or.inl ⟨rfl, _, Or.inl (Or.inl hS3)⟩, ?_⟩
      walk_at "r"
      intro p1 n1
      have t1 := same_upd (o := .tup [V.int (1 + r3), .int 1]) n1
      have g1 : upd H3 p1 (.tup [V.int (1 + r3), .int 1]) p1 = some (.tup [V.int (1 + r3), .int 1]) := upd_same
      generalize upd H3 p1 (.tup [V.int (1 + r3), .int 1]) = K1 at *
      walk_at "r"
      intro p2 n2
      have t2 := same_upd (o := .tup [V.int (1 + r3), .int 1]) n2
      have g2 : upd K1 p2 (.tup [V.int (1 + r3), .int 1]) p2 = some (.tup [V.int (1 + r3), .int 1]) := upd_same
      generalize upd K1 p2 (.tup [V.int (1 + r3), .int 1]) = K2 at *
      walk_at "r"
      intro p3 n3
      have t3' := same_upd (o := .tup [V.int (1 + r3), .int 1]) n3
      have g3 : upd K2 p3 (.tup [V.int (1 + r3), .int 1]) p3 = some (.tup [V.int (1 + r3), .int 1]) := upd_same
      generalize upd K2 p3 (.tup [V.int (1 + r3), .int 1]) = K3 at *
      walk_at "r"
      intro p4 n4
      have t4' := same_upd (o := .tup [V.int (u : Nat), .int (v : Nat), .ref p1, .ref p2, .ref p3]) n4
      have g4 : upd K3 p4 (.tup [V.int (u : Nat), .int (v : Nat), .ref p1, .ref p2, .ref p3]) p4 = some (.tup [V.int (u : Nat), .int (v : Nat), .ref p1, .ref p2, .ref p3]) := upd_same
      generalize upd K3 p4 (.tup [V.int (u : Nat), .int (v : Nat), .ref p1, .ref p2, .ref p3]) = K4 at *
      have t14 := (t1.trans t2).trans (t3'.trans t4')
      have hS4 := t14 _ _ hS3
      have ist : IsSt K K4 (.ref p4) ⟨u, v, ((1 + r3 : Int) : Rat), ((1 + r3 : Int) : Rat), ((1 + r3 : Int) : Rat)⟩ := ⟨p4, _, _, _, rfl, g4, isF_int (((t2.trans t3').trans t4') _ _ g1), isF_int ((t3'.trans t4') _ _ g2), isF_int (t4' _ _ g3)⟩
      obtain ⟨okn, bdn⟩ := root_ok au av ane (show 0 < 1 + r3 by omega) (show 1 + r3 ≤ 5 by omega)
      walk_at "r"
      refine ⟨S, xs, _, rfl, rfl, hS4, small1000 (by omega), ?_⟩
      have tp := tps_put (H1 := K4) (o := .lst (xs ++ [V.ref p4])) hS4
      refine ⟨_, _, _, xs ++ [.ref p4], ss ++ [_], rfl, fun b o hb h => (upd_ne (ne_of_none h nS)).trans (t14 _ _ (w3 _ _ hb (f2 _ _ hb h))), ((k3.same t14).put SD SC).mono (by omega), upd_same, Paired.snoc (((hst2.ts z3).same t14).ts tp) (ist.ts tp), ?_, fun t ht => ?_⟩
      · unfold prS at *
        rw [List.map_append, ep, List.take_add_one, hpi]
        rfl
      · rcases List.mem_append.mp ht with h | h
        · exact ok2 t h
        · rw [List.mem_singleton.mp h]
          exact ⟨okn, bdn⟩
    · rintro σ H2 ⟨t3, t4, t5, xs, ss, rfl, f2, k2, hS2, hst2, ep, ok2⟩
      rw [lys, List.take_length] at ep
      walk_at "r"
      exact q _ S xs ss f2 (k2.mono (by omega)) SD SC nS hS2 hst2 ep ok2
def nmF (n : Nat) (ps : List (Nat × Nat)) (x : Nat) : Nat := (namesN n ps n).getD x 0
theorem turn_take {nm : List Nat} {ps : List (Nat × Nat)} {i : Nat} {p : Nat × Nat} (h : ps[i]? = some p) : turnN nm (ps.take (i + 1)) = stepN (turnN nm (ps.take i)) p := by
  unfold turnN
  rw [List.take_add_one, h, List.foldl_append]
  rfl
theorem turn_len (ps : List (Nat × Nat)) : ∀ nm : List Nat, (turnN nm ps).length = nm.length := by
  induction ps with
  | nil => exact fun _ => rfl
  | cons p ps ih =>
    intro nm
    show (turnN (stepN nm p) ps).length = nm.length
    rw [ih, stepN_len]
theorem names_len (n : Nat) (ps : List (Nat × Nat)) : ∀ t, (namesN n ps t).length = n
  | 0 => List.length_range
  | t + 1 => by
    show (turnN (namesN n ps t) ps).length = n
    rw [turn_len, names_len n ps t]
theorem nv_set (l : List Nat) (i x : Nat) : (nv l).set i (V.int (x : Nat)) = nv (l.set i x) := by
  show ((l.map fun b : Nat => (b : Int)).map V.int).set i (V.int (x : Nat)) = ((l.set i x).map fun b : Nat => (b : Int)).map V.int
  rw [List.map_set, List.map_set]
def sp_ldue8 : Sp := fun vs H Q _ => ∃ (L : Addr) (n : Nat) (ys : List V) (ps : List (Nat × Nat)), vs = [.int (n : Nat), .ref L] ∧ n ≤ 8 ∧ H L = some (.lst ys) ∧ Paired (IsPr H) ys ps ∧ (∀ p ∈ ps, p.1 < n ∧ p.2 < n) ∧
  ∀ H' G zs, Same H H' → H G = none → H' G = some (.lst zs) → Paired (IsPcF n (nmF n ps) H') zs (ldF n (nmF n ps)) → Q (.ref G) H'
theorem ok_l_due (T : Txt K mg f_is_integer f_is_row f_is_fraction f_is_some f_multiplied f_squared f_is_stall f_is_ware f_check_ware f_across f_stalls_of f_neighbours f_joined f_pieces f_l_deck f_l_pick f_l_pairs f_l_stalls f_l_due f_l_is_told f_law f_Web_init f_Web_eq c_BadWare c_Web d_is_integer d_is_row d_is_fraction d_is_some d_multiplied d_squared d_is_stall d_is_ware d_check_ware d_across d_stalls_of d_neighbours d_joined d_pieces d_l_deck d_l_pick d_l_pairs d_l_stalls d_l_due d_l_is_told d_law d_Web_init d_Web_eq) : FnOk P w K mg base CX0 1 f_l_due d_l_due ["_law_wares", "_law_pairs_here"] sp_ldue8 := by
  refine T.F_l_due.ok sc_l_due (fun vs H Q E h => ?_) (fun cdv A outer sh H vs Q E hr h => ?_)
  · obtain ⟨L, n, ys, ps, rfl, _⟩ := h
    rfl
  · obtain ⟨L, n, ys, ps, rfl, n8, hL, hps, ap, q⟩ := h
    have lys := Paired.length hps
    refine ⟨_, (pss_cons (ps_set (i := 2) sc_l_due.nd rfl (by first | exact Or.inl rfl | exact Or.inr rfl) (pe_listRg rfl (by rfl) T.z_list (prg_1 (by rfl) T.z_range (pv 0))))
      (pss_cons (ps_for PassesOwn.never rfl (pi_range1 (by rfl) T.z_range (pa_cons (pv 0) pa_nil)) (pg_name (i := 3) sc_l_due.nd rfl (by first | exact Or.inl rfl | exact Or.inr rfl))
        (pss_one (ps_for PassesOwn.never rfl (pi_list (pv 1)) (pg_tup rfl (pgs_cons (pg_name (i := 4) sc_l_due.nd rfl (by first | exact Or.inl rfl | exact Or.inr rfl)) (pgs_cons (pg_name (i := 5) sc_l_due.nd rfl (by first | exact Or.inl rfl | exact Or.inr rfl)) pgs_nil)))
            (pss_cons (ps_set (i := 6) sc_l_due.nd rfl (by first | exact Or.inl rfl | exact Or.inr rfl) (pe_callB (call_minN rfl) (by rfl) T.z_min (by decide +kernel) (pa_cons (pe_ix ix_list (pv 2) (pv 4) (fun _ _ => rfl)) (pa_cons (pe_ix ix_list (pv 2) (pv 5) (fun _ _ => rfl)) pa_nil))))
              (pss_cons (ps_asg (pv 6) (pg_sub (pv 2) (pv 4) set_list))
              (pss_one (ps_asg (pv 6) (pg_sub (pv 2) (pv 5) set_list))))))))
      (pss_cons (ps_set (i := 7) sc_l_due.nd rfl (by first | exact Or.inl rfl | exact Or.inr rfl) (pe_lst pa_nil))
      (pss_cons (ps_for PassesOwn.never rfl (pi_range1 (by rfl) T.z_range (pa_cons (pv 0) pa_nil)) (pg_name (i := 8) sc_l_due.nd rfl (by first | exact Or.inl rfl | exact Or.inr rfl))
        (pss_one (ps_if (pt_cmpR op_eq (pe_ix ix_list (pv 2) (pv 8) (fun _ _ => rfl)) (pv 8) (nomark _))
            (pss_one (ps_expr (pe_bm PySem.F.plainAttrs_list PySem.F.slot_list_append PySem.F.type_list_append mt_append (pv 7) (pa_cons (pe_callTy call_tuple_of (by rfl) T.z_tuple (by decide +kernel) (pa_cons (pe_lc (own := [("_law_other", 5)]) (g := gName 5) rfl sc_l_due.nd (pi_range1 (by rfl) T.z_range (pa_cons (pv 0) pa_nil)) (blkOk_by (own := [("_law_other", 5)]) (N := N_l_due) (sc := defScope s_l_due) (by decide +kernel)) (fun _ _ _ _ _ => (pg_name (i := 5) sc_l_due.nd rfl (by first | exact Or.inl rfl | exact Or.inr rfl))) (fun _ _ _ _ _ => (pts_one (pt_cmpR op_eq (pe_ix (My.ix_listK (K := K) (by rfl)) (pv 2) (pv 5) (fun _ _ => rfl)) (pv 8) (nomark _)))) (fun _ _ _ _ _ => (pv 5))) pa_nil)) pa_nil))))
            pss_nil)))
      (pss_one (ps_ret (pv 7))))))), ?_⟩
    walk_at "r"
    refine rd_lstRg ?_
    walk_at "r"
    refine ⟨.of_le (by decide) (by omega) (by decide) (by omega), fun N nN => ?_⟩
    rw [nv_range]
    have s1 := same_upd (o := .lst (nv (List.range n))) nN
    have hN : upd H N (.lst (nv (List.range n))) N = some (.lst (nv (List.range n))) := upd_same
    generalize upd H N (.lst (nv (List.range n))) = H1 at *
    walk_at "r"
    refine ⟨by omega, by omega, ?_⟩
    refine for_range (lo := 0) (n := n) (fun i σ H' => ∃ (t3 t4 t5 t6 t7 t8 : Option V), σ = [some (.int (n : Nat)), some (.ref L), some (.ref N), t3, t4, t5, t6, t7, t8] ∧ Same H H' ∧ H' N = some (.lst (nv (namesN n ps i)))) ?_ ?_ ?_
    · exact ⟨_, _, _, _, _, _, rfl, s1, hN⟩
    · rintro i σ H2 hi ⟨t3, t4, t5, t6, t7, t8, rfl, s2, hN2⟩
      walk_at "r"
      refine ⟨⟨_, .of (s2 _ _ hL)⟩, ?_⟩
      refine for_list (K := K) (a := L) (xs := ys) (fun j σ H' => ∃ (t4 t5 t6 t7 t8 : Option V), σ = [some (.int (n : Nat)), some (.ref L), some (.ref N), some (.int (0 + (i : Nat))), t4, t5, t6, t7, t8] ∧ Same H H' ∧ H' N = some (.lst (nv (turnN (namesN n ps i) (ps.take j))))) ?_ ?_ ?_ ?_
      · exact ⟨_, _, _, _, _, rfl, s2, hN2⟩
      · rintro j σ H' _ ⟨t4, t5, t6, t7, t8, rfl, s3, _⟩
        exact .of (s3 _ _ hL)
      · rintro j x σ H3 hx ⟨t4, t5, t6, t7, t8, rfl, s3, hN3⟩
        obtain ⟨⟨u, v⟩, hpj, qp, rfl, hq⟩ := Paired.at hps hx
        obtain ⟨au, av⟩ := ap _ (List.mem_of_getElem? hpj)
        have au : u < n := au
        have av : v < n := av
        have hq3 : H3 qp = some (.tup [V.int (u : Nat), .int (v : Nat)]) := s3 _ _ hq
        have hl : (turnN (namesN n ps i) (ps.take j)).length = n := by rw [turn_len, names_len]
        have et := turn_take (nm := namesN n ps i) hpj
        generalize turnN (namesN n ps i) (ps.take j) = nm at *
        walk_at "r"
        refine rd_ixL hN3 (at_some (nv_at (by omega))) ?_
        walk_at "r"
        refine rd_ixL hN3 (at_some (nv_at (by omega))) ?_
        walk_at "r"
        rw [show min ((nm.getD u 0 : Nat) : Int) ((nm.getD v 0 : Nat) : Int) = ((min (nm.getD u 0) (nm.getD v 0) : Nat) : Int) by omega]
        generalize hmn : min (nm.getD u 0) (nm.getD v 0) = mn
        refine rd_setL hN3 (ixN_at (by rw [nv_len]; omega)) ?_
        rw [nv_set]
        have hN4 : upd H3 N (.lst (nv (nm.set u mn))) N = some (.lst (nv (nm.set u mn))) := upd_same
        have s4 : Same H (upd H3 N (.lst (nv (nm.set u mn)))) := same_put nN s3
        generalize upd H3 N (.lst (nv (nm.set u mn))) = H4 at *
        walk_at "r"
        refine rd_setL hN4 (ixN_at (by rw [nv_len, List.length_set]; omega)) ?_
        rw [nv_set]
        refine ⟨_, _, _, _, _, rfl, same_put nN s4, ?_⟩
        rw [upd_same, et]
        unfold stepN
        rw [hmn]
      · rintro σ H3 ⟨t4, t5, t6, t7, t8, rfl, s3, hN3⟩
        rw [lys, List.take_length] at hN3
        walk_at "r"
        exact ⟨_, _, _, _, _, _, rfl, s3, hN3⟩
    · rintro σ H2 ⟨t3, t4, t5, t6, t7, t8, rfl, s2, hN2⟩
      have hl := names_len n ps n
      walk_at "r"
      intro G nG
      have s3 := same_upd (o := .lst ([] : List V)) nG
      have hG : upd H2 G (.lst []) G = some (.lst []) := upd_same
      generalize upd H2 G (.lst []) = H3 at *
      have hN3 := s3 _ _ hN2
      have nG0 := s2.free nG
      have GN : N ≠ G := ne_of_none hN2 nG
      walk_at "r"
      refine ⟨by omega, by omega, ?_⟩
      refine for_range (lo := 0) (n := n) (fun i σ H' => ∃ (t3 t4 t5 t6 t8 : Option V) (zs : List V), σ = [some (.int (n : Nat)), some (.ref L), some (.ref N), t3, t4, t5, t6, some (.ref G), t8] ∧ Same H H' ∧ H' N = some (.lst (nv (namesN n ps n))) ∧ H' G = some (.lst zs) ∧ Paired (IsPcF n (nmF n ps) H') zs ((List.range i).filter fun x => decide (nmF n ps x = x))) ?_ ?_ ?_
      · exact ⟨_, _, _, _, _, [], rfl, s2.trans s3, hN3, hG, .nil⟩
      · rintro i σ H4 hi ⟨t3, t4, t5, t6, t8, zs, rfl, s4, hN4, hG4, hz4⟩
        have lz := Paired.length hz4
        have lz8 : zs.length ≤ i := by
          rw [lz]
          have := List.length_filter_le (fun x => decide (nmF n ps x = x)) (List.range i)
          rw [List.length_range] at this
          exact this
        walk_at "r"
        rw [Int.zero_add]
        refine rd_ixL hN4 (at_some (nv_at (by omega))) ?_
        walk_at "r"
        by_cases c : nmF n ps i = i
        · have c' : (((namesN n ps n).getD i 0 : Nat) : Int) = (i : Nat) := by
            show ((nmF n ps i : Nat) : Int) = (i : Nat)
            rw [c]
          walk_at "r"
          refine ⟨Or.inl ⟨rfl, _, Or.inl (Or.inl hG4)⟩, ?_⟩
          walk_at "r"
          refine ⟨by omega, by omega, fun E nE => ?_⟩
          refine lc_rangeP (R := fun H v (b : Nat) => v = .int (b : Nat)) (fun _ _ _ _ _ h => h) (f := fun x => if nmF n ps x = i then some x else none) nE (by omega) (fun x hx H' Q' N' s5 hyy hnn => ?_) fun H5 hl5 => ?_
          · have hx : x < n := hx
            rw [Int.zero_add]
            walk_at "r"
            refine ⟨rfl, ?_⟩
            walk_at "r"
            refine rd_ixL (s5 _ _ hN4) (at_some (nv_at (by omega))) ?_
            walk_at "r"
            by_cases c2 : nmF n ps x = i
            · have c2' : (((namesN n ps n).getD x 0 : Nat) : Int) = (i : Nat) := by
                show ((nmF n ps x : Nat) : Int) = (i : Nat)
                rw [c2]
              walk_at "r"
              exact hyy x _ _ (if_pos c2) (Same.refl _) rfl
            · have c2' : ¬ (((namesN n ps n).getD x 0 : Nat) : Int) = (i : Nat) := fun z => c2 (by
                have z : ((nmF n ps x : Nat) : Int) = (i : Nat) := z
                omega)
              walk_at "r"
              exact hnn _ (if_neg c2) (Same.refl _)
          · obtain ⟨s5, es, hE, hes⟩ := hl5
            rw [show upTo (fun x => if nmF n ps x = i then some x else none) ((n : Nat) : Int).toNat = pcF n (nmF n ps) i from up_filter _ _] at hes
            have ee := ints_of hes
            subst ee
            walk_at "r"
            refine ⟨_, _, rfl, .inl ⟨.of hE, fun t nt => ?_⟩⟩
            have s6 := same_upd (o := .tup (nv (pcF n (nmF n ps) i))) nt
            have ht : upd H5 t (.tup (nv (pcF n (nmF n ps) i))) t = some (.tup (nv (pcF n (nmF n ps) i))) := upd_same
            generalize upd H5 t (.tup (nv (pcF n (nmF n ps) i))) = H6 at *
            have s56 := s5.trans s6
            have hG6 := s56 _ _ hG4
            walk_at "r"
            refine ⟨G, zs, _, rfl, rfl, hG6, small1000 (by omega), ?_⟩
            have tp := tps_put (H1 := H6) (o := .lst (zs ++ [V.ref t])) hG6
            refine ⟨_, _, _, _, _, zs ++ [.ref t], rfl, same_put nG0 (s4.trans s56), (upd_ne GN).trans (s56 _ _ hN4), upd_same, ?_⟩
            rw [List.range_succ, List.filter_append, List.filter_cons, if_pos (decide_eq_true c)]
            exact Paired.snoc (pcs_ts (fun a x h => tp _ _ (s56 _ _ h)) hz4) (IsPcF.ts tp ⟨t, rfl, ht⟩)
        · have c' : ¬ (((namesN n ps n).getD i 0 : Nat) : Int) = (i : Nat) := fun z => c (by
            have z : ((nmF n ps i : Nat) : Int) = (i : Nat) := z
            omega)
          walk_at "r"
          refine ⟨_, _, _, _, _, zs, rfl, s4, hN4, hG4, ?_⟩
          rw [List.range_succ, List.filter_append, List.filter_cons, if_neg (by simpa using c), List.filter_nil, List.append_nil]
          exact hz4
      · rintro σ H4 ⟨t3, t4, t5, t6, t8, zs, rfl, s4, hN4, hG4, hz4⟩
        walk_at "r"
        exact q _ G zs s4 nG0 hG4 hz4
end
end My
namespace My
open PySem PySem.Spec PyProof.Rows L2
variable {K : PySem.W.Frag}
theorem rd_revL {te : TE} {σ : L2.St} {H : Hp} {Q : VK} (h : te σ H fun x H1 => ∃ a xs, x = .ref a ∧ SqL K H1 a xs ∧ ∀ p, H1 p = none → Q (.ref p) (upd H1 p (.lst xs.reverse))) : tRevL K te σ H Q := h
theorem paired_rev {α β : Type} {R : α → β → Prop} {xs : List α} {ys : List β} (h : Paired R xs ys) : Paired R xs.reverse ys.reverse := by
  induction h with
  | nil => exact .nil
  | cons h t ih =>
    rw [List.reverse_cons, List.reverse_cons]
    exact Paired.snoc ih h
theorem isi_lst8 {H : Hp} {Q : VK} {p : Addr} {xs : List V} (h : H p = some (.lst xs)) (q : Q (.bl true) H) : rIsi K [.ref p, .ty "list"] H Q := ⟨_, _, _, _, _, rfl, .ty _, .base (.lst h), kit_ty (by decide +kernel), q⟩
theorem bools8 {bs : List V} {l : List Bool} (h : Paired (fun (v : V) (b : Bool) => v = .bl b) bs l) : bs = l.map V.bl := by
  induction h with
  | nil => rfl
  | cons h t ih => rw [h, ih]; rfl
theorem ints8_lay : ∀ ns : List Int, PyData.canLayAll0 (ns.map PyData.int) = true ∧ PyData.depthAll (ns.map PyData.int) ≤ 0
  | [] => ⟨rfl, by show PyData.depthAll [] ≤ 0; decide⟩
  | n :: ns => by
    obtain ⟨h1, h2⟩ := ints8_lay ns
    refine ⟨?_, ?_⟩
    · show (PyData.canLay0 (PyData.int n) && PyData.canLayAll0 (ns.map PyData.int)) = true
      rw [h1]
      rfl
    · show max (PyData.depth (PyData.int n)) (PyData.depthAll (ns.map PyData.int)) ≤ 0
      have : PyData.depth (PyData.int n) ≤ 0 := Nat.le_refl 0
      omega
def tnD (l : List Nat) : PyData := .tuple ((l.map fun b : Nat => (b : Int)).map PyData.int)
theorem tnD_lay (l : List Nat) : PyData.canLay0 (tnD l) = true ∧ PyData.depth (tnD l) ≤ 2 := by
  obtain ⟨h1, h2⟩ := ints8_lay (l.map fun b : Nat => (b : Int))
  refine ⟨h1, ?_⟩
  show PyData.depthAll ((l.map fun b : Nat => (b : Int)).map PyData.int) + 1 ≤ 2
  omega
theorem tnD_refl (l : List Nat) : PyData.eqv (tnD l) (tnD l) = true := all_refl PyData.int (fun a => by simp [PyData.eqv]) _
/-- lists of tuples of wares -/
def IsTn (H : Hp) (v : V) (l : List Nat) : Prop := ∃ t, v = .ref t ∧ H t = some (.tup (nv l))
theorem IsTn.dp {H : Hp} {v : V} {l : List Nat} (h : IsTn H v l) : Dp K H v (tnD l) := by
  obtain ⟨t, rfl, h⟩ := h
  exact .tup (.of h) (dpAll_ints _)
theorem IsTn.ts {H H' : Hp} {v : V} {l : List Nat} (f : Tps H H') (h : IsTn H v l) : IsTn H' v l := by
  obtain ⟨q, e, h⟩ := h
  exact ⟨q, e, f _ _ h⟩
theorem tns_ts {H H' : Hp} {ys : List V} {ls : List (List Nat)} (f : Tps H H') (h : Paired (IsTn H) ys ls) : Paired (IsTn H') ys ls := Paired.mapP h fun _ _ h => h.ts f
theorem neTn {H : Hp} {p q : Addr} {xs ys : List V} {ls : List (List Nat)} {Q : VK} (h1 : H p = some (.lst xs)) (f1 : Paired (IsTn H) xs ls) (h2 : H q = some (.lst ys)) (f2 : Paired (IsTn H) ys ls) (k : Q (.bl false) H) : rNeD K (.ref p) (.ref q) H Q := by
  have sh := shaped_list tnD tnD_lay ls
  refine ⟨.list (ls.map tnD), .list (ls.map tnD), .lst (.of h1) (dps (R := IsTn) (f := tnD) (fun h => h.dp) f1), .lst (.of h2) (dps (R := IsTn) (f := tnD) (fun h => h.dp) f2), sh, sh, ?_⟩
  rw [show PyData.eqv (.list (ls.map tnD)) (.list (ls.map tnD)) = true from all_refl tnD tnD_refl ls]
  exact k
theorem eqTn {H : Hp} {p q : Addr} {xs ys : List V} {ls : List (List Nat)} {Q : VK} (h1 : H p = some (.lst xs)) (f1 : Paired (IsTn H) xs ls) (h2 : H q = some (.lst ys)) (f2 : Paired (IsTn H) ys ls) (k : Q (.bl true) H) : rEqD K (.ref p) (.ref q) H Q := by
  have sh := shaped_list tnD tnD_lay ls
  refine ⟨.list (ls.map tnD), .list (ls.map tnD), .lst (.of h1) (dps (R := IsTn) (f := tnD) (fun h => h.dp) f1), .lst (.of h2) (dps (R := IsTn) (f := tnD) (fun h => h.dp) f2), sh, sh, ?_⟩
  rw [show PyData.eqv (.list (ls.map tnD)) (.list (ls.map tnD)) = true from all_refl tnD tnD_refl ls]
  exact k
/-- the pieces by a lead -/
def pcsF (n : Nat) (F : Nat → Nat) : List (List Nat) := (ldF n F).map (pcF n F)
theorem paired_map {α β γ : Type} {R : α → γ → Prop} {f : β → γ} {xs : List α} {ls : List β} (h : Paired (fun x l => R x (f l)) xs ls) : Paired R xs (ls.map f) := by
  induction h with
  | nil => exact .nil
  | cons h t ih => exact .cons h ih
theorem pcs_of {n : Nat} {F : Nat → Nat} {H : Hp} {ys : List V} (h : Paired (IsPcF n F H) ys (ldF n F)) : Paired (IsTn H) ys (pcsF n F) := paired_map (R := IsTn H) (f := pcF n F) h
theorem pcs_conv {n : Nat} {F : Nat → Nat} {ss : List Stl} {H : Hp} {ys : List V} (e : ∀ x, x < n → fF n ss x = F x) (h : Paired (IsPcs K n ss H) ys (leads n ss)) : Paired (IsTn H) ys (pcsF n F) := by
  have e1 : pcsF n F = (leads n ss).map (pieceL n ss) := by
    unfold pcsF
    rw [← ld_congr e]
    exact List.map_congr_left fun l _ => (pc_congr e l).symm
  rw [e1]
  exact paired_map (R := IsTn H) (f := pieceL n ss) h
theorem web_put {B L : Addr} {n : Nat} {x : V} {ss : List Stl} {H : Hp} {xs : List V} {o : HO} (h : IsWeb K B H x n ss) (hL : H L = some (.lst xs)) : IsWeb K B (upd H L o) x n ss := by
  obtain ⟨p, dx, t, ys, e, h1, h2, h3⟩ := h
  have tp : Tps H (upd H L o) := tps_put (H1 := H) hL
  refine ⟨p, dx, t, ys, e, (upd_ne fun z => ?_).trans h1, tp _ _ h2, h3.ts tp⟩
  rw [z, hL] at h1
  cases h1
section
variable {P : Program} {w : World} {K : PySem.W.Frag} {mg : Str → Option Value} {base : Heap} {f_is_integer f_is_row f_is_fraction f_is_some f_multiplied f_squared f_is_stall f_is_ware f_check_ware f_across f_stalls_of f_neighbours f_joined f_pieces f_l_deck f_l_pick f_l_pairs f_l_stalls f_l_due f_l_is_told f_law f_Web_init f_Web_eq c_BadWare c_Web : Addr} {d_is_integer d_is_row d_is_fraction d_is_some d_multiplied d_squared d_is_stall d_is_ware d_check_ware d_across d_stalls_of d_neighbours d_joined d_pieces d_l_deck d_l_pick d_l_pairs d_l_stalls d_l_due d_l_is_told d_law d_Web_init d_Web_eq : FuncData}
def sp_ltold8 (K : PySem.W.Frag) (C : Addr) : Sp := fun vs H Q _ => ∃ (x : V) (G : Addr) (n : Nat) (F : Nat → Nat) (ss : List Stl) (zs : List V), vs = [x, .ref G] ∧ IsWeb K C H x n ss ∧ n ≤ 8 ∧ ss.length ≤ 16 ∧ (∀ s ∈ ss, OkSt n s) ∧ H G = some (.lst zs) ∧ Paired (IsTn H) zs (pcsF n F) ∧ (∀ x, x < n → fF n ss x = F x) ∧
  ∀ H', Same H H' → Q (.bl true) H'
theorem ok_l_is_told (T : Txt K mg f_is_integer f_is_row f_is_fraction f_is_some f_multiplied f_squared f_is_stall f_is_ware f_check_ware f_across f_stalls_of f_neighbours f_joined f_pieces f_l_deck f_l_pick f_l_pairs f_l_stalls f_l_due f_l_is_told f_law f_Web_init f_Web_eq c_BadWare c_Web d_is_integer d_is_row d_is_fraction d_is_some d_multiplied d_squared d_is_stall d_is_ware d_check_ware d_across d_stalls_of d_neighbours d_joined d_pieces d_l_deck d_l_pick d_l_pairs d_l_stalls d_l_due d_l_is_told d_law d_Web_init d_Web_eq) : FnOk P w K mg base CX0 3 f_l_is_told d_l_is_told ["_law_web", "_law_due_here"] (sp_ltold8 K c_Web) := by
  have G_pieces : FnOk P w K mg base CX0 2 f_pieces d_pieces ["web"] (sp_pieces K c_Web) := ok_pieces T
  refine T.F_l_is_told.ok sc_l_is_told (fun vs H Q E h => ?_) (fun cdv A outer sh H vs Q E hr h => ?_)
  · obtain ⟨x, G, n, F, ss, zs, rfl, _⟩ := h
    rfl
  · obtain ⟨x, G, n, F, ss, zs, rfl, hw, n8, l16, ok, hG, hz, eF, q⟩ := h
    have llz : (pcsF n F).length ≤ 8 := by
      unfold pcsF ldF
      rw [List.length_map]
      have := List.length_filter_le (fun x => decide (F x = x)) (List.range n)
      rw [List.length_range] at this
      omega
    have hpc : ∀ l ∈ pcsF n F, l.length ≤ 8 := fun l hl => by
      unfold pcsF at hl
      obtain ⟨m, _, rfl⟩ := List.mem_map.mp hl
      have := List.length_filter_le (fun x => decide (F x = m)) (List.range n)
      rw [List.length_range] at this
      exact Nat.le_trans this n8
    refine ⟨_, (pss_cons (ps_set (i := 2) sc_l_is_told.nd rfl (by first | exact Or.inl rfl | exact Or.inr rfl) (pe_call G_pieces (hr.mono (by decide)) (by rfl) T.g_pieces T.k_pieces T.b_pieces .nil pass0 (pa_cons (pv 0) pa_nil)))
      (pss_cons (ps_if (PW.pt (pw_or (pt_not (pt_val (pe_callB call_isi (by rfl) T.z_isinstance (by decide +kernel) (pa_cons (pv 2) (pa_cons (pe_bltn (v := .ty "list") (u := .type "list") (by rfl) T.z_list (by decide +kernel) rfl) pa_nil))))) (pw_or1 (pt_not (pt_val (pe_callB (cr_all rfl) (by rfl) T.z_all (by decide +kernel) (pa_cons (pe_lc (own := [("_law_piece", 3)]) (g := gName 3) rfl sc_l_is_told.nd (pi_list (pv 2)) (blkOk_by (own := [("_law_piece", 3)]) (N := N_l_is_told) (sc := defScope s_l_is_told) (by decide +kernel)) (fun _ _ _ _ _ => (pg_name (i := 3) sc_l_is_told.nd rfl (by first | exact Or.inl rfl | exact Or.inr rfl))) (fun _ _ _ _ _ => pts_nil) (fun _ _ _ _ _ => (pe_callB (My.call_isiK' (K := K) (by rfl)) (by rfl) T.z_isinstance (by decide +kernel) (pa_cons (pv 3) (pa_cons (pe_bltn (v := .ty "tuple") (u := .type "tuple") (by rfl) T.z_tuple (by decide +kernel) rfl) pa_nil))))) pa_nil)))))))
        (pss_one (ps_ret pe_bl))
        pss_nil)
      (pss_cons (ps_for PassesOwn.never rfl (pi_list (pv 2)) (pg_name (i := 3) sc_l_is_told.nd rfl (by first | exact Or.inl rfl | exact Or.inr rfl))
        (pss_one (ps_if (pt_val (pe_callB (cr_any rfl) (by rfl) T.z_any (by decide +kernel) (pa_cons (pe_lc (own := [("_law_ware", 4)]) (g := gName 4) rfl sc_l_is_told.nd (pi_tup (pv 3)) (blkOk_by (own := [("_law_ware", 4)]) (N := N_l_is_told) (sc := defScope s_l_is_told) (by decide +kernel)) (fun _ _ _ _ _ => (pg_name (i := 4) sc_l_is_told.nd rfl (by first | exact Or.inl rfl | exact Or.inr rfl))) (fun _ _ _ _ _ => pts_nil) (fun _ _ _ _ _ => (pe_callB (My.call_isiK' (K := K) (by rfl)) (by rfl) T.z_isinstance (by decide +kernel) (pa_cons (pv 4) (pa_cons (pe_bltn (v := .ty "bool") (u := .type "bool") (by rfl) T.z_bool (by decide +kernel) rfl) pa_nil))))) pa_nil)))
            (pss_one (ps_ret pe_bl))
            pss_nil)))
      (pss_cons (ps_if (pt_cmpR (op_neD hr.units) (pv 2) (pv 1) (nomark _))
        (pss_one (ps_ret pe_bl))
        pss_nil)
      (pss_cons (ps_expr (pe_bm0 PySem.F.plainAttrs_list PySem.F.slot_list_reverse PySem.F.type_list_reverse mt_reverse (pv 2)))
      (pss_cons (ps_expr (pe_bm PySem.F.plainAttrs_list PySem.F.slot_list_append PySem.F.type_list_append mt_append (pv 2) (pa_cons pe_non pa_nil)))
      (pss_one (ps_ret (pe_cmpR (op_eqD hr.units) (pe_call G_pieces (hr.mono (by decide)) (by rfl) T.g_pieces T.k_pieces T.b_pieces .nil pass0 (pa_cons (pv 0) pa_nil)) (pv 1) (nomark _)))))))))), ?_⟩
    walk_at "r"
    refine ⟨x, n, ss, rfl, hw, n8, l16, ok, fun H1 L ys s1 nL hL hp => ?_⟩
    have hp := pcs_conv eF hp
    have lys := Paired.length hp
    walk_at "r"
    refine isi_lst8 hL ?_
    walk_at "r"
    refine ⟨⟨_, .of hL⟩, fun D nD => ?_⟩
    refine lc_listP (R := fun H v (b : Bool) => v = .bl b) (fun _ _ _ _ _ h => h) (f := fun _ => some true) nD (by omega) (.of hL) (fun i v hx H' Q' N' s2 hyy _ => ?_) fun H2 hl2 => ?_
    · obtain ⟨l, hl, t, rfl, ht⟩ := Paired.at hp hx
      have ht := s2 _ _ ht
      walk_at "r"
      refine ⟨rfl, ?_⟩
      walk_at "r"
      exact hyy true _ _ rfl (Same.refl _) rfl
    obtain ⟨s2, bs, hD, hbs⟩ := hl2
    rw [upTo_map] at hbs
    have e := bools8 hbs
    subst e
    walk_at "r"
    refine ⟨D, _, rfl, .of hD, ?_⟩
    rw [show ∀ l : List Bool, (∀ b ∈ l, b = true) → l.all id = true from fun l h => List.all_eq_true.mpr h]
    rotate_left
    · simp
    have hL2 := s2 _ _ hL
    have hp2 := tns_ts (same_tps s2) hp
    have s12 := s1.trans s2
    walk_at "r"
    refine ⟨⟨_, .of hL2⟩, ?_⟩
    refine for_list (K := K) (a := L) (xs := ys) (fun i σ H' => ∃ (t3 t4 : Option V), σ = [some x, some (.ref G), some (.ref L), t3, t4] ∧ Same H2 H') ?_ ?_ ?_ ?_
    · exact ⟨_, _, rfl, Same.refl _⟩
    · rintro i σ H' _ ⟨t3, t4, rfl, s3⟩
      exact .of (s3 _ _ hL2)
    · rintro i v σ H3 hx ⟨t3, t4, rfl, s3⟩
      obtain ⟨l, hl, t, rfl, ht⟩ := Paired.at hp2 hx
      have l8 := hpc l (List.mem_of_getElem? hl)
      have ht := s3 _ _ ht
      walk_at "r"
      refine ⟨⟨_, .of ht⟩, fun D nD => ?_⟩
      refine lc_tupP (R := fun H v (b : Bool) => v = .bl b) (fun _ _ _ _ _ h => h) (f := fun _ => some false) nD (by rw [nv_len]; omega) (.of ht) (fun i' v' hx' H' Q' N' s4 hyy _ => ?_) fun H4 hl4 => ?_
      · have hil : i' < l.length := by
          have := (List.getElem?_eq_some_iff.mp hx').1
          rwa [nv_len] at this
        rw [nv_at hil] at hx'
        cases hx'
        walk_at "r"
        refine ⟨rfl, ?_⟩
        walk_at "r"
        exact hyy false _ _ rfl (Same.refl _) rfl
      obtain ⟨s4, bs, hD, hbs⟩ := hl4
      rw [upTo_map] at hbs
      have e := bools8 hbs
      subst e
      walk_at "r"
      refine ⟨D, _, rfl, .of hD, ?_⟩
      rw [show ∀ l : List Bool, (∀ b ∈ l, b = false) → l.any id = false from fun l h => List.any_eq_false.mpr fun b hb => by simp [h b hb]]
      rotate_left
      · simp
      walk_at "r"
      exact ⟨_, _, rfl, s3.trans s4⟩
    · rintro σ H3 ⟨t3, t4, rfl, s3⟩
      have s13 := s12.trans s3
      have hL3 := s3 _ _ hL2
      have hG3 := s13 _ _ hG
      have hw3 := hw.same s13
      have GL : G ≠ L := ne_of_none hG nL
      walk_at "r"
      refine neTn hL3 (tns_ts (same_tps s3) hp2) hG3 (tns_ts (same_tps s13) hz) ?_
      walk_at "r"
      refine rd_bm0 ?_
      walk_at "r"
      refine ⟨Or.inl ⟨rfl, _, Or.inl (Or.inl hL3)⟩, ?_⟩
      refine ⟨L, ys, rfl, rfl, hL3, ?_⟩
      have hw4 := web_put (o := .lst ys.reverse) hw3 hL3
      have tp4 : Tps H3 (upd H3 L (.lst ys.reverse)) := tps_put (H1 := H3) hL3
      have s4 : Same H (upd H3 L (.lst ys.reverse)) := same_put nL s13
      have hL4 : upd H3 L (.lst ys.reverse) L = some (.lst ys.reverse) := upd_same
      have hG4 := (upd_ne (o := .lst ys.reverse) GL).trans hG3
      generalize upd H3 L (.lst ys.reverse) = H4 at *
      walk_at "r"
      refine ⟨Or.inl ⟨rfl, _, Or.inl (Or.inl hL4)⟩, ?_⟩
      walk_at "r"
      refine ⟨L, ys.reverse, _, rfl, rfl, hL4, small1000 (by rw [List.length_reverse]; omega), ?_⟩
      have hw5 := web_put (o := .lst (ys.reverse ++ [V.non])) hw4 hL4
      have s5 : Same H (upd H4 L (.lst (ys.reverse ++ [V.non]))) := same_put nL s4
      have hG5 := (upd_ne (o := .lst (ys.reverse ++ [V.non])) GL).trans hG4
      have tp5 : Tps H4 (upd H4 L (.lst (ys.reverse ++ [V.non]))) := tps_put (H1 := H4) hL4
      generalize upd H4 L (.lst (ys.reverse ++ [V.non])) = H5 at *
      walk_at "r"
      refine ⟨x, n, ss, rfl, hw5, n8, l16, ok, fun H6 L6 ys6 s6 nL6 hL6 hp6 => ?_⟩
      have s56 := s5.trans s6
      walk_at "r"
      refine eqTn hL6 (pcs_conv eF hp6) (s6 _ _ hG5) (tns_ts (same_tps s56) hz) ?_
      exact q _ s56
end
end My
namespace My
open PySem PySem.Spec PyProof.Rows L2
variable {K : PySem.W.Frag}
theorem in_ints (ns : List Nat) (x : Nat) : inV (.int (x : Nat)) (nv ns) = decide (x ∈ ns) := by
  induction ns with
  | nil => rfl
  | cons a ns ih =>
    have e : inV (.int (x : Nat)) (nv (a :: ns)) = (eqV (V.int (a : Nat)) (.int (x : Nat)) || inV (.int (x : Nat)) (nv ns)) := rfl
    rw [e, ih]
    by_cases c : a = x
    · subst c
      simp [eqV]
    · have c' : ¬ ((a : Nat) : Int) = (x : Nat) := by omega
      have c2 : ¬ x = a := fun z => c z.symm
      simp [eqV, c', c2]
theorem flat_ints (ns : List Int) : (ns.map V.int).all flatV = true := by
  induction ns with
  | nil => rfl
  | cons a ns ih => exact ih
theorem pcsF_congr {n : Nat} {F G : Nat → Nat} (h : ∀ x, x < n → F x = G x) : pcsF n F = pcsF n G := by
  unfold pcsF
  rw [ld_congr h]
  exact List.map_congr_left fun l _ => pc_congr h l
theorem prS_rev (ss : List Stl) (p : Nat × Nat) : p ∈ prS ss.reverse ↔ p ∈ prS ss := by
  unfold prS
  rw [List.map_reverse, List.mem_reverse]
theorem rev_same {n : Nat} {ss : List Stl} (ok : ∀ s ∈ ss, OkSt n s) {x : Nat} (hx : x < n) : fF n ss.reverse x = fF n ss x :=
  lead_uniq (lead_firsts fun s hs => ok s (List.mem_reverse.mp hs)) (lead_firsts ok) (fun p hp => (prS_rev ss p).mp hp) (fun p hp => (prS_rev ss p).mpr hp) hx
theorem more_same {n : Nat} {ss : List Stl} {t : Stl} (ok : ∀ s ∈ ss, OkSt n s) {x : Nat} (hx : x < n) : fF n (ss ++ [t]) x = moreF (fF n ss) t.v t.u x := by
  have e : firstsL n (ss ++ [t]) = joinL (firstsL n ss) t.u t.v := by
    unfold firstsL
    rw [List.foldl_append]
    rfl
  unfold fF
  rw [e, joinL_at (by rw [firsts_len ok]; exact hx)]
  unfold moreF
  rw [Nat.min_comm]
  by_cases c : (firstsL n ss).getD x 0 = (firstsL n ss).getD t.u 0 ∨ (firstsL n ss).getD x 0 = (firstsL n ss).getD t.v 0
  · rw [if_pos c, if_pos c.symm]
  · rw [if_neg c, if_neg fun z => c z.symm]
theorem sum_cast (l : List Nat) : (l.map fun b : Nat => (b : Int)).sum = (l.sum : Nat) := by
  induction l with
  | nil => rfl
  | cons a l ih => rw [List.map_cons, List.sum_cons, List.sum_cons, ih]; omega
theorem mod_other {n a r : Nat} (ha : a < n) (hr : r + 1 < n) : (a + 1 + r) % n < n ∧ (a + 1 + r) % n ≠ a := by
  refine ⟨Nat.mod_lt _ (by omega), ?_⟩
  by_cases c : a + 1 + r < n
  · rw [Nat.mod_eq_of_lt c]
    omega
  · rw [Nat.mod_eq_sub_mod (by omega), Nat.mod_eq_of_lt (by omega)]
    omega
theorem mine_is {n : Nat} {F : Nat → Nat} {a b : Nat} (ha : a < n) (hb : b < n) : (pcsF n F).filterMap (fun l => if a ∈ l ∨ b ∈ l then some l else none) = ((ldF n F).filter (inF F a b)).map (pcF n F) := by
  unfold pcsF
  generalize ldF n F = ls
  induction ls with
  | nil => rfl
  | cons l ls ih =>
    rw [List.map_cons, List.filterMap_cons, List.filter_cons]
    have e : (a ∈ pcF n F l ∨ b ∈ pcF n F l) ↔ inF F a b l = true := by
      rw [pc_mem, pc_mem]
      unfold inF
      rw [Bool.or_eq_true, decide_eq_true_eq, decide_eq_true_eq]
      constructor
      · rintro (h | h)
        · exact .inl h.2.symm
        · exact .inr h.2.symm
      · rintro (h | h)
        · exact .inl ⟨ha, h.symm⟩
        · exact .inr ⟨hb, h.symm⟩
    by_cases c : inF F a b l = true
    · rw [if_pos c, if_pos (e.mpr c), List.map_cons, ih]
    · rw [if_neg c, if_neg fun z => c (e.mp z), ih]
theorem restp_is {n : Nat} {F : Nat → Nat} {a b : Nat} (ha : a < n) (hb : b < n) : (pcsF n F).filterMap (fun l => if ¬ a ∈ l ∧ ¬ b ∈ l then some l else none) = ((ldF n F).filter (fun l => !inF F a b l)).map (pcF n F) := by
  unfold pcsF
  generalize ldF n F = ls
  induction ls with
  | nil => rfl
  | cons l ls ih =>
    rw [List.map_cons, List.filterMap_cons, List.filter_cons]
    have e : (¬ a ∈ pcF n F l ∧ ¬ b ∈ pcF n F l) ↔ (!inF F a b l) = true := by
      rw [pc_mem, pc_mem]
      unfold inF
      rw [Bool.not_eq_true', Bool.or_eq_false_iff, decide_eq_false_iff_not, decide_eq_false_iff_not]
      constructor
      · rintro ⟨h1, h2⟩
        exact ⟨fun z => h1 ⟨ha, z.symm⟩, fun z => h2 ⟨hb, z.symm⟩⟩
      · rintro ⟨h1, h2⟩
        exact ⟨fun z => h1 z.2.symm, fun z => h2 z.2.symm⟩
    by_cases c : (!inF F a b l) = true
    · rw [if_pos c, if_pos (e.mpr c), List.map_cons, ih]
    · rw [if_neg c, if_neg fun z => c (e.mp z), ih]
theorem asc_len {nb : List Int} {n : Nat} (h : nb.Pairwise (· < ·)) (hb : ∀ k ∈ nb, ∃ m : Nat, k = (m : Nat) ∧ m < n) : nb.length ≤ n := by
  have h1 := nodup_le n (nb.map Int.toNat) ?_ ?_
  · rwa [List.length_map] at h1
  · refine List.pairwise_map.mpr (h.imp_of_mem fun {a b} ha hb' hab z => ?_)
    obtain ⟨m1, e1, _⟩ := hb a ha
    obtain ⟨m2, e2, _⟩ := hb b hb'
    omega
  · intro x hx
    obtain ⟨k, hk, rfl⟩ := List.mem_map.mp hx
    obtain ⟨m, e, hm⟩ := hb k hk
    omega
theorem new_stall {n a b : Nat} (ha : a < n) (hb : b < n) (ne : b ≠ a) : OkSt n ⟨b, a, 2, 8, 4⟩ ∧ BdSt 4 ⟨b, a, 2, 8, 4⟩ :=
  ⟨⟨hb, ha, ne, (show (0 : Rat) < 2 by decide), (show (0 : Rat) < 8 by decide), (show (0 : Rat) < 4 by decide), (show (2 : Rat) * 8 = 4 * 4 by decide +kernel)⟩, ⟨(show Bd 4 (2 : Rat) from ⟨by decide, by decide⟩), (show Bd 4 (8 : Rat) from ⟨by decide, by decide⟩), (show Bd 4 (4 : Rat) from ⟨by decide, by decide⟩)⟩⟩
theorem tn_tup {H : Hp} {ys : List V} {ls : List (List Nat)} (h : Paired (IsTn H) ys ls) (ne : ∀ l ∈ ls, l ≠ []) : Paired (TupN K H) ys (ls.map toP) := by
  induction h with
  | nil => exact .nil
  | @cons v l vs ls h t ih =>
    refine .cons ?_ (ih fun m hm => ne m (by simp [hm]))
    obtain ⟨q, rfl, h⟩ := h
    refine ⟨q, rfl, .of ?_⟩
    rw [h]
    show some (HO.tup ((l.map fun b : Nat => (b : Int)).map V.int)) = some (HO.tup ((lsN (toP l)).map V.int))
    rw [lsN_toP (ne l (by simp))]
theorem tup_dp {H : Hp} {ys : List V} {ls : List (List Nat)} : Paired (TupN K H) ys (ls.map toP) → (∀ l ∈ ls, l ≠ []) → DpAll K H ys (ls.map tnD) := by
  induction ls generalizing ys with
  | nil =>
    intro h _
    cases h
    exact .nil
  | cons l ls ih =>
    intro h ne
    cases h with
    | cons h t =>
      refine .cons ?_ (ih t fun m hm => ne m (by simp [hm]))
      obtain ⟨q, rfl, h⟩ := h
      have h : SqT K H q ((lsN (toP l)).map V.int) := h
      rw [lsN_toP (ne l (by simp))] at h
      exact .tup h (dpAll_ints _)
theorem neTnT {H : Hp} {p q : Addr} {xs ys : List V} {ls : List (List Nat)} {Q : VK} (h1 : H p = some (.lst xs)) (f1 : Paired (IsTn H) xs ls) (h2 : H q = some (.lst ys)) (f2 : Paired (TupN K H) ys (ls.map toP)) (ne : ∀ l ∈ ls, l ≠ []) (k : Q (.bl false) H) : rNeD K (.ref p) (.ref q) H Q := by
  have sh := shaped_list tnD tnD_lay ls
  refine ⟨.list (ls.map tnD), .list (ls.map tnD), .lst (.of h1) (dps (R := IsTn) (f := tnD) (fun h => h.dp) f1), .lst (.of h2) (tup_dp f2 ne), sh, sh, ?_⟩
  rw [show PyData.eqv (.list (ls.map tnD)) (.list (ls.map tnD)) = true from all_refl tnD tnD_refl ls]
  exact k
structure G08 (K : PySem.W.Frag) (B D C S x4 G : Addr) (n c : Nat) (F : Nat → Nat) (xs : List V) (ss : List Stl) (zs : List V) (H : Hp) : Prop where
  dk : Deck 1048576 D C H c
  web : IsWeb K B H (.ref x4) n ss
  fS : H S = some (.lst xs)
  st : Sts K H xs ss
  fG : H G = some (.lst zs)
  pc : Paired (IsTn H) zs (pcsF n F)
section
variable {B D C S x4 G : Addr} {n c : Nat} {F : Nat → Nat} {xs : List V} {ss : List Stl} {zs : List V} {H H' : Hp}
theorem G08.same (g : G08 K B D C S x4 G n c F xs ss zs H) (s : Same H H') : G08 K B D C S x4 G n c F xs ss zs H' := ⟨g.dk.same s, g.web.same s, s _ _ g.fS, g.st.same s, s _ _ g.fG, tns_ts (same_tps s) g.pc⟩
theorem G08.fw {c' : Nat} (g : G08 K B D C S x4 G n c F xs ss zs H) (sD : S ≠ D) (gD : G ≠ D) (f : Fw D H H') (k : Deck 1048576 D C H' c') : G08 K B D C S x4 G n c' F xs ss zs H' := ⟨k, g.web.fw f g.dk, f _ _ sD g.fS, g.st.ts (f.ts g.dk), f _ _ gD g.fG, tns_ts (f.ts g.dk) g.pc⟩
theorem G08.mono {c' : Nat} (g : G08 K B D C S x4 G n c F xs ss zs H) (h : c ≤ c') : G08 K B D C S x4 G n c' F xs ss zs H := ⟨g.dk.mono h, g.web, g.fS, g.st, g.fG, g.pc⟩
end
section
variable {P : Program} {w : World} {K : PySem.W.Frag} {mg : Str → Option Value} {base : Heap} {f_is_integer f_is_row f_is_fraction f_is_some f_multiplied f_squared f_is_stall f_is_ware f_check_ware f_across f_stalls_of f_neighbours f_joined f_pieces f_l_deck f_l_pick f_l_pairs f_l_stalls f_l_due f_l_is_told f_law f_Web_init f_Web_eq c_BadWare c_Web : Addr} {d_is_integer d_is_row d_is_fraction d_is_some d_multiplied d_squared d_is_stall d_is_ware d_check_ware d_across d_stalls_of d_neighbours d_joined d_pieces d_l_deck d_l_pick d_l_pairs d_l_stalls d_l_due d_l_is_told d_law d_Web_init d_Web_eq : FuncData}
def sp_law (K : PySem.W.Frag) : Sp := fun vs H Q _ => ∃ (a : Addr) (ns : List Int), vs = [.ref a] ∧ SqL K H a (ns.map V.int) ∧ ns.length ≤ 63 ∧ (∀ z ∈ ns, Builtin.Int.intBits z ≤ 1048576) ∧ ∀ H', Q (.bl true) H'
theorem ok_law (T : Txt K mg f_is_integer f_is_row f_is_fraction f_is_some f_multiplied f_squared f_is_stall f_is_ware f_check_ware f_across f_stalls_of f_neighbours f_joined f_pieces f_l_deck f_l_pick f_l_pairs f_l_stalls f_l_due f_l_is_told f_law f_Web_init f_Web_eq c_BadWare c_Web d_is_integer d_is_row d_is_fraction d_is_some d_multiplied d_squared d_is_stall d_is_ware d_check_ware d_across d_stalls_of d_neighbours d_joined d_pieces d_l_deck d_l_pick d_l_pairs d_l_stalls d_l_due d_l_is_told d_law d_Web_init d_Web_eq) : FnOk P w K mg base CX0 7 f_law d_law ["_law_script"] (sp_law K) := by
  have G_l_deck : FnOk P w K mg base CX0 1 f_l_deck d_l_deck ["_law_script"] (sp_deck K) := ok_l_deck T
  have G_l_pick : FnOk P w K mg base CX0 1 f_l_pick d_l_pick ["_law_deck_here", "_law_many"] (sp_pick 1048576) := ok_pick (by decide) (by decide) T
  have G_l_pairs : FnOk P w K mg base CX0 2 f_l_pairs d_l_pairs ["_law_deck_here", "_law_wares"] (sp_lpairs 1048576) := ok_l_pairs (by decide) (by decide) T
  have G_l_stalls : FnOk P w K mg base CX0 2 f_l_stalls d_l_stalls ["_law_deck_here", "_law_pairs_here"] (sp_lstalls8 K 1048576) := ok_l_stalls (by decide) (by decide) T
  have G_l_due : FnOk P w K mg base CX0 1 f_l_due d_l_due ["_law_wares", "_law_pairs_here"] sp_ldue8 := ok_l_due T
  have G_l_is_told : FnOk P w K mg base CX0 3 f_l_is_told d_l_is_told ["_law_web", "_law_due_here"] (sp_ltold8 K c_Web) := ok_l_is_told T
  have G_pieces : FnOk P w K mg base CX0 2 f_pieces d_pieces ["web"] (sp_pieces K c_Web) := ok_pieces T
  have G_neighbours : FnOk P w K mg base CX0 4 f_neighbours d_neighbours ["web", "ware"] (sp_neighbours K c_Web) := ok_neighbours T
  have G_Web_init : FnOk P w K mg base CX0 5 f_Web_init d_Web_init ["self", "wares", "stalls"] (sp_web K c_Web) := ok_Web_init T
  refine T.F_law.ok sc_law (fun vs H Q E h => ?_) (fun cdv A outer sh H vs Q E hr h => ?_)
  · obtain ⟨a, ns, rfl, _⟩ := h
    rfl
  · obtain ⟨a, ns, rfl, hS, hl, hb, q⟩ := h
    refine ⟨_, (pss_cons (ps_set (i := 1) sc_law.nd rfl (by first | exact Or.inl rfl | exact Or.inr rfl) (pe_call G_l_deck (hr.mono (by decide)) (by rfl) T.g_l_deck T.k_l_deck T.b_l_deck .nil pass0 (pa_cons (pv 0) pa_nil)))
      (pss_cons (ps_for PassesOwn.never rfl (pi_range1 (by rfl) T.z_range (pa_cons (pe_op op_add pe_int (pe_callB (call_minN rfl) (by rfl) T.z_min (by decide +kernel) (pa_cons (pe_callB call_lenN (by rfl) T.z_len (by decide +kernel) (pa_cons (pv 0) pa_nil)) (pa_cons pe_int pa_nil)))) pa_nil)) (pg_name (i := 2) sc_law.nd rfl (by first | exact Or.inl rfl | exact Or.inr rfl))
        (pss_cons (ps_set (i := 3) sc_law.nd rfl (by first | exact Or.inl rfl | exact Or.inr rfl) (pe_op op_add pe_int (pe_call G_l_pick (hr.mono (by decide)) (by rfl) T.g_l_pick T.k_l_pick T.b_l_pick .nil pass0 (pa_cons (pv 1) (pa_cons pe_int pa_nil)))))
          (pss_cons (ps_set (i := 4) sc_law.nd rfl (by first | exact Or.inl rfl | exact Or.inr rfl) (pe_call G_l_pairs (hr.mono (by decide)) (by rfl) T.g_l_pairs T.k_l_pairs T.b_l_pairs .nil pass0 (pa_cons (pv 1) (pa_cons (pv 3) pa_nil))))
          (pss_cons (ps_set (i := 5) sc_law.nd rfl (by first | exact Or.inl rfl | exact Or.inr rfl) (pe_call G_l_stalls (hr.mono (by decide)) (by rfl) T.g_l_stalls T.k_l_stalls T.b_l_stalls .nil pass0 (pa_cons (pv 1) (pa_cons (pv 4) pa_nil))))
          (pss_cons (ps_set (i := 6) sc_law.nd rfl (by first | exact Or.inl rfl | exact Or.inr rfl) (pe_make T.w_Web.mks G_Web_init (hr.mono (by decide)) (by rfl) T.w_Web.g T.b_Web_init .nil pass0 (pa_cons (pv 3) (pa_cons (pv 5) pa_nil))))
          (pss_cons (ps_set (i := 7) sc_law.nd rfl (by first | exact Or.inl rfl | exact Or.inr rfl) (pe_call G_l_due (hr.mono (by decide)) (by rfl) T.g_l_due T.k_l_due T.b_l_due .nil pass0 (pa_cons (pv 3) (pa_cons (pv 4) pa_nil))))
          (pss_cons (ps_if (PW.pt (pw_or (pt_not (pt_val (pe_call G_l_is_told (hr.mono (by decide)) (by rfl) T.g_l_is_told T.k_l_is_told T.b_l_is_told .nil pass0 (pa_cons (pv 6) (pa_cons (pv 7) pa_nil))))) (pw_or1 (pt_not (pt_val (pe_call G_l_is_told (hr.mono (by decide)) (by rfl) T.g_l_is_told T.k_l_is_told T.b_l_is_told .nil pass0 (pa_cons (pe_make T.w_Web.mks G_Web_init (hr.mono (by decide)) (by rfl) T.w_Web.g T.b_Web_init .nil pass0 (pa_cons (pv 3) (pa_cons (pe_callTy call_tuple_of (by rfl) T.z_tuple (by decide +kernel) (pa_cons (pe_revL (pv 5)) pa_nil)) pa_nil))) (pa_cons (pv 7) pa_nil))))))))
            (pss_one (ps_ret pe_bl))
            pss_nil)
          (pss_cons (ps_if (pt_cmpR op_ne (pe_callB (cr_sum rfl) (by rfl) T.z_sum (by decide +kernel) (pa_cons (pe_lc (own := [("_law_piece", 8)]) (g := gName 8) rfl sc_law.nd (pi_list (pv 7)) (blkOk_by (own := [("_law_piece", 8)]) (N := N_law) (sc := defScope s_law) (by decide +kernel)) (fun _ _ _ _ _ => (pg_name (i := 8) sc_law.nd rfl (by first | exact Or.inl rfl | exact Or.inr rfl))) (fun _ _ _ _ _ => pts_nil) (fun _ _ _ _ _ => (pe_callB (My.call_lenNK (K := K) (by rfl)) (by rfl) T.z_len (by decide +kernel) (pa_cons (pv 8) pa_nil)))) pa_nil)) (pv 3) (nomark _))
            (pss_one (ps_ret pe_bl))
            pss_nil)
          (pss_cons (ps_for PassesOwn.never rfl (pi_list (pv 7)) (pg_name (i := 8) sc_law.nd rfl (by first | exact Or.inl rfl | exact Or.inr rfl))
            (pss_one (ps_for PassesOwn.never rfl (pi_tup (pv 8)) (pg_name (i := 9) sc_law.nd rfl (by first | exact Or.inl rfl | exact Or.inr rfl))
                (pss_one (ps_if (pt_not (pt_val (pe_callB (cr_all rfl) (by rfl) T.z_all (by decide +kernel) (pa_cons (pe_lc (own := [("_law_other", 10)]) (g := gName 10) rfl sc_law.nd (pi_tup (pe_call G_neighbours (hr.mono (by decide)) (by rfl) T.g_neighbours T.k_neighbours T.b_neighbours .nil pass0 (pa_cons (pv 6) (pa_cons (pv 9) pa_nil)))) (blkOk_by (own := [("_law_other", 10)]) (N := N_law) (sc := defScope s_law) (by decide +kernel)) (fun _ _ _ _ _ => (pg_name (i := 10) sc_law.nd rfl (by first | exact Or.inl rfl | exact Or.inr rfl))) (fun _ _ _ _ _ => pts_nil) (fun _ _ _ _ _ => (pe_cmpR (My.op_inK (K := K) (by rfl)) (pv 10) (pv 8) (by rfl)))) pa_nil))))
                    (pss_one (ps_ret pe_bl))
                    pss_nil)))))
          (pss_one (ps_if (PW.pt (pw_and (pt_cmpR op_gt (pv 3) pe_int (nomark _)) (pw_and1 (pt_cmpR op_lt (pe_callB call_lenN (by rfl) T.z_len (by decide +kernel) (pa_cons (pv 5) pa_nil)) pe_int (nomark _)))))
            (pss_cons (ps_set (i := 11) sc_law.nd rfl (by first | exact Or.inl rfl | exact Or.inr rfl) (pe_call G_l_pick (hr.mono (by decide)) (by rfl) T.g_l_pick T.k_l_pick T.b_l_pick .nil pass0 (pa_cons (pv 1) (pa_cons (pv 3) pa_nil))))
              (pss_cons (ps_set (i := 10) sc_law.nd rfl (by first | exact Or.inl rfl | exact Or.inr rfl) (pe_op op_mod (pe_callTy call_intN (by rfl) T.z_int (by decide +kernel) (pa_cons (pe_op op_add (pe_op op_add (pv 11) pe_int) (pe_call G_l_pick (hr.mono (by decide)) (by rfl) T.g_l_pick T.k_l_pick T.b_l_pick .nil pass0 (pa_cons (pv 1) (pa_cons (pe_op op_sub (pv 3) pe_int) pa_nil)))) pa_nil)) (pv 3)))
              (pss_cons (ps_set (i := 12) sc_law.nd rfl (by first | exact Or.inl rfl | exact Or.inr rfl) (pe_call G_pieces (hr.mono (by decide)) (by rfl) T.g_pieces T.k_pieces T.b_pieces .nil pass0 (pa_cons (pe_make T.w_Web.mks G_Web_init (hr.mono (by decide)) (by rfl) T.w_Web.g T.b_Web_init .nil pass0 (pa_cons (pv 3) (pa_cons (pe_op op_cat (pv 5) (pe_lst (pa_cons (pe_tup (pa_cons (pv 10) (pa_cons (pv 11) (pa_cons (pe_tup (pa_cons pe_int (pa_cons pe_int pa_nil))) (pa_cons (pe_tup (pa_cons pe_int (pa_cons pe_int pa_nil))) (pa_cons (pe_tup (pa_cons pe_int (pa_cons pe_int pa_nil))) pa_nil)))))) pa_nil))) pa_nil))) pa_nil)))
              (pss_cons (ps_setLc (i := 13) (own := [("_law_piece", 8)]) (g := gName 8) rfl sc_law.nd rfl rfl (sw_true rfl rfl rfl (by decide +kernel)) (pi_list (pv 7)) (blkOk_by (own := [("_law_piece", 8)]) (N := N_law) (sc := defScope s_law) (by decide +kernel)) (fun _ _ _ _ _ => (pg_name (i := 8) sc_law.nd rfl (by first | exact Or.inl rfl | exact Or.inr rfl))) (fun _ _ _ _ _ => (pts_one (PW.pt (pw_or (pt_cmpR (My.op_inK (K := K) (by rfl)) (pv 11) (pv 8) (by rfl)) (pw_or1 (pt_cmpR (My.op_inK (K := K) (by rfl)) (pv 10) (pv 8) (by rfl))))))) (fun _ _ _ _ _ => (pv 8)))
              (pss_cons (ps_setLc (i := 14) (own := [("_law_piece", 8)]) (g := gName 8) rfl sc_law.nd rfl rfl (sw_true rfl rfl rfl (by decide +kernel)) (pi_list (pv 7)) (blkOk_by (own := [("_law_piece", 8)]) (N := N_law) (sc := defScope s_law) (by decide +kernel)) (fun _ _ _ _ _ => (pg_name (i := 8) sc_law.nd rfl (by first | exact Or.inl rfl | exact Or.inr rfl))) (fun _ _ _ _ _ => (pts_one (PW.pt (pw_and (pt_cmpR (My.op_notInK (K := K) (by rfl)) (pv 11) (pv 8) (by rfl)) (pw_and1 (pt_cmpR (My.op_notInK (K := K) (by rfl)) (pv 10) (pv 8) (by rfl))))))) (fun _ _ _ _ _ => (pv 8)))
              (pss_cons (ps_set (i := 15) sc_law.nd rfl (by first | exact Or.inl rfl | exact Or.inr rfl) (pe_ix ix_list (pv 13) pe_int (fun _ _ => rfl)))
              (C8.pss_cut (ps_if (pt_cmpR op_eq (pe_callB call_lenN (by rfl) T.z_len (by decide +kernel) (pa_cons (pv 13) pa_nil)) pe_int (nomark _))
                (pss_one (ps_set (i := 15) sc_law.nd rfl (by first | exact Or.inl rfl | exact Or.inr rfl) (pe_callTy call_tuple_of (by rfl) T.z_tuple (by decide +kernel) (pa_cons (pe_callB (My.cr_sortTI hr.units) (by rfl) T.z_sorted (by decide +kernel) (pa_cons (pe_op op_catA (pe_ix ix_list (pv 13) pe_int (fun _ _ => rfl)) (pe_ix ix_list (pv 13) pe_int (fun _ _ => rfl))) pa_nil)) pa_nil))))
                pss_nil)
              (pss_one (ps_if (pt_cmpR (op_neD hr.units) (pv 12) (pe_callB (My.cr_sortD hr.units) (by rfl) T.z_sorted (by decide +kernel) (pa_cons (pe_op op_cat (pv 14) (pe_lst (pa_cons (pv 15) pa_nil))) pa_nil)) (nomark _))
                (pss_one (ps_ret pe_bl))
                pss_nil)))))))))
            pss_nil)))))))))))
      (pss_one (ps_ret pe_bl)))), ?_⟩
    walk_at "r"
    refine ⟨_, _, rfl, hS, hl, hb, fun H1 D C s1 k1 => ?_⟩
    have hS1 := s1.seq hS
    walk_at "r"
    refine rd_lenS ?_ hS1
    walk_at "r"
    refine ⟨by omega, by omega, ?_⟩
    refine for_range (lo := 0) (n := (1 + min ((ns.map V.int).length : Int) 8).toNat) (fun i σ H' => ∃ t2 t3 t4 t5 t6 t7 t8 t9 t10 t11 t12 t13 t14 t15 : Option V, σ = [some (.ref a), some (.ref D), t2, t3, t4, t5, t6, t7, t8, t9, t10, t11, t12, t13, t14, t15] ∧ Deck 1048576 D C H' (1000 * i)) ?_ ?_ ?_
    · exact ⟨_, _, _, _, _, _, _, _, _, _, _, _, _, _, rfl, k1.mono (by omega)⟩
    · rintro i σ H2 hi ⟨t2, t3, t4, t5, t6, t7, t8, t9, t10, t11, t12, t13, t14, t15, rfl, k2⟩
      rw [List.length_map] at hi
      have hi9 : i < 9 := by omega
      clear hS1 k1 s1 hS
      walk_at "r"
      refine ⟨_, _, _, _, rfl, ⟨by decide, by decide⟩, k2, by omega, fun H3 r3 w3 k3 a3 b3 => ?_⟩
      obtain ⟨n, n1, n8, en⟩ : ∃ n : Nat, 1 ≤ n ∧ n ≤ 8 ∧ 1 + r3 = (n : Int) := ⟨(1 + r3).toNat, by omega, by omega, by omega⟩
      walk_at "r"
      rw [en]
      refine ⟨D, C, _, n, rfl, k3, by omega, n1, n8, fun H4 Lp yp ps w4 k4 LD LC hLp hps l16 ap => ?_⟩
      clear k2 w3 k3 w4
      walk_at "r"
      refine ⟨D, C, Lp, _, n, yp, ps, rfl, k4, by omega, LD, hLp, hps, l16, ap, fun H5 S xs ss w5 k5 SD SC nS hS5 hst5 eps hok => ?_⟩
      have ok : ∀ s ∈ ss, OkSt n s := fun s hs => (hok s hs).1
      have l16s : ss.length ≤ 16 := by
        have := congrArg List.length eps
        unfold prS at this
        rw [List.length_map] at this
        omega
      have lxs := hst5.len
      have hLp5 := w5 _ _ LD hLp
      have hps5 := prs_ts (w5.ts k4) hps
      clear k4 w5 hLp hps
      walk_at "r"
      intro x4 dx4 nx nd ne
      have xS := ne_of_none hS5 nx
      have dS := ne_of_none hS5 nd
      refine ⟨x4, dx4, S, n, xs, ss, rfl, upd_same, .inl ((upd_ne xS).trans ((upd_ne dS).trans hS5)), n1, n8, by omega, ?_, fun s hs => ⟨(hok s hs).1, (hok s hs).2.mono (by decide)⟩, fun H6 hweb kp => ⟨rfl, ?_⟩⟩
      · refine hst5.ts fun b zs hb => ?_
        rw [upd_ne (ne_of_none hb nx), upd_ne (ne_of_none hb nd)]
        exact hb
      have s6 : Same H5 H6 := Same.made nx nd kp
      have k6 := k5.same s6
      have hS6 := s6 _ _ hS5
      have hst6 := hst5.same s6
      have hLp6 := s6 _ _ hLp5
      have hps6 := prs_ts (same_tps s6) hps5
      clear k5 hS5 hst5 hLp5 hps5 s6 kp xS dS nx nd ne
      walk_at "r"
      refine ⟨Lp, n, yp, ps, rfl, n8, hLp6, hps6, fun p hp => ⟨(ap p hp).1, (ap p hp).2.1⟩, fun H7 G zs s7 nG hG7 hz7 => ?_⟩
      have LF : LeadF n (prS ss) (fF n ss) := lead_firsts ok
      have eN : ∀ x, x < n → nmF n ps x = fF n ss x := fun x hx => by
        rw [← eps]
        exact names_end LF hx
      have hz7 : Paired (IsTn H7) zs (pcsF n (fF n ss)) := by
        rw [← pcsF_congr eN]
        exact pcs_of hz7
      have GD : G ≠ D := k6.ne nG
      have g : G08 K c_Web D C S x4 G n (1000 * i + 100) (fF n ss) xs ss zs H7 := ⟨(k6.same s7).mono (by omega), hweb.same s7, s7 _ _ hS6, hst6.same s7, hG7, hz7⟩
      clear k6 hweb hS6 hst6 hG7 hz7 hLp6 hps6 s7 nG eN nS
      have llz : (pcsF n (fF n ss)).length ≤ 8 := by
        unfold pcsF ldF
        rw [List.length_map]
        have := List.length_filter_le (fun x => decide (fF n ss x = x)) (List.range n)
        rw [List.length_range] at this
        omega
      have hpc : ∀ l ∈ pcsF n (fF n ss), l.length ≤ 8 ∧ l ≠ [] ∧ ∃ m, l = pcF n (fF n ss) m := fun l hl => by
        unfold pcsF at hl
        obtain ⟨m, hm, rfl⟩ := List.mem_map.mp hl
        have := List.length_filter_le (fun x => decide (fF n ss x = m)) (List.range n)
        rw [List.length_range] at this
        obtain ⟨r, er⟩ := pc_head LF hm
        exact ⟨Nat.le_trans this n8, by rw [er]; simp, m, rfl⟩
      walk_at "r"
      refine ⟨_, G, n, fF n ss, ss, zs, rfl, g.web, n8, l16s, ok, g.fG, g.pc, fun _ _ => rfl, fun H8 s8 => ?_⟩
      have g := g.same s8
      clear s8
      walk_at "r"
      refine rd_revL ?_
      walk_at "r"
      refine ⟨S, xs, rfl, .of g.fS, fun p7 n7 => ?_⟩
      have s7 := same_upd (o := .lst xs.reverse) n7
      have h7 : upd H8 p7 (.lst xs.reverse) p7 = some (.lst xs.reverse) := upd_same
      generalize upd H8 p7 (.lst xs.reverse) = H9 at *
      have g := g.same s7
      walk_at "r"
      refine ⟨_, _, rfl, .inl ⟨.of h7, fun p8 n8' => ?_⟩⟩
      have s8 := same_upd (o := .tup xs.reverse) n8'
      have h8 : upd H9 p8 (.tup xs.reverse) p8 = some (.tup xs.reverse) := upd_same
      generalize upd H9 p8 (.tup xs.reverse) = Ha at *
      have g := g.same s8
      clear h7 n7 s7 n8' s8
      walk_at "r"
      intro x9 dx9 nx nd ne
      have xS := ne_of_none h8 nx
      have dS := ne_of_none h8 nd
      have okr : ∀ s ∈ ss.reverse, OkSt n s ∧ BdSt 3 s := fun s hs => hok s (List.mem_reverse.mp hs)
      refine ⟨x9, dx9, p8, n, xs.reverse, ss.reverse, rfl, upd_same, .inr ((upd_ne xS).trans ((upd_ne dS).trans h8)), n1, n8, by rw [List.length_reverse]; omega, ?_, fun s hs => ⟨(okr s hs).1, (okr s hs).2.mono (by decide)⟩, fun Hb hweb9 kp => ⟨rfl, ?_⟩⟩
      · refine Sts.ts (fun b zs hb => ?_) (show Sts K Ha xs.reverse ss.reverse from paired_rev g.st)
        rw [upd_ne (ne_of_none hb nx), upd_ne (ne_of_none hb nd)]
        exact hb
      have s9 : Same Ha Hb := Same.made nx nd kp
      have g := g.same s9
      clear kp xS dS nx nd ne h8 s9
      walk_at "r"
      refine ⟨_, G, n, fF n ss, ss.reverse, zs, rfl, hweb9, n8, by rw [List.length_reverse]; exact l16s, fun s hs => (okr s hs).1, g.fG, g.pc, fun x hx => rev_same ok hx, fun Hc sc => ?_⟩
      have g := g.same sc
      clear sc hweb9
      have lzs := Paired.length g.pc
      have fGc := g.fG
      walk_at "r"
      refine ⟨⟨_, .of g.fG⟩, fun E nE => ?_⟩
      refine lc_listP (R := fun H v (b : Nat) => v = .int (b : Nat)) (fun _ _ _ _ _ h => h) (f := fun i => ((pcsF n (fF n ss))[i]?).map List.length) nE (by omega) (.of g.fG) (fun i' v hx H' Q' N' s2 hyy _ => ?_) fun Hd hld => ?_
      · obtain ⟨l, hl, t, rfl, ht⟩ := Paired.at g.pc hx
        have ht := s2 _ _ ht
        walk_at "r"
        refine ⟨rfl, ?_⟩
        walk_at "r"
        rw [nv_len]
        exact hyy l.length _ _ (by simp [hl]) (Same.refl _) rfl
      obtain ⟨sd, es, hE, hes⟩ := hld
      rw [lzs, upTo_list] at hes
      have ee := ints_of hes
      subst ee
      have g := g.same sd
      walk_at "r"
      refine ⟨E, _, rfl, .of hE, ?_⟩
      have esum : ((((pcsF n (fF n ss)).map List.length).map fun b : Nat => (b : Int)).sum) = (n : Nat) := by
        rw [sum_cast]
        unfold pcsF
        rw [List.map_map]
        exact congrArg Nat.cast (pc_sum LF)
      rw [esum]
      clear hE hes nE sd fGc esum
      walk_at "r"
      refine ⟨⟨_, .of g.fG⟩, ?_⟩
      refine for_list (K := K) (a := G) (xs := zs) (fun j σ H' => ∃ t8 t9 t10 t11 t12 t13 t14 t15 : Option V, σ = [some (.ref a), some (.ref D), some (.int (0 + (i : Nat))), some (.int (n : Nat)), some (.ref Lp), some (.ref S), some (.ref x4), some (.ref G), t8, t9, t10, t11, t12, t13, t14, t15] ∧ G08 K c_Web D C S x4 G n (1000 * i + 100) (fF n ss) xs ss zs H') ?_ ?_ ?_ ?_
      · exact ⟨_, _, _, _, _, _, _, _, rfl, g⟩
      · rintro j σ H' _ ⟨t8, t9, t10, t11, t12, t13, t14, t15, rfl, g⟩
        exact .of g.fG
      · rintro j v σ He hx ⟨t8, t9, t10, t11, t12, t13, t14, t15, rfl, ge⟩
        obtain ⟨l, hl, tp, rfl, ht⟩ := Paired.at ge.pc hx
        obtain ⟨l8, _, m, em⟩ := hpc l (List.mem_of_getElem? hl)
        walk_at "r"
        refine ⟨⟨_, .of ht⟩, ?_⟩
        refine for_tup (K := K) (a := tp) (xs := nv l) (fun j σ H' => ∃ t9 t10 t11 t12 t13 t14 t15 : Option V, σ = [some (.ref a), some (.ref D), some (.int (0 + (i : Nat))), some (.int (n : Nat)), some (.ref Lp), some (.ref S), some (.ref x4), some (.ref G), some (.ref tp), t9, t10, t11, t12, t13, t14, t15] ∧ G08 K c_Web D C S x4 G n (1000 * i + 100) (fF n ss) xs ss zs H' ∧ H' tp = some (.tup (nv l))) ?_ ?_ ?_ ?_
        · exact ⟨_, _, _, _, _, _, _, rfl, ge, ht⟩
        · rintro j σ H' _ ⟨t9, t10, t11, t12, t13, t14, t15, rfl, gf, ht⟩
          exact .of ht
        · rintro j v σ Hf hx' ⟨t9, t10, t11, t12, t13, t14, t15, rfl, gf, ht⟩
          have hjl : j < l.length := by
            have := (List.getElem?_eq_some_iff.mp hx').1
            rwa [nv_len] at this
          rw [nv_at hjl] at hx'
          cases hx'
          have hwm : l.getD j 0 ∈ l := by
            rw [List.getD_eq_getElem?_getD, List.getElem?_eq_getElem hjl]
            exact List.getElem_mem _
          generalize l.getD j 0 = wn at *
          obtain ⟨hwn, hFw⟩ := pc_mem.mp (em ▸ hwm)
          walk_at "r"
          refine ⟨_, n, ss, wn, rfl, gf.web, hwn, l16s, fun Hg tn nb sg htn nbr => ?_⟩
          have gg := gf.same sg
          have ht := sg _ _ ht
          have lnb : nb.length ≤ 1000 := by
            refine Nat.le_trans (asc_len (n := n) nbr.1 fun k hk => ?_) (by omega)
            obtain ⟨s, hs, _, rfl⟩ := (nbr.2 k).mp hk
            refine ⟨_, rfl, ?_⟩
            unfold Stl.other
            split
            · exact (ok s hs).v
            · exact (ok s hs).u
          walk_at "r"
          refine ⟨⟨_, .of htn⟩, fun E nE => ?_⟩
          refine lc_tupP (R := fun H v (b : Bool) => v = .bl b) (fun _ _ _ _ _ h => h) (f := fun _ => some true) nE (by rw [List.length_map]; exact lnb) (.of htn) (fun i' v' hx'' H' Q' N' s2 hyy _ => ?_) fun Hh hlh => ?_
          · rw [List.getElem?_map] at hx''
            cases ek : nb[i']? with
            | none =>
              rw [ek] at hx''
              cases hx''
            | some k =>
              rw [ek] at hx''
              cases hx''
              obtain ⟨s, hs, hat, rfl⟩ := (nbr.2 k).mp (List.mem_of_getElem? ek)
              have ht := s2 _ _ ht
              have hmem : s.other wn ∈ l := by
                rw [em]
                have ed := LF.ed (s.u, s.v) (List.mem_map.mpr ⟨s, hs, rfl⟩)
                have ed : fF n ss s.u = fF n ss s.v := ed
                have hw : wn = s.u ∨ wn = s.v := by
                  unfold Stl.at at hat
                  simpa using hat
                refine pc_mem.mpr ?_
                unfold Stl.other
                split
                · rename_i e
                  exact ⟨(ok s hs).v, by rw [← ed, ← e]; exact hFw⟩
                · rename_i e
                  exact ⟨(ok s hs).u, by rw [ed, ← hw.resolve_left e]; exact hFw⟩
              walk_at "r"
              refine ⟨rfl, ?_⟩
              walk_at "r"
              refine ⟨_, _, rfl, .inr (.of ht), rfl, flat_ints _, ?_⟩
              rw [in_ints, decide_eq_true hmem]
              exact hyy true _ _ rfl (Same.refl _) rfl
          obtain ⟨s2, bs, hE, hbs⟩ := hlh
          rw [upTo_map] at hbs
          have e := bools8 hbs
          subst e
          walk_at "r"
          refine ⟨E, _, rfl, .of hE, ?_⟩
          rw [show ∀ l : List Bool, (∀ b ∈ l, b = true) → l.all id = true from fun l h => List.all_eq_true.mpr h]
          rotate_left
          · simp
          walk_at "r"
          exact ⟨_, _, _, _, _, _, _, rfl, gg.same s2, s2 _ _ ht⟩
        · rintro σ Hf ⟨t9, t10, t11, t12, t13, t14, t15, rfl, gf, ht⟩
          walk_at "r"
          exact ⟨_, _, _, _, _, _, _, _, rfl, gf⟩
      · rintro σ He ⟨t8, t9, t10, t11, t12, t13, t14, t15, rfl, g⟩
        have fSe := g.fS
        walk_at "r"
        by_cases d1 : (n : Int) > 1
        · walk_at "r"
          by_cases d2 : ((xs.length : Nat) : Int) < 16
          · walk_at "r"
            refine ⟨_, _, _, _, rfl, ⟨by omega, by omega⟩, g.dk, by omega, fun Hf r4 w4 k4 a4 b4 => ?_⟩
            obtain ⟨a1, rfl⟩ := Int.eq_ofNat_of_zero_le a4
            have g := g.fw SD GD w4 k4
            walk_at "r"
            refine ⟨_, _, _, _, rfl, ⟨by omega, by omega⟩, g.dk, by omega, fun Hg r5 w5 k5 a5 b5 => ?_⟩
            obtain ⟨r6, rfl⟩ := Int.eq_ofNat_of_zero_le a5
            have g := g.fw SD GD w5 k5
            have ha : a1 < n := by omega
            obtain ⟨hb2, hne⟩ := mod_other ha (show r6 + 1 < n by omega)
            walk_at "r"
            rw [show ((a1 : Nat) : Int) + 1 + (r6 : Nat) = ((a1 + 1 + r6 : Nat) : Int) by omega, ← Int.natCast_emod]
            generalize (a1 + 1 + r6) % n = b at *
            clear w4 k4 w5 k5 a4 b4 a5 b5 fSe
            have fSg := g.fS
            walk_at "r"
            intro q1 m1
            have t1 := same_upd (o := .tup [V.int 2, .int 1]) m1
            have e1 : upd Hg q1 (.tup [V.int 2, .int 1]) q1 = some (.tup [V.int 2, .int 1]) := upd_same
            generalize upd Hg q1 (.tup [V.int 2, .int 1]) = K1 at *
            walk_at "r"
            intro q2 m2
            have t2 := same_upd (o := .tup [V.int 8, .int 1]) m2
            have e2 : upd K1 q2 (.tup [V.int 8, .int 1]) q2 = some (.tup [V.int 8, .int 1]) := upd_same
            generalize upd K1 q2 (.tup [V.int 8, .int 1]) = K2 at *
            walk_at "r"
            intro q3 m3
            have t3' := same_upd (o := .tup [V.int 4, .int 1]) m3
            have e3 : upd K2 q3 (.tup [V.int 4, .int 1]) q3 = some (.tup [V.int 4, .int 1]) := upd_same
            generalize upd K2 q3 (.tup [V.int 4, .int 1]) = K3 at *
            walk_at "r"
            intro q4 m4
            have t4' := same_upd (o := .tup [V.int (b : Nat), .int (a1 : Nat), .ref q1, .ref q2, .ref q3]) m4
            have e4 : upd K3 q4 (.tup [V.int (b : Nat), .int (a1 : Nat), .ref q1, .ref q2, .ref q3]) q4 = some (.tup [V.int (b : Nat), .int (a1 : Nat), .ref q1, .ref q2, .ref q3]) := upd_same
            generalize upd K3 q4 (.tup [V.int (b : Nat), .int (a1 : Nat), .ref q1, .ref q2, .ref q3]) = K4 at *
            walk_at "r"
            intro q5 m5
            have t5' := same_upd (o := .lst [V.ref q4]) m5
            have e5 : upd K4 q5 (.lst [V.ref q4]) q5 = some (.lst [V.ref q4]) := upd_same
            generalize upd K4 q5 (.lst [V.ref q4]) = K5 at *
            have t15 := ((t1.trans t2).trans (t3'.trans t4')).trans t5'
            have ist : IsSt K K5 (.ref q4) ⟨b, a1, 2, 8, 4⟩ := ⟨q4, _, _, _, rfl, t5' _ _ e4, isF_int (r := 2) (((t2.trans t3').trans (t4'.trans t5')) _ _ e1), isF_int (r := 8) ((t3'.trans (t4'.trans t5')) _ _ e2), isF_int (r := 4) ((t4'.trans t5') _ _ e3)⟩
            obtain ⟨okn, bdn⟩ := new_stall ha hb2 hne
            have g := g.same t15
            clear t1 t2 t3' t4' t5' e1 e2 e3 e4 m1 m2 m3 m4 m5 t15 fSg
            refine ⟨S, q5, xs, [.ref q4], rfl, rfl, g.fS, e5, Nat.le_of_lt (small1000 (by show xs.length + 1 ≤ 1000; omega)), fun S7 nS7 => ?_⟩
            have s7 := same_upd (o := .lst (xs ++ [V.ref q4])) nS7
            have hS7 : upd K5 S7 (.lst (xs ++ [V.ref q4])) S7 = some (.lst (xs ++ [V.ref q4])) := upd_same
            generalize upd K5 S7 (.lst (xs ++ [V.ref q4])) = K6 at *
            have g := g.same s7
            have hst7 : Sts K K6 (xs ++ [.ref q4]) (ss ++ [⟨b, a1, 2, 8, 4⟩]) := Paired.snoc g.st (ist.same s7)
            have ok7 : ∀ s ∈ ss ++ [⟨b, a1, 2, 8, 4⟩], OkSt n s ∧ BdSt 4 s := fun s hs => by
              rcases List.mem_append.mp hs with h | h
              · exact ⟨(hok s h).1, (hok s h).2.mono (by decide)⟩
              · rw [List.mem_singleton.mp h]
                exact ⟨okn, bdn⟩
            have l7 : (ss ++ [(⟨b, a1, 2, 8, 4⟩ : Stl)]).length ≤ 16 := by
              rw [List.length_append]
              simp
              omega
            clear s7 nS7 e5 ist
            walk_at "r"
            intro x9 dx9 nx nd ne
            have xS := ne_of_none hS7 nx
            have dS := ne_of_none hS7 nd
            refine ⟨x9, dx9, S7, n, xs ++ [.ref q4], ss ++ [⟨b, a1, 2, 8, 4⟩], rfl, upd_same, .inl ((upd_ne xS).trans ((upd_ne dS).trans hS7)), n1, n8, by have := Paired.length hst7; omega, ?_, fun s hs => ⟨(ok7 s hs).1, (ok7 s hs).2.mono (by decide)⟩, fun K7 hweb7 kp => ⟨rfl, ?_⟩⟩
            · refine hst7.ts fun b zs hb => ?_
              rw [upd_ne (ne_of_none hb nx), upd_ne (ne_of_none hb nd)]
              exact hb
            have s8 : Same K6 K7 := Same.made nx nd kp
            have g := g.same s8
            clear kp xS dS nx nd ne hS7 hst7 s8
            walk_at "r"
            have ok8 : ∀ s ∈ ss ++ [⟨b, a1, 2, 8, 4⟩], OkSt n s := fun s hs => (ok7 s hs).1
            refine ⟨_, n, ss ++ [⟨b, a1, 2, 8, 4⟩], rfl, hweb7, n8, l7, ok8, fun K8 Mo ym s9 nMo hMo hpm => ?_⟩
            have LF2 : LeadF n (prS (ss ++ [⟨b, a1, 2, 8, 4⟩])) (fF n (ss ++ [⟨b, a1, 2, 8, 4⟩])) := lead_firsts ok8
            have eM : ∀ x, x < n → fF n (ss ++ [⟨b, a1, 2, 8, 4⟩]) x = moreF (fF n ss) a1 b x := fun x hx => more_same (t := ⟨b, a1, 2, 8, 4⟩) ok hx
            have hpm := pcs_conv (F := fF n (ss ++ [⟨b, a1, 2, 8, 4⟩])) (fun _ _ => rfl) hpm
            have g := g.same s9
            clear s9 nMo hweb7
            generalize fF n (ss ++ [⟨b, a1, 2, 8, 4⟩]) = F2 at *
            generalize fF n ss = F at *
            walk_at "r"
            refine ⟨⟨_, .of g.fG⟩, fun Mi nMi => ?_⟩
            refine lc_listP (R := fun H v (l : List Nat) => IsTn H v l) (fun _ _ _ _ f h => h.ts f) (f := fun i => ((pcsF n F)[i]?).bind fun l => if a1 ∈ l ∨ b ∈ l then some l else none) nMi (by omega) (.of g.fG) (fun i' v hx H' Q' N' s2 hyy hnn => ?_) fun K9 hl9 => ?_
            · obtain ⟨l, hl, t, rfl, ht⟩ := Paired.at g.pc hx
              have ht := s2 _ _ ht
              walk_at "r"
              refine ⟨rfl, ?_⟩
              walk_at "r"
              refine ⟨_, _, rfl, .inr (.of ht), rfl, flat_ints _, ?_⟩
              rw [in_ints]
              by_cases c1 : a1 ∈ l
              · rw [decide_eq_true c1, if_neg Bool.false_ne_true]
                walk_at "r"
                exact hyy l _ _ (by simp only [hl, Option.bind_some, if_pos (Or.inl c1 : a1 ∈ l ∨ b ∈ l)]) (Same.refl _) ⟨t, rfl, ht⟩
              · rw [decide_eq_false c1, if_neg Bool.false_ne_true]
                walk_at "r"
                refine ⟨_, _, rfl, .inr (.of ht), rfl, flat_ints _, ?_⟩
                rw [in_ints]
                by_cases c2 : b ∈ l
                · rw [decide_eq_true c2, if_neg Bool.false_ne_true]
                  walk_at "r"
                  exact hyy l _ _ (by simp only [hl, Option.bind_some, if_pos (Or.inr c2 : a1 ∈ l ∨ b ∈ l)]) (Same.refl _) ⟨t, rfl, ht⟩
                · rw [decide_eq_false c2, if_neg Bool.false_ne_true]
                  walk_at "r"
                  exact hnn _ (by simp only [hl, Option.bind_some, if_neg (not_or.mpr ⟨c1, c2⟩)]) (Same.refl _)
            obtain ⟨s9, yi, hMi, hpi⟩ := hl9
            rw [lzs, upTo_bind, mine_is ha hb2] at hpi
            have g := g.same s9
            have hMo := s9 _ _ hMo
            have hpm := tns_ts (same_tps s9) hpm
            clear s9 nMi
            walk_at "r"
            refine ⟨⟨_, .of g.fG⟩, fun Re nRe => ?_⟩
            refine lc_listP (R := fun H v (l : List Nat) => IsTn H v l) (fun _ _ _ _ f h => h.ts f) (f := fun i => ((pcsF n F)[i]?).bind fun l => if ¬ a1 ∈ l ∧ ¬ b ∈ l then some l else none) nRe (by omega) (.of g.fG) (fun i' v hx H' Q' N' s2 hyy hnn => ?_) fun Ka hla => ?_
            · obtain ⟨l, hl, t, rfl, ht⟩ := Paired.at g.pc hx
              have ht := s2 _ _ ht
              walk_at "r"
              refine ⟨rfl, ?_⟩
              walk_at "r"
              refine ⟨_, _, rfl, .inr (.of ht), rfl, flat_ints _, ?_⟩
              rw [in_ints]
              by_cases c1 : a1 ∈ l
              · rw [decide_eq_true c1]
                walk_at "r"
                exact hnn _ (by simp only [hl, Option.bind_some, if_neg (fun z : ¬ a1 ∈ l ∧ ¬ b ∈ l => z.1 c1)]) (Same.refl _)
              · rw [decide_eq_false c1, show (if true = true then !false else false) = true from rfl]
                walk_at "r"
                refine ⟨_, _, rfl, .inr (.of ht), rfl, flat_ints _, ?_⟩
                rw [in_ints]
                by_cases c2 : b ∈ l
                · rw [decide_eq_true c2]
                  walk_at "r"
                  exact hnn _ (by simp only [hl, Option.bind_some, if_neg (fun z : ¬ a1 ∈ l ∧ ¬ b ∈ l => z.2 c2)]) (Same.refl _)
                · rw [decide_eq_false c2, show (if true = true then !false else false) = true from rfl]
                  walk_at "r"
                  exact hyy l _ _ (by simp only [hl, Option.bind_some, if_pos (⟨c1, c2⟩ : ¬ a1 ∈ l ∧ ¬ b ∈ l)]) (Same.refl _) ⟨t, rfl, ht⟩
            obtain ⟨s9, yr, hRe, hpr⟩ := hla
            rw [lzs, upTo_bind, restp_is ha hb2] at hpr
            have g := g.same s9
            have hMo := s9 _ _ hMo
            have hpm := tns_ts (same_tps s9) hpm
            have hMi := s9 _ _ hMi
            have hpi := tns_ts (same_tps s9) hpi
            clear s9 nRe
            have hp3 : (pcsF n F2).Perm (((ldF n F).filter (fun l => !inF F a1 b l)).map (pcF n F) ++ [pcF n (moreF F a1 b) (min (F a1) (F b))]) := by
              rw [pcsF_congr eM]
              unfold pcsF
              refine ((more_leads LF ha hb2).map _).trans ?_
              rw [List.map_append, List.map_singleton]
              refine List.Perm.append_right _ (List.Perm.of_eq (List.map_congr_left fun l hl => more_rest ?_))
              have := (List.mem_filter.mp hl).2
              simpa using this
            have hWne : pcF n (moreF F a1 b) (min (F a1) (F b)) ≠ [] := by
              have hm : a1 ∈ pcF n (moreF F a1 b) (min (F a1) (F b)) := more_mem.mpr (.inl (pc_mem.mpr ⟨ha, rfl⟩))
              intro z
              rw [z] at hm
              cases hm
            walk_at "r"
            obtain ⟨lh, lt, elh⟩ : ∃ lh lt, ((ldF n F).filter (inF F a1 b)).map (pcF n F) = lh :: lt := by
              by_cases e : F a1 = F b
              · rw [mine_one LF ha e]
                exact ⟨_, _, rfl⟩
              · rw [mine_two LF ha hb2 e]
                exact ⟨_, _, rfl⟩
            have hv0 : yi[0]? = some (yi[0]'(by have := Paired.length hpi; rw [elh] at this; rw [this]; exact Nat.succ_pos _)) := List.getElem?_eq_getElem _
            obtain ⟨l0, hl0, tw, etw, htw⟩ := Paired.at hpi hv0
            rw [etw] at hv0
            refine rd_ixL hMi (at_some hv0) ?_
            walk_at "r"
            refine ⟨fun σ H' => ∃ (tw : Addr) (t8 t9 : Option V), σ = [some (.ref a), some (.ref D), some (.int (0 + (i : Nat))), some (.int (n : Nat)), some (.ref Lp), some (.ref S), some (.ref x4), some (.ref G), t8, t9, some (.int (b : Nat)), some (.int (a1 : Nat)), some (.ref Mo), some (.ref Mi), some (.ref Re), some (.ref tw)] ∧ G08 K c_Web D C S x4 G n (1000 * i + 100 + 1 + 1) F xs ss zs H' ∧ H' Mo = some (.lst ym) ∧ Paired (IsTn H') ym (pcsF n F2) ∧ H' Re = some (.lst yr) ∧ Paired (IsTn H') yr (((ldF n F).filter (fun l => !inF F a1 b l)).map (pcF n F)) ∧ H' tw = some (.tup (nv (pcF n (moreF F a1 b) (min (F a1) (F b))))), ?_, ?_⟩
            · have lyi := Paired.length hpi
              by_cases e : F a1 = F b
              · rw [mine_one LF ha e] at hpi hl0 lyi
                have ly : ((yi.length : Nat) : Int) = 1 := by rw [lyi]; rfl
                cases hl0
                rw [← more_one (n := n) e] at htw
                have d3 : ¬ ((yi.length : Nat) : Int) = 2 := by omega
                walk_at "r"
                exact ⟨tw, _, _, rfl, g, hMo, hpm, hRe, hpr, htw⟩
              · rw [mine_two LF ha hb2 e] at hpi hl0 lyi
                have ly : ((yi.length : Nat) : Int) = 2 := by rw [lyi]; rfl
                cases hl0
                have hv1 : yi[1]? = some (yi[1]'(by omega)) := List.getElem?_eq_getElem _
                obtain ⟨l1, hl1, tv, etv, htv⟩ := Paired.at hpi hv1
                rw [etv] at hv1
                cases hl1
                walk_at "r"
                refine rd_ixL hMi (at_some hv0) ?_
                walk_at "r"
                refine rd_ixL hMi (at_some hv1) ?_
                have lq : ∀ m, (nv (pcF n F m)).length ≤ 8 := fun m => by
                  rw [nv_len]
                  have := List.length_filter_le (fun x => decide (F x = m)) (List.range n)
                  rw [List.length_range] at this
                  exact Nat.le_trans this n8
                have q1 := lq (min (F a1) (F b))
                have q2 := lq (max (F a1) (F b))
                refine rd_catA htw htv (by rw [sizeLine_eq]; omega) fun pd Kb sb hd => ?_
                walk_at "r"
                refine ⟨pd, ((pcF n F (min (F a1) (F b)) ++ pcF n F (max (F a1) (F b))).map fun b : Nat => (b : Int)), rfl, ?_, fun zs' p9 pm9 as9 np9 => ?_⟩
                · refine .of ?_
                  rw [hd, List.map_append, List.map_append]
                have ez := more_two (n := n) e pm9 as9
                subst ez
                have sc := same_upd (o := .lst (nv (pcF n (moreF F a1 b) (min (F a1) (F b))))) np9
                have hp9 : upd Kb p9 (.lst (nv (pcF n (moreF F a1 b) (min (F a1) (F b))))) p9 = some (.lst (nv (pcF n (moreF F a1 b) (min (F a1) (F b))))) := upd_same
                generalize upd Kb p9 (.lst (nv (pcF n (moreF F a1 b) (min (F a1) (F b))))) = Kc at *
                walk_at "r"
                refine ⟨_, _, rfl, .inl ⟨.of hp9, fun l nl => ?_⟩⟩
                have sd := same_upd (o := .tup (nv (pcF n (moreF F a1 b) (min (F a1) (F b))))) nl
                have hl9 : upd Kc l (.tup (nv (pcF n (moreF F a1 b) (min (F a1) (F b))))) l = some (.tup (nv (pcF n (moreF F a1 b) (min (F a1) (F b))))) := upd_same
                generalize upd Kc l (.tup (nv (pcF n (moreF F a1 b) (min (F a1) (F b))))) = Kd at *
                have sx := (sb.trans sc).trans sd
                walk_at "r"
                exact ⟨l, _, _, rfl, g.same sx, sx _ _ hMo, tns_ts (same_tps sx) hpm, sx _ _ hRe, tns_ts (same_tps sx) hpr, hl9⟩
            clear g hMo hpm hRe hpr htw hMi hpi hv0 etw hl0 elh
            rintro σ Kb ⟨tw, t8, t9, rfl, g, hMo, hpm, hRe, hpr, htw⟩
            walk_at "r"
            intro X nX
            have sx := same_upd (o := .lst [V.ref tw]) nX
            have hX : upd Kb X (.lst [V.ref tw]) X = some (.lst [V.ref tw]) := upd_same
            generalize upd Kb X (.lst [V.ref tw]) = Kc at *
            have lyr := Paired.length hpr
            have lrest : yr.length ≤ 8 := by
              rw [lyr, List.length_map]
              refine Nat.le_trans (List.length_filter_le _ _) ?_
              unfold ldF
              refine Nat.le_trans (List.length_filter_le _ _) ?_
              rw [List.length_range]
              exact n8
            refine ⟨Re, X, yr, [.ref tw], rfl, rfl, sx _ _ hRe, hX, Nat.le_of_lt (small1000 (by show yr.length + 1 ≤ 1000; omega)), fun Y nY => ?_⟩
            have sy := same_upd (o := .lst (yr ++ [V.ref tw])) nY
            have hY : upd Kc Y (.lst (yr ++ [V.ref tw])) Y = some (.lst (yr ++ [V.ref tw])) := upd_same
            generalize upd Kc Y (.lst (yr ++ [V.ref tw])) = Kd at *
            have sxy := sx.trans sy
            have hall : Paired (IsTn Kd) (yr ++ [.ref tw]) (((ldF n F).filter (fun l => !inF F a1 b l)).map (pcF n F) ++ [pcF n (moreF F a1 b) (min (F a1) (F b))]) := Paired.snoc (tns_ts (same_tps sxy) hpr) ⟨tw, rfl, sxy _ _ htw⟩
            have hne2 : ∀ l ∈ pcsF n F2, l ≠ [] := fun l hl => by
              unfold pcsF at hl
              obtain ⟨m, hm, rfl⟩ := List.mem_map.mp hl
              obtain ⟨r, er⟩ := pc_head LF2 hm
              rw [er]
              simp
            have hneA : ∀ l ∈ ((ldF n F).filter (fun l => !inF F a1 b l)).map (pcF n F) ++ [pcF n (moreF F a1 b) (min (F a1) (F b))], l ≠ [] := fun l hl => hne2 l (hp3.mem_iff.mpr hl)
            walk_at "r"
            refine ⟨Y, _, _, rfl, .of hY, tn_tup (K := K) hall hneA, by rw [List.length_append]; simp; omega, fun yo Lo po pmo pwo pro npo => ?_⟩
            have eLo : Lo = (pcsF n F2).map toP := by
              refine sorted_uniq (pmo.trans (hp3.symm.map toP)) pwo ?_
              unfold pcsF
              rw [List.map_map]
              exact pieces_sorted LF2
            subst eLo
            have so := same_upd (o := .lst yo) npo
            have hpo : upd Kd po (.lst yo) po = some (.lst yo) := upd_same
            have pro' : Paired (TupN K (upd Kd po (.lst yo))) yo ((pcsF n F2).map toP) := Paired.mapP pro fun _ _ ⟨t, e, h⟩ => ⟨t, e, sqT_same so h⟩
            have sz := sxy.trans so
            refine neTnT (sz _ _ hMo) (tns_ts (same_tps sz) hpm) hpo pro' hne2 ?_
            generalize upd Kd po (.lst yo) = Ke at *
            have g := g.same sz
            walk_at "r"
            exact ⟨_, _, _, _, _, _, _, _, _, _, _, _, _, _, rfl, g.dk.mono (by omega)⟩
          · walk_at "r"
            exact ⟨_, _, _, _, _, _, _, _, _, _, _, _, _, _, rfl, g.dk.mono (by omega)⟩
        · walk_at "r"
          exact ⟨_, _, _, _, _, _, _, _, _, _, _, _, _, _, rfl, g.dk.mono (by omega)⟩
    · rintro σ H' ⟨t2, t3, t4, t5, t6, t7, t8, t9, t10, t11, t12, t13, t14, t15, rfl, _⟩
      walk_at "r"
      exact q _
theorem ok_all (T : Txt K mg f_is_integer f_is_row f_is_fraction f_is_some f_multiplied f_squared f_is_stall f_is_ware f_check_ware f_across f_stalls_of f_neighbours f_joined f_pieces f_l_deck f_l_pick f_l_pairs f_l_stalls f_l_due f_l_is_told f_law f_Web_init f_Web_eq c_BadWare c_Web d_is_integer d_is_row d_is_fraction d_is_some d_multiplied d_squared d_is_stall d_is_ware d_check_ware d_across d_stalls_of d_neighbours d_joined d_pieces d_l_deck d_l_pick d_l_pairs d_l_stalls d_l_due d_l_is_told d_law d_Web_init d_Web_eq) : FnOk P w K mg base CX0 7 f_law d_law ["_law_script"] (sp_law K) := ok_law T
end
end My
namespace My
open PySem PySem.Spec PyProof.Rows L2
theorem all_mk {l : PySem.W.OpenLaw} {w : World} {K : PySem.W.Frag} {h : Heap} {mg : Str → Option Value} {fa : Addr} (X : K.In h) (G : h.Ns mainGlobals mg) (hfa : mg "law" = some (.ref fa))
    {c_BadWare : Addr}
    {c_Web : Addr}
    {tk_MOST_STALLS : Tok}
    {tk_MOST_WARES : Tok}
    {od0 an0 : Option Addr} {sl0 : Array (Option Value)} {oc0 kV0 dc0 pm0 cd0 ct0 : Value} {f_is_integer : Addr}
    {od1 an1 : Option Addr} {sl1 : Array (Option Value)} {oc1 kV1 dc1 pm1 cd1 ct1 : Value} {f_is_row : Addr}
    {od2 an2 : Option Addr} {sl2 : Array (Option Value)} {oc2 kV2 dc2 pm2 cd2 ct2 : Value} {f_is_fraction : Addr}
    {od3 an3 : Option Addr} {sl3 : Array (Option Value)} {oc3 kV3 dc3 pm3 cd3 ct3 : Value} {f_is_some : Addr}
    {od4 an4 : Option Addr} {sl4 : Array (Option Value)} {oc4 kV4 dc4 pm4 cd4 ct4 : Value} {f_multiplied : Addr}
    {od5 an5 : Option Addr} {sl5 : Array (Option Value)} {oc5 kV5 dc5 pm5 cd5 ct5 : Value} {f_squared : Addr}
    {od6 an6 : Option Addr} {sl6 : Array (Option Value)} {oc6 kV6 dc6 pm6 cd6 ct6 : Value} {f_is_stall : Addr}
    {od7 an7 : Option Addr} {sl7 : Array (Option Value)} {oc7 kV7 dc7 pm7 cd7 ct7 : Value} {f_is_ware : Addr}
    {od8 an8 : Option Addr} {sl8 : Array (Option Value)} {oc8 kV8 dc8 pm8 cd8 ct8 : Value} {f_check_ware : Addr}
    {od9 an9 : Option Addr} {sl9 : Array (Option Value)} {oc9 kV9 dc9 pm9 cd9 ct9 : Value} {f_across : Addr}
    {od10 an10 : Option Addr} {sl10 : Array (Option Value)} {oc10 kV10 dc10 pm10 cd10 ct10 : Value} {f_stalls_of : Addr}
    {od11 an11 : Option Addr} {sl11 : Array (Option Value)} {oc11 kV11 dc11 pm11 cd11 ct11 : Value} {f_neighbours : Addr}
    {od12 an12 : Option Addr} {sl12 : Array (Option Value)} {oc12 kV12 dc12 pm12 cd12 ct12 : Value} {f_joined : Addr}
    {od13 an13 : Option Addr} {sl13 : Array (Option Value)} {oc13 kV13 dc13 pm13 cd13 ct13 : Value} {f_pieces : Addr}
    {od14 an14 : Option Addr} {sl14 : Array (Option Value)} {oc14 kV14 dc14 pm14 cd14 ct14 : Value} {f_l_deck : Addr}
    {od15 an15 : Option Addr} {sl15 : Array (Option Value)} {oc15 kV15 dc15 pm15 cd15 ct15 : Value} {f_l_pick : Addr}
    {od16 an16 : Option Addr} {sl16 : Array (Option Value)} {oc16 kV16 dc16 pm16 cd16 ct16 : Value} {f_l_pairs : Addr}
    {od17 an17 : Option Addr} {sl17 : Array (Option Value)} {oc17 kV17 dc17 pm17 cd17 ct17 : Value} {f_l_stalls : Addr}
    {od18 an18 : Option Addr} {sl18 : Array (Option Value)} {oc18 kV18 dc18 pm18 cd18 ct18 : Value} {f_l_due : Addr}
    {od19 an19 : Option Addr} {sl19 : Array (Option Value)} {oc19 kV19 dc19 pm19 cd19 ct19 : Value} {f_l_is_told : Addr}
    {od20 an20 : Option Addr} {sl20 : Array (Option Value)} {oc20 kV20 dc20 pm20 cd20 ct20 : Value} {f_law : Addr}
    {od21 an21 : Option Addr} {sl21 : Array (Option Value)} {oc21 kV21 dc21 pm21 cd21 ct21 : Value} {f_Web_init : Addr}
    {od22 an22 : Option Addr} {sl22 : Array (Option Value)} {oc22 kV22 dc22 pm22 cd22 ct22 : Value} {f_Web_eq : Addr}
    (z_all : PySem.W.nsIn K mainGlobals "all" = some none)
    (z_any : PySem.W.nsIn K mainGlobals "any" = some none)
    (z_bool : PySem.W.nsIn K mainGlobals "bool" = some none)
    (z_enumerate : PySem.W.nsIn K mainGlobals "enumerate" = some none)
    (z_int : PySem.W.nsIn K mainGlobals "int" = some none)
    (z_isinstance : PySem.W.nsIn K mainGlobals "isinstance" = some none)
    (z_len : PySem.W.nsIn K mainGlobals "len" = some none)
    (z_list : PySem.W.nsIn K mainGlobals "list" = some none)
    (z_min : PySem.W.nsIn K mainGlobals "min" = some none)
    (z_range : PySem.W.nsIn K mainGlobals "range" = some none)
    (z_set : PySem.W.nsIn K mainGlobals "set" = some none)
    (z_sorted : PySem.W.nsIn K mainGlobals "sorted" = some none)
    (z_sum : PySem.W.nsIn K mainGlobals "sum" = some none)
    (z_tuple : PySem.W.nsIn K mainGlobals "tuple" = some none)
    (m_gcd : PySem.W.nsIn K mainGlobals "gcd" = some (some (.builtin "math.gcd")))
    (a_BadWare : PySem.W.nsIn K mainGlobals "BadWare" = some (some (.ref c_BadWare)))
    (ex_BadWare : PySem.W.excIn K c_BadWare veChain "ValueError.__new__" = true)
    (kp_BadWare : PySem.W.keepIn K (.ref c_BadWare) = true)
    (be_BadWare : PySem.W.subIn K (.ref c_BadWare) (.type "BaseException") = some true)
    (ty_BadWare : PySem.W.typeIn K (.ref c_BadWare) = some (.type "type"))
    (ic_BadWare : PySem.W.isClsIn K c_BadWare = true)
    (sf_BadWare : PySem.W.subIn K (.ref c_BadWare) (.ref c_BadWare) = some true)
    (a_Web : PySem.W.nsIn K mainGlobals "Web" = some (some (.ref c_Web)))
    (mk_Web : PySem.W.makesIn K c_Web = true)
    (in_Web : PySem.W.findIn K (.ref c_Web) "__init__" = some (some (.ref f_Web_init)))
    (fn_Web : PySem.W.isFn K (.ref f_Web_init) = true)
    (kp_Web : PySem.W.keepIn K (.ref c_Web) = true)
    (pg_Web : PySem.W.plainGet K c_Web Str.empty = true)
    (hd_Web : PySem.W.hasDictIn K c_Web = true)
    (po_Web : PySem.W.plainOver K c_Web = true)
    (sa_Web : PySem.W.findIn K (.ref c_Web) "__setattr__" = some (some (.builtin "object.__setattr__")))
    (ha_Web : PySem.W.findIn K (.ref c_Web) "__class__" = some (some (.builtin "object.__class__")))
    (hn_Web : PySem.W.specialIn K (.builtin "object.__class__") "__get__" = some (some (.builtin "getset_descriptor.__get__")))
    (ht_Web : PySem.W.takesIn K (.builtin "object.__class__") = some true)
    (mo_Web : PySem.W.mroIn K c_Web (.type "object") = some true)
    (i_int_Web : PySem.W.kitOne K (.ref c_Web) (.type "int") = some false)
    (i_bool_Web : PySem.W.kitOne K (.ref c_Web) (.type "bool") = some false)
    (i_tuple_Web : PySem.W.kitOne K (.ref c_Web) (.type "tuple") = some false)
    (i_list_Web : PySem.W.kitOne K (.ref c_Web) (.type "list") = some false)
    (na_Web_wares : PySem.W.findIn K (.ref c_Web) "wares" = some none)
    (na_Web_stalls : PySem.W.findIn K (.ref c_Web) "stalls" = some none)
    (v_MOST_STALLS : PySem.W.nsIn K mainGlobals "MOST_STALLS" = some (some (.int 16 tk_MOST_STALLS)))
    (v_MOST_WARES : PySem.W.nsIn K mainGlobals "MOST_WARES" = some (some (.int 8 tk_MOST_WARES)))
    (a_is_integer : PySem.W.nsIn K mainGlobals "is_integer" = some (some (.ref f_is_integer)))
    (l_is_integer : K.lookup f_is_integer = some ⟨oc0, od0, .func (PySem.W.fnOf "is_integer" "is_integer" (defArgs s_is_integer) (defBody s_is_integer) (defScope s_is_integer) .none kV0 dc0 pm0 an0 cd0 ct0), sl0⟩)
    (c_is_integer : PySem.W.codeIn K cd0 "is_integer" = true)
    (k_is_integer : PySem.W.keepIn K (.ref f_is_integer) = true)
    (a_is_row : PySem.W.nsIn K mainGlobals "is_row" = some (some (.ref f_is_row)))
    (l_is_row : K.lookup f_is_row = some ⟨oc1, od1, .func (PySem.W.fnOf "is_row" "is_row" (defArgs s_is_row) (defBody s_is_row) (defScope s_is_row) .none kV1 dc1 pm1 an1 cd1 ct1), sl1⟩)
    (c_is_row : PySem.W.codeIn K cd1 "is_row" = true)
    (k_is_row : PySem.W.keepIn K (.ref f_is_row) = true)
    (a_is_fraction : PySem.W.nsIn K mainGlobals "is_fraction" = some (some (.ref f_is_fraction)))
    (l_is_fraction : K.lookup f_is_fraction = some ⟨oc2, od2, .func (PySem.W.fnOf "is_fraction" "is_fraction" (defArgs s_is_fraction) (defBody s_is_fraction) (defScope s_is_fraction) .none kV2 dc2 pm2 an2 cd2 ct2), sl2⟩)
    (c_is_fraction : PySem.W.codeIn K cd2 "is_fraction" = true)
    (k_is_fraction : PySem.W.keepIn K (.ref f_is_fraction) = true)
    (a_is_some : PySem.W.nsIn K mainGlobals "is_some" = some (some (.ref f_is_some)))
    (l_is_some : K.lookup f_is_some = some ⟨oc3, od3, .func (PySem.W.fnOf "is_some" "is_some" (defArgs s_is_some) (defBody s_is_some) (defScope s_is_some) .none kV3 dc3 pm3 an3 cd3 ct3), sl3⟩)
    (c_is_some : PySem.W.codeIn K cd3 "is_some" = true)
    (k_is_some : PySem.W.keepIn K (.ref f_is_some) = true)
    (a_multiplied : PySem.W.nsIn K mainGlobals "multiplied" = some (some (.ref f_multiplied)))
    (l_multiplied : K.lookup f_multiplied = some ⟨oc4, od4, .func (PySem.W.fnOf "multiplied" "multiplied" (defArgs s_multiplied) (defBody s_multiplied) (defScope s_multiplied) .none kV4 dc4 pm4 an4 cd4 ct4), sl4⟩)
    (c_multiplied : PySem.W.codeIn K cd4 "multiplied" = true)
    (k_multiplied : PySem.W.keepIn K (.ref f_multiplied) = true)
    (a_squared : PySem.W.nsIn K mainGlobals "squared" = some (some (.ref f_squared)))
    (l_squared : K.lookup f_squared = some ⟨oc5, od5, .func (PySem.W.fnOf "squared" "squared" (defArgs s_squared) (defBody s_squared) (defScope s_squared) .none kV5 dc5 pm5 an5 cd5 ct5), sl5⟩)
    (c_squared : PySem.W.codeIn K cd5 "squared" = true)
    (k_squared : PySem.W.keepIn K (.ref f_squared) = true)
    (a_is_stall : PySem.W.nsIn K mainGlobals "is_stall" = some (some (.ref f_is_stall)))
    (l_is_stall : K.lookup f_is_stall = some ⟨oc6, od6, .func (PySem.W.fnOf "is_stall" "is_stall" (defArgs s_is_stall) (defBody s_is_stall) (defScope s_is_stall) .none kV6 dc6 pm6 an6 cd6 ct6), sl6⟩)
    (c_is_stall : PySem.W.codeIn K cd6 "is_stall" = true)
    (k_is_stall : PySem.W.keepIn K (.ref f_is_stall) = true)
    (a_is_ware : PySem.W.nsIn K mainGlobals "is_ware" = some (some (.ref f_is_ware)))
    (l_is_ware : K.lookup f_is_ware = some ⟨oc7, od7, .func (PySem.W.fnOf "is_ware" "is_ware" (defArgs s_is_ware) (defBody s_is_ware) (defScope s_is_ware) .none kV7 dc7 pm7 an7 cd7 ct7), sl7⟩)
    (c_is_ware : PySem.W.codeIn K cd7 "is_ware" = true)
    (k_is_ware : PySem.W.keepIn K (.ref f_is_ware) = true)
    (a_check_ware : PySem.W.nsIn K mainGlobals "check_ware" = some (some (.ref f_check_ware)))
    (l_check_ware : K.lookup f_check_ware = some ⟨oc8, od8, .func (PySem.W.fnOf "check_ware" "check_ware" (defArgs s_check_ware) (defBody s_check_ware) (defScope s_check_ware) .none kV8 dc8 pm8 an8 cd8 ct8), sl8⟩)
    (c_check_ware : PySem.W.codeIn K cd8 "check_ware" = true)
    (k_check_ware : PySem.W.keepIn K (.ref f_check_ware) = true)
    (a_across : PySem.W.nsIn K mainGlobals "across" = some (some (.ref f_across)))
    (l_across : K.lookup f_across = some ⟨oc9, od9, .func (PySem.W.fnOf "across" "across" (defArgs s_across) (defBody s_across) (defScope s_across) .none kV9 dc9 pm9 an9 cd9 ct9), sl9⟩)
    (c_across : PySem.W.codeIn K cd9 "across" = true)
    (k_across : PySem.W.keepIn K (.ref f_across) = true)
    (a_stalls_of : PySem.W.nsIn K mainGlobals "stalls_of" = some (some (.ref f_stalls_of)))
    (l_stalls_of : K.lookup f_stalls_of = some ⟨oc10, od10, .func (PySem.W.fnOf "stalls_of" "stalls_of" (defArgs s_stalls_of) (defBody s_stalls_of) (defScope s_stalls_of) .none kV10 dc10 pm10 an10 cd10 ct10), sl10⟩)
    (c_stalls_of : PySem.W.codeIn K cd10 "stalls_of" = true)
    (k_stalls_of : PySem.W.keepIn K (.ref f_stalls_of) = true)
    (a_neighbours : PySem.W.nsIn K mainGlobals "neighbours" = some (some (.ref f_neighbours)))
    (l_neighbours : K.lookup f_neighbours = some ⟨oc11, od11, .func (PySem.W.fnOf "neighbours" "neighbours" (defArgs s_neighbours) (defBody s_neighbours) (defScope s_neighbours) .none kV11 dc11 pm11 an11 cd11 ct11), sl11⟩)
    (c_neighbours : PySem.W.codeIn K cd11 "neighbours" = true)
    (k_neighbours : PySem.W.keepIn K (.ref f_neighbours) = true)
    (a_joined : PySem.W.nsIn K mainGlobals "joined" = some (some (.ref f_joined)))
    (l_joined : K.lookup f_joined = some ⟨oc12, od12, .func (PySem.W.fnOf "joined" "joined" (defArgs s_joined) (defBody s_joined) (defScope s_joined) .none kV12 dc12 pm12 an12 cd12 ct12), sl12⟩)
    (c_joined : PySem.W.codeIn K cd12 "joined" = true)
    (k_joined : PySem.W.keepIn K (.ref f_joined) = true)
    (a_pieces : PySem.W.nsIn K mainGlobals "pieces" = some (some (.ref f_pieces)))
    (l_pieces : K.lookup f_pieces = some ⟨oc13, od13, .func (PySem.W.fnOf "pieces" "pieces" (defArgs s_pieces) (defBody s_pieces) (defScope s_pieces) .none kV13 dc13 pm13 an13 cd13 ct13), sl13⟩)
    (c_pieces : PySem.W.codeIn K cd13 "pieces" = true)
    (k_pieces : PySem.W.keepIn K (.ref f_pieces) = true)
    (a_l_deck : PySem.W.nsIn K mainGlobals "_law_deck" = some (some (.ref f_l_deck)))
    (l_l_deck : K.lookup f_l_deck = some ⟨oc14, od14, .func (PySem.W.fnOf "_law_deck" "_law_deck" (defArgs s_l_deck) (defBody s_l_deck) (defScope s_l_deck) .none kV14 dc14 pm14 an14 cd14 ct14), sl14⟩)
    (c_l_deck : PySem.W.codeIn K cd14 "_law_deck" = true)
    (k_l_deck : PySem.W.keepIn K (.ref f_l_deck) = true)
    (a_l_pick : PySem.W.nsIn K mainGlobals "_law_pick" = some (some (.ref f_l_pick)))
    (l_l_pick : K.lookup f_l_pick = some ⟨oc15, od15, .func (PySem.W.fnOf "_law_pick" "_law_pick" (defArgs s_l_pick) (defBody s_l_pick) (defScope s_l_pick) .none kV15 dc15 pm15 an15 cd15 ct15), sl15⟩)
    (c_l_pick : PySem.W.codeIn K cd15 "_law_pick" = true)
    (k_l_pick : PySem.W.keepIn K (.ref f_l_pick) = true)
    (a_l_pairs : PySem.W.nsIn K mainGlobals "_law_pairs" = some (some (.ref f_l_pairs)))
    (l_l_pairs : K.lookup f_l_pairs = some ⟨oc16, od16, .func (PySem.W.fnOf "_law_pairs" "_law_pairs" (defArgs s_l_pairs) (defBody s_l_pairs) (defScope s_l_pairs) .none kV16 dc16 pm16 an16 cd16 ct16), sl16⟩)
    (c_l_pairs : PySem.W.codeIn K cd16 "_law_pairs" = true)
    (k_l_pairs : PySem.W.keepIn K (.ref f_l_pairs) = true)
    (a_l_stalls : PySem.W.nsIn K mainGlobals "_law_stalls" = some (some (.ref f_l_stalls)))
    (l_l_stalls : K.lookup f_l_stalls = some ⟨oc17, od17, .func (PySem.W.fnOf "_law_stalls" "_law_stalls" (defArgs s_l_stalls) (defBody s_l_stalls) (defScope s_l_stalls) .none kV17 dc17 pm17 an17 cd17 ct17), sl17⟩)
    (c_l_stalls : PySem.W.codeIn K cd17 "_law_stalls" = true)
    (k_l_stalls : PySem.W.keepIn K (.ref f_l_stalls) = true)
    (a_l_due : PySem.W.nsIn K mainGlobals "_law_due" = some (some (.ref f_l_due)))
    (l_l_due : K.lookup f_l_due = some ⟨oc18, od18, .func (PySem.W.fnOf "_law_due" "_law_due" (defArgs s_l_due) (defBody s_l_due) (defScope s_l_due) .none kV18 dc18 pm18 an18 cd18 ct18), sl18⟩)
    (c_l_due : PySem.W.codeIn K cd18 "_law_due" = true)
    (k_l_due : PySem.W.keepIn K (.ref f_l_due) = true)
    (a_l_is_told : PySem.W.nsIn K mainGlobals "_law_is_told" = some (some (.ref f_l_is_told)))
    (l_l_is_told : K.lookup f_l_is_told = some ⟨oc19, od19, .func (PySem.W.fnOf "_law_is_told" "_law_is_told" (defArgs s_l_is_told) (defBody s_l_is_told) (defScope s_l_is_told) .none kV19 dc19 pm19 an19 cd19 ct19), sl19⟩)
    (c_l_is_told : PySem.W.codeIn K cd19 "_law_is_told" = true)
    (k_l_is_told : PySem.W.keepIn K (.ref f_l_is_told) = true)
    (a_law : PySem.W.nsIn K mainGlobals "law" = some (some (.ref f_law)))
    (l_law : K.lookup f_law = some ⟨oc20, od20, .func (PySem.W.fnOf "law" "law" (defArgs s_law) (defBody s_law) (defScope s_law) .none kV20 dc20 pm20 an20 cd20 ct20), sl20⟩)
    (c_law : PySem.W.codeIn K cd20 "law" = true)
    (k_law : PySem.W.keepIn K (.ref f_law) = true)
    (l_Web_init : K.lookup f_Web_init = some ⟨oc21, od21, .func (PySem.W.fnOf "__init__" "Web.__init__" (defArgs s_Web_init) (defBody s_Web_init) (defScope s_Web_init) .none kV21 dc21 pm21 an21 cd21 ct21), sl21⟩)
    (c_Web_init : PySem.W.codeIn K cd21 "Web.__init__" = true)
    (k_Web_init : PySem.W.keepIn K (.ref f_Web_init) = true)
    (mi_Web_eq : PySem.W.findIn K (.ref c_Web) "__eq__" = some (some (.ref f_Web_eq)))
    (l_Web_eq : K.lookup f_Web_eq = some ⟨oc22, od22, .func (PySem.W.fnOf "__eq__" "Web.__eq__" (defArgs s_Web_eq) (defBody s_Web_eq) (defScope s_Web_eq) .none kV22 dc22 pm22 an22 cd22 ct22), sl22⟩)
    (c_Web_eq : PySem.W.codeIn K cd22 "Web.__eq__" = true)
    (k_Web_eq : PySem.W.keepIn K (.ref f_Web_eq) = true)
    (mf_Web_eq : PySem.W.isFn K (.ref f_Web_eq) = true)
    (mn_Web : PySem.W.findIn K (.ref c_Web) "__ne__" = some (some (.builtin "object.__ne__")))
    : ∃ fd : FuncData, (∀ (s : Shared) (v : Value), BindsTo s fd ⟨[v], []⟩ [("_law_script", v)]) ∧ ∀ base : Heap, K.In base → base.Ns mainGlobals mg → FnOk l.prog w K mg base CX0 7 fa fd ["_law_script"] (sp_law K) := by
  have e := hfa.symm.trans (PySem.W.mg_of X G a_law)
  cases e
  have T : Txt K mg f_is_integer f_is_row f_is_fraction f_is_some f_multiplied f_squared f_is_stall f_is_ware f_check_ware f_across f_stalls_of f_neighbours f_joined f_pieces f_l_deck f_l_pick f_l_pairs f_l_stalls f_l_due f_l_is_told fa f_Web_init f_Web_eq c_BadWare c_Web _ _ _ _ _ _ _ _ _ _ _ _ _ _ _ _ _ _ _ _ _ _ _ := {
    z_all := PySem.W.mg_none_of X G z_all
    z_any := PySem.W.mg_none_of X G z_any
    z_bool := PySem.W.mg_none_of X G z_bool
    z_enumerate := PySem.W.mg_none_of X G z_enumerate
    z_int := PySem.W.mg_none_of X G z_int
    z_isinstance := PySem.W.mg_none_of X G z_isinstance
    z_len := PySem.W.mg_none_of X G z_len
    z_list := PySem.W.mg_none_of X G z_list
    z_min := PySem.W.mg_none_of X G z_min
    z_range := PySem.W.mg_none_of X G z_range
    z_set := PySem.W.mg_none_of X G z_set
    z_sorted := PySem.W.mg_none_of X G z_sorted
    z_sum := PySem.W.mg_none_of X G z_sum
    z_tuple := PySem.W.mg_none_of X G z_tuple
    m_gcd := PySem.W.mg_of X G m_gcd
    c_BadWare := ⟨PySem.W.mg_of X G a_BadWare, ex_BadWare, kp_BadWare, be_BadWare, ty_BadWare, ic_BadWare, sf_BadWare⟩
    w_Web := ⟨PySem.W.mg_of X G a_Web, ⟨mk_Web, in_Web, fn_Web, kp_Web⟩, ⟨⟨pg_Web, hd_Web, po_Web, sa_Web⟩, ha_Web, hn_Web, ht_Web, mo_Web, i_int_Web, i_bool_Web, i_tuple_Web, i_list_Web⟩⟩
    n_Web_wares := na_Web_wares
    n_Web_stalls := na_Web_stalls
    v_MOST_STALLS := ⟨_, PySem.W.mg_of X G v_MOST_STALLS, ⟨_, rfl⟩⟩
    v_MOST_WARES := ⟨_, PySem.W.mg_of X G v_MOST_WARES, ⟨_, rfl⟩⟩
    g_is_integer := PySem.W.mg_of X G a_is_integer
    F_is_integer := fun_mk (st := s_is_integer) l_is_integer c_is_integer k_is_integer
    k_is_integer := k_is_integer
    b_is_integer := (fun_mk (st := s_is_integer) l_is_integer c_is_integer k_is_integer).binds (ps := ["thing"]) fun _ _ _ _ _ _ us hl => match us, hl with | [_], _ => rfl
    g_is_row := PySem.W.mg_of X G a_is_row
    F_is_row := fun_mk (st := s_is_row) l_is_row c_is_row k_is_row
    k_is_row := k_is_row
    b_is_row := (fun_mk (st := s_is_row) l_is_row c_is_row k_is_row).binds (ps := ["thing"]) fun _ _ _ _ _ _ us hl => match us, hl with | [_], _ => rfl
    g_is_fraction := PySem.W.mg_of X G a_is_fraction
    F_is_fraction := fun_mk (st := s_is_fraction) l_is_fraction c_is_fraction k_is_fraction
    k_is_fraction := k_is_fraction
    b_is_fraction := (fun_mk (st := s_is_fraction) l_is_fraction c_is_fraction k_is_fraction).binds (ps := ["thing"]) fun _ _ _ _ _ _ us hl => match us, hl with | [_], _ => rfl
    g_is_some := PySem.W.mg_of X G a_is_some
    F_is_some := fun_mk (st := s_is_some) l_is_some c_is_some k_is_some
    k_is_some := k_is_some
    b_is_some := (fun_mk (st := s_is_some) l_is_some c_is_some k_is_some).binds (ps := ["thing"]) fun _ _ _ _ _ _ us hl => match us, hl with | [_], _ => rfl
    g_multiplied := PySem.W.mg_of X G a_multiplied
    F_multiplied := fun_mk (st := s_multiplied) l_multiplied c_multiplied k_multiplied
    k_multiplied := k_multiplied
    b_multiplied := (fun_mk (st := s_multiplied) l_multiplied c_multiplied k_multiplied).binds (ps := ["one", "other"]) fun _ _ _ _ _ _ us hl => match us, hl with | [_, _], _ => rfl
    g_squared := PySem.W.mg_of X G a_squared
    F_squared := fun_mk (st := s_squared) l_squared c_squared k_squared
    k_squared := k_squared
    b_squared := (fun_mk (st := s_squared) l_squared c_squared k_squared).binds (ps := ["one"]) fun _ _ _ _ _ _ us hl => match us, hl with | [_], _ => rfl
    g_is_stall := PySem.W.mg_of X G a_is_stall
    F_is_stall := fun_mk (st := s_is_stall) l_is_stall c_is_stall k_is_stall
    k_is_stall := k_is_stall
    b_is_stall := (fun_mk (st := s_is_stall) l_is_stall c_is_stall k_is_stall).binds (ps := ["wares", "thing"]) fun _ _ _ _ _ _ us hl => match us, hl with | [_, _], _ => rfl
    g_is_ware := PySem.W.mg_of X G a_is_ware
    F_is_ware := fun_mk (st := s_is_ware) l_is_ware c_is_ware k_is_ware
    k_is_ware := k_is_ware
    b_is_ware := (fun_mk (st := s_is_ware) l_is_ware c_is_ware k_is_ware).binds (ps := ["web", "thing"]) fun _ _ _ _ _ _ us hl => match us, hl with | [_, _], _ => rfl
    g_check_ware := PySem.W.mg_of X G a_check_ware
    F_check_ware := fun_mk (st := s_check_ware) l_check_ware c_check_ware k_check_ware
    k_check_ware := k_check_ware
    b_check_ware := (fun_mk (st := s_check_ware) l_check_ware c_check_ware k_check_ware).binds (ps := ["web", "ware"]) fun _ _ _ _ _ _ us hl => match us, hl with | [_, _], _ => rfl
    g_across := PySem.W.mg_of X G a_across
    F_across := fun_mk (st := s_across) l_across c_across k_across
    k_across := k_across
    b_across := (fun_mk (st := s_across) l_across c_across k_across).binds (ps := ["stall", "ware"]) fun _ _ _ _ _ _ us hl => match us, hl with | [_, _], _ => rfl
    g_stalls_of := PySem.W.mg_of X G a_stalls_of
    F_stalls_of := fun_mk (st := s_stalls_of) l_stalls_of c_stalls_of k_stalls_of
    k_stalls_of := k_stalls_of
    b_stalls_of := (fun_mk (st := s_stalls_of) l_stalls_of c_stalls_of k_stalls_of).binds (ps := ["ware", "stalls"]) fun _ _ _ _ _ _ us hl => match us, hl with | [_, _], _ => rfl
    g_neighbours := PySem.W.mg_of X G a_neighbours
    F_neighbours := fun_mk (st := s_neighbours) l_neighbours c_neighbours k_neighbours
    k_neighbours := k_neighbours
    b_neighbours := (fun_mk (st := s_neighbours) l_neighbours c_neighbours k_neighbours).binds (ps := ["web", "ware"]) fun _ _ _ _ _ _ us hl => match us, hl with | [_, _], _ => rfl
    g_joined := PySem.W.mg_of X G a_joined
    F_joined := fun_mk (st := s_joined) l_joined c_joined k_joined
    k_joined := k_joined
    b_joined := (fun_mk (st := s_joined) l_joined c_joined k_joined).binds (ps := ["firsts", "stall"]) fun _ _ _ _ _ _ us hl => match us, hl with | [_, _], _ => rfl
    g_pieces := PySem.W.mg_of X G a_pieces
    F_pieces := fun_mk (st := s_pieces) l_pieces c_pieces k_pieces
    k_pieces := k_pieces
    b_pieces := (fun_mk (st := s_pieces) l_pieces c_pieces k_pieces).binds (ps := ["web"]) fun _ _ _ _ _ _ us hl => match us, hl with | [_], _ => rfl
    g_l_deck := PySem.W.mg_of X G a_l_deck
    F_l_deck := fun_mk (st := s_l_deck) l_l_deck c_l_deck k_l_deck
    k_l_deck := k_l_deck
    b_l_deck := (fun_mk (st := s_l_deck) l_l_deck c_l_deck k_l_deck).binds (ps := ["_law_script"]) fun _ _ _ _ _ _ us hl => match us, hl with | [_], _ => rfl
    g_l_pick := PySem.W.mg_of X G a_l_pick
    F_l_pick := fun_mk (st := s_l_pick) l_l_pick c_l_pick k_l_pick
    k_l_pick := k_l_pick
    b_l_pick := (fun_mk (st := s_l_pick) l_l_pick c_l_pick k_l_pick).binds (ps := ["_law_deck_here", "_law_many"]) fun _ _ _ _ _ _ us hl => match us, hl with | [_, _], _ => rfl
    g_l_pairs := PySem.W.mg_of X G a_l_pairs
    F_l_pairs := fun_mk (st := s_l_pairs) l_l_pairs c_l_pairs k_l_pairs
    k_l_pairs := k_l_pairs
    b_l_pairs := (fun_mk (st := s_l_pairs) l_l_pairs c_l_pairs k_l_pairs).binds (ps := ["_law_deck_here", "_law_wares"]) fun _ _ _ _ _ _ us hl => match us, hl with | [_, _], _ => rfl
    g_l_stalls := PySem.W.mg_of X G a_l_stalls
    F_l_stalls := fun_mk (st := s_l_stalls) l_l_stalls c_l_stalls k_l_stalls
    k_l_stalls := k_l_stalls
    b_l_stalls := (fun_mk (st := s_l_stalls) l_l_stalls c_l_stalls k_l_stalls).binds (ps := ["_law_deck_here", "_law_pairs_here"]) fun _ _ _ _ _ _ us hl => match us, hl with | [_, _], _ => rfl
    g_l_due := PySem.W.mg_of X G a_l_due
    F_l_due := fun_mk (st := s_l_due) l_l_due c_l_due k_l_due
    k_l_due := k_l_due
    b_l_due := (fun_mk (st := s_l_due) l_l_due c_l_due k_l_due).binds (ps := ["_law_wares", "_law_pairs_here"]) fun _ _ _ _ _ _ us hl => match us, hl with | [_, _], _ => rfl
    g_l_is_told := PySem.W.mg_of X G a_l_is_told
    F_l_is_told := fun_mk (st := s_l_is_told) l_l_is_told c_l_is_told k_l_is_told
    k_l_is_told := k_l_is_told
    b_l_is_told := (fun_mk (st := s_l_is_told) l_l_is_told c_l_is_told k_l_is_told).binds (ps := ["_law_web", "_law_due_here"]) fun _ _ _ _ _ _ us hl => match us, hl with | [_, _], _ => rfl
    g_law := PySem.W.mg_of X G a_law
    F_law := fun_mk (st := s_law) l_law c_law k_law
    k_law := k_law
    b_law := (fun_mk (st := s_law) l_law c_law k_law).binds (ps := ["_law_script"]) fun _ _ _ _ _ _ us hl => match us, hl with | [_], _ => rfl
    F_Web_init := fun_mk (st := s_Web_init) l_Web_init c_Web_init k_Web_init
    b_Web_init := (fun_mk (st := s_Web_init) l_Web_init c_Web_init k_Web_init).binds (ps := ["self", "wares", "stalls"]) fun _ _ _ _ _ _ us hl => match us, hl with | [_, _, _], _ => rfl
    i_Web_eq := mi_Web_eq
    fn_Web_eq := mf_Web_eq
    ne_Web := mn_Web
    F_Web_eq := fun_mk (st := s_Web_eq) l_Web_eq c_Web_eq k_Web_eq
    b_Web_eq := (fun_mk (st := s_Web_eq) l_Web_eq c_Web_eq k_Web_eq).binds (ps := ["self", "other"]) fun _ _ _ _ _ _ us hl => match us, hl with | [_, _], _ => rfl
  }
  exact ⟨_, fun s v => .of_eq rfl, fun base _ _ => ok_all T⟩
end My
open PySem PySem.W PyProof.Rows
set_option maxRecDepth 100000 in
set_option maxHeartbeats 0 in
theorem PySem.Challenge.cw_rootstalls_k08_whole_pieces_holds : PySem.Challenge.rw_rootstalls_k08_whole_pieces.Holds := by
  w_on; o_law; k_head; (case hw => w_witness2)
  k_fill
  refine L2.walk_ofB (l := PySem.Challenge.rw_rootstalls_k08_whole_pieces) (n := 63) (k := 7) (x := "_law_script") (CX := fun _ => L2.CX0) (sp := fun w => My.sp_law _) rfl (by decide) rfl ⟨rfl, by decide, by decide⟩ (fun w h Y => PySem.W.kIn_of Y) ?F (fun _ _ a ns hl hb _ hS => ⟨a, ns, rfl, hS, hl, hb, fun _ => rfl⟩) (fun _ _ _ _ _ h => h)
  case F =>
    intro w mg fa h KX G hmg
    refine' My.all_mk KX G hmg ?z_all ?z_any ?z_bool ?z_enumerate ?z_int ?z_isinstance ?z_len ?z_list ?z_min ?z_range ?z_set ?z_sorted ?z_sum ?z_tuple ?m_gcd ?a_BadWare ?ex_BadWare ?kp_BadWare ?be_BadWare ?ty_BadWare ?ic_BadWare ?sf_BadWare ?a_Web ?mk_Web ?in_Web ?fn_Web ?kp_Web ?pg_Web ?hd_Web ?po_Web ?sa_Web ?ha_Web ?hn_Web ?ht_Web ?mo_Web ?i_int_Web ?i_bool_Web ?i_tuple_Web ?i_list_Web ?na_Web_wares ?na_Web_stalls ?v_MOST_STALLS ?v_MOST_WARES ?a_is_integer ?l_is_integer ?c_is_integer ?k_is_integer ?a_is_row ?l_is_row ?c_is_row ?k_is_row ?a_is_fraction ?l_is_fraction ?c_is_fraction ?k_is_fraction ?a_is_some ?l_is_some ?c_is_some ?k_is_some ?a_multiplied ?l_multiplied ?c_multiplied ?k_multiplied ?a_squared ?l_squared ?c_squared ?k_squared ?a_is_stall ?l_is_stall ?c_is_stall ?k_is_stall ?a_is_ware ?l_is_ware ?c_is_ware ?k_is_ware ?a_check_ware ?l_check_ware ?c_check_ware ?k_check_ware ?a_across ?l_across ?c_across ?k_across ?a_stalls_of ?l_stalls_of ?c_stalls_of ?k_stalls_of ?a_neighbours ?l_neighbours ?c_neighbours ?k_neighbours ?a_joined ?l_joined ?c_joined ?k_joined ?a_pieces ?l_pieces ?c_pieces ?k_pieces ?a_l_deck ?l_l_deck ?c_l_deck ?k_l_deck ?a_l_pick ?l_l_pick ?c_l_pick ?k_l_pick ?a_l_pairs ?l_l_pairs ?c_l_pairs ?k_l_pairs ?a_l_stalls ?l_l_stalls ?c_l_stalls ?k_l_stalls ?a_l_due ?l_l_due ?c_l_due ?k_l_due ?a_l_is_told ?l_l_is_told ?c_l_is_told ?k_l_is_told ?a_law ?l_law ?c_law ?k_law ?l_Web_init ?c_Web_init ?k_Web_init ?mi_Web_eq ?l_Web_eq ?c_Web_eq ?k_Web_eq ?mf_Web_eq ?mn_Web
    (case z_all => k_is)
    (case z_any => k_is)
    (case z_bool => k_is)
    (case z_enumerate => k_is)
    (case z_int => k_is)
    (case z_isinstance => k_is)
    (case z_len => k_is)
    (case z_list => k_is)
    (case z_min => k_is)
    (case z_range => k_is)
    (case z_set => k_is)
    (case z_sorted => k_is)
    (case z_sum => k_is)
    (case z_tuple => k_is)
    (case m_gcd => k_is)
    (case a_BadWare => k_is)
    (case ex_BadWare => first | k_exc | k_is)
    (case kp_BadWare => k_is)
    (case be_BadWare => k_is)
    (case ty_BadWare => k_is)
    (case ic_BadWare => k_is)
    (case sf_BadWare => first | rfl | k_is)
    (case a_Web => k_is)
    (case mk_Web => k_is)
    (case in_Web => k_is)
    (case fn_Web => k_is)
    (case kp_Web => k_is)
    (case pg_Web => k_is)
    (case hd_Web => k_is)
    (case po_Web => k_is)
    (case sa_Web => k_is)
    (case ha_Web => k_is)
    (case hn_Web => k_is)
    (case ht_Web => k_is)
    (case mo_Web => k_is)
    (case i_int_Web => first | rfl | k_is | decide +kernel)
    (case i_bool_Web => first | rfl | k_is | decide +kernel)
    (case i_tuple_Web => first | rfl | k_is | decide +kernel)
    (case i_list_Web => first | rfl | k_is | decide +kernel)
    (case na_Web_wares => k_is)
    (case na_Web_stalls => k_is)
    (case v_MOST_STALLS => k_is)
    (case v_MOST_WARES => k_is)
    (case a_is_integer => k_is)
    (case l_is_integer => k_is)
    (case c_is_integer => k_is)
    (case k_is_integer => k_is)
    (case a_is_row => k_is)
    (case l_is_row => k_is)
    (case c_is_row => k_is)
    (case k_is_row => k_is)
    (case a_is_fraction => k_is)
    (case l_is_fraction => k_is)
    (case c_is_fraction => k_is)
    (case k_is_fraction => k_is)
    (case a_is_some => k_is)
    (case l_is_some => k_is)
    (case c_is_some => k_is)
    (case k_is_some => k_is)
    (case a_multiplied => k_is)
    (case l_multiplied => k_is)
    (case c_multiplied => k_is)
    (case k_multiplied => k_is)
    (case a_squared => k_is)
    (case l_squared => k_is)
    (case c_squared => k_is)
    (case k_squared => k_is)
    (case a_is_stall => k_is)
    (case l_is_stall => k_is)
    (case c_is_stall => k_is)
    (case k_is_stall => k_is)
    (case a_is_ware => k_is)
    (case l_is_ware => k_is)
    (case c_is_ware => k_is)
    (case k_is_ware => k_is)
    (case a_check_ware => k_is)
    (case l_check_ware => k_is)
    (case c_check_ware => k_is)
    (case k_check_ware => k_is)
    (case a_across => k_is)
    (case l_across => k_is)
    (case c_across => k_is)
    (case k_across => k_is)
    (case a_stalls_of => k_is)
    (case l_stalls_of => k_is)
    (case c_stalls_of => k_is)
    (case k_stalls_of => k_is)
    (case a_neighbours => k_is)
    (case l_neighbours => k_is)
    (case c_neighbours => k_is)
    (case k_neighbours => k_is)
    (case a_joined => k_is)
    (case l_joined => k_is)
    (case c_joined => k_is)
    (case k_joined => k_is)
    (case a_pieces => k_is)
    (case l_pieces => k_is)
    (case c_pieces => k_is)
    (case k_pieces => k_is)
    (case a_l_deck => k_is)
    (case l_l_deck => k_is)
    (case c_l_deck => k_is)
    (case k_l_deck => k_is)
    (case a_l_pick => k_is)
    (case l_l_pick => k_is)
    (case c_l_pick => k_is)
    (case k_l_pick => k_is)
    (case a_l_pairs => k_is)
    (case l_l_pairs => k_is)
    (case c_l_pairs => k_is)
    (case k_l_pairs => k_is)
    (case a_l_stalls => k_is)
    (case l_l_stalls => k_is)
    (case c_l_stalls => k_is)
    (case k_l_stalls => k_is)
    (case a_l_due => k_is)
    (case l_l_due => k_is)
    (case c_l_due => k_is)
    (case k_l_due => k_is)
    (case a_l_is_told => k_is)
    (case l_l_is_told => k_is)
    (case c_l_is_told => k_is)
    (case k_l_is_told => k_is)
    (case a_law => k_is)
    (case l_law => k_is)
    (case c_law => k_is)
    (case k_law => k_is)
    (case l_Web_init => k_is)
    (case c_Web_init => k_is)
    (case k_Web_init => k_is)
    (case mi_Web_eq => k_is)
    (case l_Web_eq => k_is)
    (case c_Web_eq => k_is)
    (case k_Web_eq => k_is)
    (case mf_Web_eq => k_is)
    (case mn_Web => k_is)
