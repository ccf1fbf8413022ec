import PyProof.Rows.All
import Wide.All
import OpenK.AllK
import Wide.FinOn
import HandS.ForMost
import HandS.WideBits
import HandS.Gcd
import HandS.IsInst
import HandS.Style
import HandS.SetFor
import HandS.EndBits
import HandS.Codes
import HandS.ForExc
import HandS.Small
import HandS.Exc
import HandS.ExcOwn
import HandS.TryOnly
import HandS.WordsExc
import HandS.ExcInit
import HandS.ExcField
import Flt.RightSqrt
import HandS.GenYield
import HandS.OwnEq
import HandS.TupAny
import PyProof.Draws
import KE.DataMinMax
import HandS.Zip
import KE.GoesZip
import HandS.TupMul
import KE.SortData
import KE.DataCmp
import HandS.Strs
import HandS.Conv
import HandS.DictComp
import HandS.WordsDict
import HandS.Dict
import HandS.Flow
import PySem.Challenge.RW_rootstalls_k67_whole_best_routes_by_all
set_option Elab.async false
set_option linter.all false
set_option maxRecDepth 100000
set_option maxHeartbeats 4000000
namespace My
/-! ### fractions in lowest terms are the rationals -/
theorem rat_of {n : Int} {d : Nat} {r : Rat} (hd : d ≠ 0) (hc : n.natAbs.Coprime d) (h : Rat.divInt n (d : Int) = r) : r.num = n ∧ r.den = d := by
  subst h
  rw [← Rat.mk_eq_divInt (nz := hd) (c := hc)]
  exact ⟨rfl, rfl⟩
theorem rat_cross {n d : Int} {r : Rat} (hd : d ≠ 0) : Rat.divInt n d = r ↔ n * r.den = r.num * d := by
  have h := Rat.num_divInt_den r
  have hz : (r.den : Int) ≠ 0 := by
    have := r.den_pos
    omega
  constructor
  · intro e
    rw [← h] at e
    exact (Rat.divInt_eq_divInt_iff hd hz).mp e
  · intro e
    rw [← h]
    exact (Rat.divInt_eq_divInt_iff hd hz).mpr e
theorem den_pos (r : Rat) : (0 : Int) < r.den := by
  have := r.den_pos
  omega
theorem gcd_den (r : Rat) : Nat.gcd r.num.natAbs r.den = 1 := r.reduced
/-- the sum -/
theorem add_form (r s : Rat) (g ad bd : Nat) (top : Int) (g1 : Nat) (hg : g = r.den.gcd s.den) (had : ad = r.den / g) (hbd : bd = s.den / g) (ht : top = r.num * bd + s.num * ad) (h1 : g1 = top.natAbs.gcd g) :
    (r + s).num = top / g1 ∧ (r + s).den = ad * (s.den / g1) := by
  have hd := r.den_pos
  have hs := s.den_pos
  have gpos : 0 < g := hg ▸ Nat.gcd_pos_of_pos_left _ hd
  have ae : ad * g = r.den := had ▸ Nat.div_mul_cancel (hg ▸ Nat.gcd_dvd_left ..)
  have be : bd * g = s.den := hbd ▸ Nat.div_mul_cancel (hg ▸ Nat.gcd_dvd_right ..)
  have adpos : 0 < ad := by
    rcases Nat.eq_zero_or_pos ad with e | e
    · rw [e] at ae
      omega
    · exact e
  have aux : top.natAbs.gcd g = top.natAbs.gcd (ad * s.den) := by
    rw [ht]
    exact Rat.add.aux r s hg had hbd
  have g1pos : 0 < g1 := h1 ▸ Nat.gcd_pos_of_pos_right _ gpos
  have d1 : g1 ∣ top.natAbs := h1 ▸ Nat.gcd_dvd_left ..
  have d2 : g1 ∣ g := h1 ▸ Nat.gcd_dvd_right ..
  have d3 : g1 ∣ s.den := Nat.dvd_trans d2 ⟨bd, by rw [← be, Nat.mul_comm]⟩
  have e1 : ad * (s.den / g1) = ad * s.den / g1 := (Nat.mul_div_assoc ad d3).symm
  have d4 : g1 ∣ ad * s.den := Nat.dvd_trans d3 (Nat.dvd_mul_left ..)
  rw [e1]
  have tz : (g1 : Int) ∣ top := Int.ofNat_dvd_left.mpr d1
  have tm : top / g1 * g1 = top := Int.ediv_mul_cancel tz
  have dm : ad * s.den / g1 * g1 = ad * s.den := Nat.div_mul_cancel d4
  have nz : ad * s.den / g1 ≠ 0 := by
    intro e
    rw [e] at dm
    have : 0 < ad * s.den := Nat.mul_pos adpos hs
    omega
  refine rat_of nz ?_ ?_
  · have na : (top / (g1 : Int)).natAbs = top.natAbs / g1 := by
      rw [Int.natAbs_ediv_of_dvd tz, Int.natAbs_natCast]
    rw [na, h1, aux]
    exact Nat.coprime_div_gcd_div_gcd (Nat.gcd_pos_of_pos_right _ (Nat.mul_pos adpos hs))
  · have z1 : (g1 : Int) ≠ 0 := by omega
    have z2 : (g : Int) ≠ 0 := by omega
    rw [← Rat.divInt_mul_right z1, tm, ← Int.natCast_mul, dm, ← Rat.divInt_mul_right z2]
    have er := Rat.num_divInt_den r
    have es := Rat.num_divInt_den s
    have rz : (r.den : Int) ≠ 0 := by omega
    have sz : (s.den : Int) ≠ 0 := by omega
    have key := Rat.divInt_add_divInt r.num s.num rz sz
    rw [er, es] at key
    rw [key]
    have k1 : top * g = r.num * s.den + s.num * r.den := by
      rw [ht, ← be, ← ae, Int.natCast_mul, Int.natCast_mul, Int.add_mul, Int.mul_assoc, Int.mul_assoc]
    have k2 : ((ad * s.den : Nat) : Int) * (g : Int) = r.den * s.den := by
      rw [← ae, Int.natCast_mul, Int.natCast_mul, Int.mul_assoc, Int.mul_comm (s.den : Int), ← Int.mul_assoc]
    rw [k1, k2]
/-- the product -/
theorem mul_form (r s : Rat) (g1 g2 : Nat) (h1 : g1 = r.num.natAbs.gcd s.den) (h2 : g2 = s.num.natAbs.gcd r.den) :
    (r * s).num = r.num / g1 * (s.num / g2) ∧ (r * s).den = r.den / g2 * (s.den / g1) := by
  subst h1 h2
  have e : r * s = Rat.mul r s := rfl
  rw [e]
  unfold Rat.mul
  refine ⟨?_, ?_⟩
  · show r.num.divExact _ _ * s.num.divExact _ _ = _
    rw [Int.divExact_eq_tdiv, Int.divExact_eq_tdiv, Int.tdiv_eq_ediv_of_dvd, Int.tdiv_eq_ediv_of_dvd]
    · exact Int.ofNat_dvd_left.mpr (Nat.gcd_dvd_left ..)
    · exact Int.ofNat_dvd_left.mpr (Nat.gcd_dvd_left ..)
  · show r.den.divExact _ _ * s.den.divExact _ _ = _
    rw [Nat.divExact_eq_div, Nat.divExact_eq_div]
/-- lowest terms of any pair -/
theorem low_form (n d : Int) (hd : d ≠ 0) : (Rat.divInt n d).num = (if d < 0 then n / (-(n.natAbs.gcd d.natAbs : Nat) : Int) else n / (n.natAbs.gcd d.natAbs : Nat)) ∧
    ((Rat.divInt n d).den : Int) = (if d < 0 then d / (-(n.natAbs.gcd d.natAbs : Nat) : Int) else d / (n.natAbs.gcd d.natAbs : Nat)) := by
  have pos : ∀ (n d : Int), 0 < d → (Rat.divInt n d).num = n / (n.natAbs.gcd d.natAbs : Nat) ∧ ((Rat.divInt n d).den : Int) = d / (n.natAbs.gcd d.natAbs : Nat) := by
    intro n d h
    have gp : 0 < n.natAbs.gcd d.natAbs := Nat.gcd_pos_of_pos_right _ (by omega)
    have z1 : ((n.natAbs.gcd d.natAbs : Nat) : Int) ≠ 0 := by omega
    have dn : ((n.natAbs.gcd d.natAbs : Nat) : Int) ∣ n := Int.ofNat_dvd_left.mpr (Nat.gcd_dvd_left ..)
    have dd : ((n.natAbs.gcd d.natAbs : Nat) : Int) ∣ d := Int.ofNat_dvd_left.mpr (Nat.gcd_dvd_right ..)
    have e : d / ((n.natAbs.gcd d.natAbs : Nat) : Int) = ((d.natAbs / n.natAbs.gcd d.natAbs : Nat) : Int) := by
      rw [Int.natCast_ediv]
      congr 1
      omega
    have dpos : d.natAbs / n.natAbs.gcd d.natAbs ≠ 0 := Nat.ne_of_gt (Nat.div_pos (Nat.le_of_dvd (by omega) (Nat.gcd_dvd_right ..)) gp)
    have key := rat_of (n := n / ((n.natAbs.gcd d.natAbs : Nat) : Int)) (d := d.natAbs / n.natAbs.gcd d.natAbs) (r := Rat.divInt n d) dpos
      (by
        rw [Int.natAbs_ediv_of_dvd dn, Int.natAbs_natCast]
        exact Nat.coprime_div_gcd_div_gcd gp)
      (by rw [← e, ← Rat.divInt_mul_right z1, Int.ediv_mul_cancel dn, Int.ediv_mul_cancel dd])
    exact ⟨key.1, by rw [key.2, e]⟩
  rcases Int.lt_or_gt_of_ne hd with h | h
  · rw [if_pos h, if_pos h, ← Rat.neg_divInt_neg]
    have k := pos (-n) (-d) (by omega)
    rw [Int.natAbs_neg, Int.natAbs_neg] at k
    rw [k.1, k.2]
    have dn : ((n.natAbs.gcd d.natAbs : Nat) : Int) ∣ n := Int.ofNat_dvd_left.mpr (Nat.gcd_dvd_left ..)
    have dd : ((n.natAbs.gcd d.natAbs : Nat) : Int) ∣ d := Int.ofNat_dvd_left.mpr (Nat.gcd_dvd_right ..)
    rw [Int.neg_ediv_of_dvd dn, Int.neg_ediv_of_dvd dd, Int.ediv_neg, Int.ediv_neg]
    exact ⟨rfl, rfl⟩
  · have k := pos n d h
    rw [if_neg (by omega), if_neg (by omega)]
    exact k
theorem low_self (r : Rat) : Rat.divInt r.num r.den = r := Rat.num_divInt_den r
/-! ### sizes -/
def Bd (k : Nat) (r : Rat) : Prop := r.num.natAbs < 2 ^ k ∧ r.den < 2 ^ k
theorem Bd.mono {k l : Nat} {r : Rat} (h : Bd k r) (hl : k ≤ l) : Bd l r := ⟨Nat.lt_of_lt_of_le h.1 (Nat.pow_le_pow_right (by decide) hl), Nat.lt_of_lt_of_le h.2 (Nat.pow_le_pow_right (by decide) hl)⟩
theorem nat_mul_lt {a b k l : Nat} (ha : a < 2 ^ k) (hb : b < 2 ^ l) : a * b < 2 ^ (k + l) := by
  rw [Nat.pow_add]
  exact Nat.mul_lt_mul'' ha hb
theorem Bd.divInt {k : Nat} {n d : Int} (hd : d ≠ 0) (h1 : n.natAbs < 2 ^ k) (h2 : d.natAbs < 2 ^ k) : Bd k (Rat.divInt n d) := by
  obtain ⟨a, b⟩ := low_form n d hd
  have dn : ((n.natAbs.gcd d.natAbs : Nat) : Int) ∣ n := Int.ofNat_dvd_left.mpr (Nat.gcd_dvd_left ..)
  have dd : ((n.natAbs.gcd d.natAbs : Nat) : Int) ∣ d := Int.ofNat_dvd_left.mpr (Nat.gcd_dvd_right ..)
  have dp := (Rat.divInt n d).den_pos
  refine ⟨Nat.lt_of_le_of_lt ?_ h1, Nat.lt_of_le_of_lt ?_ h2⟩
  · rw [a]
    split
    · rw [Int.ediv_neg, Int.natAbs_neg, Int.natAbs_ediv_of_dvd dn]
      exact Nat.div_le_self _ _
    · rw [Int.natAbs_ediv_of_dvd dn]
      exact Nat.div_le_self _ _
  · have e : (Rat.divInt n d).den = ((Rat.divInt n d).den : Int).natAbs := (Int.natAbs_natCast _).symm
    rw [e, b]
    split
    · rw [Int.ediv_neg, Int.natAbs_neg, Int.natAbs_ediv_of_dvd dd]
      exact Nat.div_le_self _ _
    · rw [Int.natAbs_ediv_of_dvd dd]
      exact Nat.div_le_self _ _
theorem Bd.add {k l : Nat} {r s : Rat} (hr : Bd k r) (hs : Bd l s) : Bd (k + l + 1) (r + s) := by
  have rz : (r.den : Int) ≠ 0 := Int.ne_of_gt (den_pos r)
  have sz : (s.den : Int) ≠ 0 := Int.ne_of_gt (den_pos s)
  have key := Rat.divInt_add_divInt r.num s.num rz sz
  rw [low_self, low_self] at key
  rw [key]
  have a := nat_mul_lt hr.1 hs.2
  have b := nat_mul_lt hs.1 hr.2
  have c := nat_mul_lt hr.2 hs.2
  rw [Nat.add_comm l k] at b
  refine Bd.divInt (Int.mul_ne_zero rz sz) ?_ ?_
  · have h1 : (r.num * (s.den : Int) + s.num * (r.den : Int)).natAbs ≤ (r.num * (s.den : Int)).natAbs + (s.num * (r.den : Int)).natAbs := Int.natAbs_add_le _ _
    rw [Int.natAbs_mul, Int.natAbs_mul, Int.natAbs_natCast, Int.natAbs_natCast] at h1
    rw [Nat.pow_succ]
    omega
  · rw [Int.natAbs_mul, Int.natAbs_natCast, Int.natAbs_natCast, Nat.pow_succ]
    omega
theorem Bd.mul {k l : Nat} {r s : Rat} (hr : Bd k r) (hs : Bd l s) : Bd (k + l) (r * s) := by
  have rz : (r.den : Int) ≠ 0 := Int.ne_of_gt (den_pos r)
  have sz : (s.den : Int) ≠ 0 := Int.ne_of_gt (den_pos s)
  have key := Rat.divInt_mul_divInt r.num s.num (d₁ := r.den) (d₂ := s.den)
  rw [low_self, low_self] at key
  rw [key]
  refine Bd.divInt (Int.mul_ne_zero rz sz) ?_ ?_
  · rw [Int.natAbs_mul]
    exact nat_mul_lt hr.1 hs.1
  · rw [Int.natAbs_mul, Int.natAbs_natCast, Int.natAbs_natCast]
    exact nat_mul_lt hr.2 hs.2
theorem Bd.neg {k : Nat} {r : Rat} (hr : Bd k r) : Bd k (-r) := by
  refine ⟨?_, ?_⟩
  · rw [Rat.neg_num, Int.natAbs_neg]
    exact hr.1
  · rw [Rat.neg_den]
    exact hr.2
theorem Bd.sub {k l : Nat} {r s : Rat} (hr : Bd k r) (hs : Bd l s) : Bd (k + l + 1) (r - s) := by
  rw [Rat.sub_eq_add_neg]
  exact hr.add hs.neg
theorem inv_num {s : Rat} (h : s ≠ 0) : (if s.num < 0 then -(s.den : Int) else s.den) = (s⁻¹).num ∧ (if s.num < 0 then -s.num else s.num) = (s⁻¹).den := by
  have hn : s.num ≠ 0 := fun e => h (Rat.num_eq_zero.mp e)
  rw [Rat.num_inv, Rat.den_inv, if_neg hn]
  split
  · rename_i g
    rw [Int.sign_eq_neg_one_of_neg g]
    omega
  · rename_i g
    rw [Int.sign_eq_one_of_pos (by omega)]
    omega
theorem Bd.inv {k : Nat} {s : Rat} (h : s ≠ 0) (hs : Bd k s) : Bd k s⁻¹ := by
  obtain ⟨a, b⟩ := inv_num h
  have dp := den_pos s
  refine ⟨?_, ?_⟩
  · rw [← a]
    have := hs.2
    split <;> omega
  · have := hs.1
    have e : (s⁻¹).den = ((s⁻¹).den : Int).natAbs := (Int.natAbs_natCast _).symm
    rw [e, ← b]
    split <;> omega
theorem Bd.div {k l : Nat} {r s : Rat} (h : s ≠ 0) (hr : Bd k r) (hs : Bd l s) : Bd (k + l) (r / s) := by
  rw [Rat.div_def]
  exact hr.mul (hs.inv h)
end My
namespace My
open PySem PySem.Spec PyProof.Rows L2
theorem and_sw {A B : Prop} (b : B) (a : A) : A ∧ B := ⟨a, b⟩
theorem if_dec {p : Prop} [Decidable p] {A B : Prop} (h1 : p → A) (h2 : ¬ p → B) : if decide p = true then A else B := by
  by_cases h : p
  · rw [if_pos (decide_eq_true h)]
    exact h1 h
  · rw [if_neg (fun q => h (of_decide_eq_true q))]
    exact h2 h
theorem if_ndec {p : Prop} [Decidable p] {A B : Prop} (h1 : ¬ p → A) (h2 : p → B) : if (!decide p) = true then A else B := by
  by_cases h : p
  · rw [decide_eq_true h]
    exact iteF (h2 h)
  · rw [decide_eq_false h]
    exact iteT (h1 h)
/-- // by a divisor that is not 0, below 2 ^ 9000 -/
def CDivX (_ j : Int) : Prop := j ≠ 0 ∧ j.natAbs.log2 < 9000
section
variable {X : Cx}
theorem op_fdivX : OpR X (binaryOp .FloorDiv) (rI CDivX fun i j => .int (i.fdiv j)) := opI fun _ _ _ _ _ _ _ hc q => floordiv_int hc.1 q (.inl (PyProof.noPylong_of_log2 hc.2))
end
theorem cdivx {i j : Int} {b : Nat} (h : j ≠ 0) (hb : j.natAbs < 2 ^ b) (h9 : b ≤ 9000) : CDivX i j := by
  refine ⟨h, ?_⟩
  by_cases h0 : b = 0
  · subst h0
    omega
  · exact Nat.lt_of_lt_of_le (PySem.Flt.log2_lt_of (by omega) hb) h9
/-! ### heaps: all that was there, but what stands at D, stands -/
def Fw (D : Addr) (H H' : Hp) : Prop := ∀ b o, b ≠ D → H b = some o → H' b = some o
theorem Fw.refl (D : Addr) (H : Hp) : Fw D H H := fun _ _ _ h => h
theorem Fw.trans {D : Addr} {H H1 H2 : Hp} (a : Fw D H H1) (b : Fw D H1 H2) : Fw D H H2 := fun c o n h => b c o n (a c o n h)
theorem Same.fw {D : Addr} {H H' : Hp} (s : Same H H') : Fw D H H' := fun b o _ h => s b o h
theorem same_upd {H : Hp} {p : Addr} {o : HO} (h : H p = none) : Same H (upd H p o) := fun b x e => by
  rw [upd_ne (ne_of_none e h)]
  exact e
theorem fw_upd {D : Addr} {H : Hp} {o : HO} : Fw D H (upd H D o) := fun b x n e => by
  rw [upd_ne n]
  exact e
/-! ### the deck -/
def Deck (M : Nat) (D C : Addr) (H : Hp) (c : Nat) : Prop := ∃ (cells : List Int) (pl rest cnt : Int), C ≠ D ∧ H D = some (.lst [.ref C, .int pl, .int rest, .int cnt]) ∧ H C = some (.lst (cells.map V.int)) ∧
  cells.length ≤ 63 ∧ (∀ z ∈ cells, z.natAbs < 2 ^ M) ∧ (0 ≤ rest ∧ rest.natAbs < 2 ^ M) ∧ 0 ≤ cnt ∧ cnt ≤ c
theorem Deck.same {M : Nat} {D C : Addr} {H H' : Hp} {c : Nat} (d : Deck M D C H c) (s : Same H H') : Deck M D C H' c := by
  obtain ⟨cells, pl, rest, cnt, h0, h1, h2, h3⟩ := d
  exact ⟨cells, pl, rest, cnt, h0, s _ _ h1, s _ _ h2, h3⟩
theorem Deck.mono {M : Nat} {D C : Addr} {H : Hp} {c c' : Nat} (d : Deck M D C H c) (h : c ≤ c') : Deck M D C H c' := by
  obtain ⟨cells, pl, rest, cnt, h0, h1, h2, h3, h4, h5, h6, h7⟩ := d
  exact ⟨cells, pl, rest, cnt, h0, h1, h2, h3, h4, h5, h6, by omega⟩
theorem Deck.ne {M : Nat} {D C p : Addr} {H : Hp} {c : Nat} (d : Deck M D C H c) (h : H p = none) : p ≠ D := by
  obtain ⟨cells, pl, rest, cnt, h0, h1, h2⟩ := d
  exact (ne_of_none h1 h).symm
theorem Deck.neC {M : Nat} {D C p : Addr} {H : Hp} {c : Nat} (d : Deck M D C H c) (h : H p = none) : p ≠ C := by
  obtain ⟨cells, pl, rest, cnt, h0, h1, h2, _⟩ := d
  exact (ne_of_none h2 h).symm
theorem Deck.put {M : Nat} {D C p : Addr} {H : Hp} {c : Nat} {o : HO} (d : Deck M D C H c) (n1 : p ≠ D) (n2 : p ≠ C) : Deck M D C (upd H p o) c := by
  obtain ⟨cells, pl, rest, cnt, h0, h1, h2, h3⟩ := d
  exact ⟨cells, pl, rest, cnt, h0, (upd_ne (Ne.symm n1)).trans h1, (upd_ne (Ne.symm n2)).trans h2, h3⟩
theorem pow_le {a b : Nat} (h : a ≤ b) : (2 : Nat) ^ a ≤ 2 ^ b := Nat.pow_le_pow_right (by decide) h
theorem div_small {i j : Int} {M : Nat} (h0 : 0 ≤ i) (h : i.natAbs < 2 ^ M) (hj : 0 < j) : 0 ≤ i.fdiv j ∧ (i.fdiv j).natAbs < 2 ^ M := by
  rw [Int.fdiv_eq_ediv_of_nonneg i (by omega)]
  have a := Int.ediv_nonneg h0 (Int.le_of_lt hj)
  have b : i / j ≤ i := Int.ediv_le_self j h0
  exact ⟨a, by omega⟩
end My
namespace My
open PySem PySem.Spec PyProof.Rows L2
theorem at_ints {cells : List Int} {i : Int} (h0 : 0 ≤ i) (h1 : i < ((cells.map V.int).length : Nat)) : ∃ z, z ∈ cells ∧ atI (cells.map V.int) i = some (.int z) := by
  obtain ⟨j, rfl⟩ := Int.eq_ofNat_of_zero_le h0
  rw [List.length_map] at h1
  have hj : j < cells.length := by omega
  refine ⟨cells[j], List.getElem_mem hj, atI_nat ?_⟩
  rw [List.getElem?_map, List.getElem?_eq_getElem hj]
  rfl
theorem bits_lt {z : Int} {M : Nat} (h : Builtin.Int.intBits z ≤ M) : z.natAbs < 2 ^ M := by
  unfold Builtin.Int.intBits at h
  split at h
  · rename_i e
    have e' : z = 0 := by simpa using e
    subst e'
    exact Nat.two_pow_pos M
  · have := Nat.lt_log2_self (n := z.natAbs)
    exact Nat.lt_of_lt_of_le this (pow_le h)
theorem pw_big {z cnt : Int} {c M : Nat} (hz : z.natAbs < 2 ^ M) (hM : 64 ≤ M) (h0 : 0 ≤ cnt) (h1 : cnt ≤ c) (hc : c ≤ 2 ^ 40) : (z + 7919 * (cnt + 1) + 1).natAbs < 2 ^ (M + 1) := by
  have e : (2 : Nat) ^ 64 ≤ 2 ^ M := pow_le hM
  rw [Nat.pow_succ]
  generalize (2 : Nat) ^ M = p at *
  omega
theorem fdiv_dvd {a b : Int} (h : b ∣ a) : a.fdiv b = a / b := by
  obtain ⟨c, rfl⟩ := h
  by_cases hb : b = 0
  · subst hb
    rw [Int.zero_mul]
    simp
  · rw [Int.mul_fdiv_cancel_left _ hb, Int.mul_ediv_cancel_left _ hb]
theorem mod_rng (x : Int) {m : Int} (h : 0 < m) : 0 ≤ x % m ∧ x % m < m := ⟨Int.emod_nonneg _ (by omega), Int.emod_lt_of_pos _ h⟩
end My
namespace My
open PySem PySem.Spec PyProof.Rows L2
theorem cpow_of {i j : Int} (h : 0 ≤ j ∧ j ≤ 1000000 ∧ i.natAbs < 2 ^ 64) : CPow i j := h
theorem ten18 : (0 : Int) ≤ 10 ^ (18 : Int).toNat := by decide
theorem cmul_small {i j : Int} (h : i.natAbs < 2 ^ 64) (h2 : j.natAbs < 2 ^ 64) : CMulX i j := mulx_ok h h2 (by decide)
theorem cmul_big {i j : Int} {M : Nat} (h : i.natAbs < 2 ^ M) (h2 : j.natAbs < 2 ^ 64) (hM : M ≤ 100000000) : CMulX i j := mulx_ok h h2 (by omega)
theorem pick_mul2 (x : Int) {m k : Int} (h0 : 0 < m) (hm : m.natAbs < 2 ^ 32) (hk : k.natAbs < 2 ^ 32) {d : Int} (hd : 0 < d) : CMulX (x % m) ((x % m).fdiv d + k) := by
  obtain ⟨a, b⟩ := mod_rng x h0
  rw [Int.fdiv_eq_ediv_of_nonneg _ (by omega)]
  have c := Int.ediv_nonneg a (Int.le_of_lt hd)
  have e : (x % m) / d ≤ x % m := Int.ediv_le_self d a
  exact cmul_small (by omega) (by omega)
end My
namespace My
open PySem PySem.Spec PyProof.Rows L2
variable {K : PySem.W.Frag}
/-! ### isinstance -/
section
variable {K : PySem.W.Frag} {H : Hp} {Q : VK}
theorem isi_int_int {i : Int} (q : Q (.bl true) H) : rIsi K [.int i, .ty "int"] H Q := ⟨_, _, _, _, _, rfl, .ty _, .base (.int _), kit_ty (by decide +kernel), q⟩
theorem isi_int_bool {i : Int} (q : Q (.bl false) H) : rIsi K [.int i, .ty "bool"] H Q := ⟨_, _, _, _, _, rfl, .ty _, .base (.int _), kit_ty (by decide +kernel), q⟩
theorem isi_bl_bool {b : Bool} (q : Q (.bl true) H) : rIsi K [.bl b, .ty "bool"] H Q := ⟨_, _, _, _, _, rfl, .ty _, .base (.bl _), kit_ty (by decide +kernel), q⟩
theorem isi_tup_tup {p : Addr} {xs : List V} (h : H p = some (.tup xs)) (q : Q (.bl true) H) : rIsi K [.ref p, .ty "tuple"] H Q := ⟨_, _, _, _, _, rfl, .ty _, .base (.tup h), kit_ty (by decide +kernel), q⟩
end
/-! ### a fraction that stands in the heap -/
abbrev frV (r : Rat) : List V := [.int r.num, .int r.den]
/-- a tuple: in the heap, or one of the module's own -/
def Tp (K : PySem.W.Frag) (H : Hp) (p : Addr) (xs : List V) : Prop := H p = some (.tup xs) ∨ SqT K (fun _ => none) p xs
theorem Tp.same {H H' : Hp} {p : Addr} {xs : List V} (s : Same H H') (h : Tp K H p xs) : Tp K H' p xs := h.imp (fun h => s _ _ h) id
theorem Tp.sq {H : Hp} {p : Addr} {xs : List V} (h : Tp K H p xs) : SqT K H p xs := by
  rcases h with h | (h | ⟨_, h⟩) | h
  · exact .of h
  · cases h
  · cases h
  · exact .inr h
def IsF (K : PySem.W.Frag) (H : Hp) (v : V) (r : Rat) : Prop := ∃ p, v = .ref p ∧ Tp K H p (frV r)
theorem IsF.same {H H' : Hp} {v : V} {r : Rat} (s : Same H H') (h : IsF K H v r) : IsF K H' v r := by
  obtain ⟨p, e, h⟩ := h
  exact ⟨p, e, h.same s⟩
theorem Tp.new {H : Hp} {p : Addr} {xs : List V} : Tp K (upd H p (.tup xs)) p xs := .inl upd_same
theorem at_same {H H' : Hp} {p : Addr} {o : HO} (s : Same H H') (h : H p = some o) : H' p = some o := s _ _ h
theorem Tp.fw {M : Nat} {D C : Addr} {c : Nat} {H H' : Hp} {p : Addr} {xs : List V} (d : Deck M D C H c) (s : Fw D H H') (h : Tp K H p xs) : Tp K H' p xs := by
  obtain ⟨cells, pl, rest, cnt, h0, h1, h2⟩ := d
  exact h.imp (fun h => s _ _ (ne_of h h1 (by intro z; cases z)) h) id
theorem IsF.fw {M : Nat} {D C : Addr} {c : Nat} {H H' : Hp} {v : V} {r : Rat} (d : Deck M D C H c) (s : Fw D H H') (h : IsF K H v r) : IsF K H' v r := by
  obtain ⟨p, e, h⟩ := h
  exact ⟨p, e, h.fw d s⟩
/-- all tuples stand -/
def Tps (H H' : Hp) : Prop := ∀ b xs, H b = some (.tup xs) → H' b = some (.tup xs)
theorem Tp.ts {H H' : Hp} {p : Addr} {xs : List V} (f : Tps H H') (h : Tp K H p xs) : Tp K H' p xs := h.imp (fun h => f _ _ h) id
theorem isi_tp {K' : PySem.W.Frag} {H : Hp} {Q : VK} {p : Addr} {xs : List V} (h : Tp K' H p xs) (hk : K' = K) (q : Q (.bl true) H) : rIsi K [.ref p, .ty "tuple"] H Q := by
  subst hk
  rcases h with h | (h | ⟨_, h⟩) | ⟨o, its, n, h1, h2, _⟩
  · exact ⟨_, _, _, _, _, rfl, .ty _, .base (.tup h), kit_ty (by decide +kernel), q⟩
  · cases h
  · cases h
  · exact ⟨_, _, _, _, _, rfl, .ty _, .kTuple h1 h2, kit_ty (by decide +kernel), q⟩
theorem isF_new {H : Hp} {p : Addr} {a b : Int} {r : Rat} (h1 : r.num = a) (h2 : (r.den : Int) = b) : IsF K (upd H p (.tup [.int a, .int b])) (.ref p) r := by
  subst h1 h2
  exact ⟨p, rfl, .new⟩
def frD (r : Rat) : PyData := .tuple [.int r.num, .int r.den]
theorem IsF.dp {K : PySem.W.Frag} {H : Hp} {v : V} {r : Rat} (h : IsF K H v r) : Dp K H v (frD r) := by
  obtain ⟨p, rfl, h⟩ := h
  exact .tup h.sq (.cons (.int _) (.cons (.int _) .nil))
theorem frD_shaped (r : Rat) : SeqAt.shaped (frD r) = true := by rfl
theorem frD_eqv (r s : Rat) : PyData.eqv (frD r) (frD s) = decide (r = s) := by
  have e : PyData.eqv (frD r) (frD s) = (decide (r.num = s.num) && decide ((r.den : Int) = s.den)) := by
    simp only [frD, PyData.eqv, PyData.eqvAll, Bool.and_true, Bool.beq_eq_decide_eq]
  rw [e, Bool.eq_iff_iff]
  simp only [Bool.and_eq_true, decide_eq_true_eq]
  constructor
  · rintro ⟨a, b⟩
    exact Rat.ext a (by omega)
  · rintro rfl
    exact ⟨rfl, rfl⟩
theorem eqF {K : PySem.W.Frag} {H : Hp} {v w : V} {r s : Rat} {Q : VK} (h1 : IsF K H v r) (h2 : IsF K H w s) (q : Q (.bl (decide (r = s))) H) : rEqD K v w H Q := ⟨_, _, h1.dp, h2.dp, frD_shaped r, frD_shaped s, by rw [frD_eqv]; exact q⟩
theorem neF {K : PySem.W.Frag} {H : Hp} {v w : V} {r s : Rat} {Q : VK} (h1 : IsF K H v r) (h2 : IsF K H w s) (q : Q (.bl (!decide (r = s))) H) : rNeD K v w H Q := ⟨_, _, h1.dp, h2.dp, frD_shaped r, frD_shaped s, by rw [frD_eqv]; exact q⟩
end My
namespace My
open PySem PySem.Spec PyProof.Rows L2
/-! ### calls of built-ins by named readings -/
def rInt : List V → Hp → VK → Prop := fun xs H Q => (∃ i, xs = [.int i] ∧ Q (.int i) H) ∨ ∃ k, xs = [.bl k] ∧ Q (.int (if k then 1 else 0)) H
def rLen (K : PySem.W.Frag) : List V → Hp → VK → Prop := fun xs H Q => ∃ p ys, xs = [.ref p] ∧ (SqL K H p ys ∨ SqT K H p ys) ∧ Q (.int ys.length) H
def rAbs : List V → Hp → VK → Prop := fun xs H Q => ∃ i, xs = [.int i] ∧ Q (.int (if i < 0 then -i else i)) H
def rMin : List V → Hp → VK → Prop := fun xs H Q => ∃ i j, xs = [.int i, .int j] ∧ Q (.int (if j < i then j else i)) H
theorem call_intN {X : Cx} : CallR X (.type "int") rInt := call_int1
theorem call_lenN {X : Cx} : CallR X (.builtin "len") (rLen X.K) := call_len_seq
theorem call_absN {X : Cx} : CallR X (.builtin "abs") rAbs := call_abs
theorem call_minN {X : Cx} (hc : X.calm = true) : CallR X (.builtin "min") rMin := call_min2 hc
/-! ### a reading, one step a rule: each says what its left side asks first -/
section
variable {σ : L2.St} {H : Hp} {Q : VK} {K : PySem.W.Frag} {D : Ends} {ta tb te : TE} {t : TA} {i : Nat} {v x y : V}
theorem rd_var (e : σ[i]? = some (some v)) (q : Q v H) : tVar i σ H Q := ⟨v, e, q⟩
theorem rd_C (q : Q v H) : tC v σ H Q := q
theorem rd_op {r : R2} (h : ta σ H fun x H1 => tb σ H1 fun y H2 => r x y H2 Q) : tOp r ta tb σ H Q := h
theorem rd_un {r : V → Hp → VK → Prop} (h : ta σ H fun x H1 => r x H1 Q) : tUn r ta σ H Q := h
theorem rd_CB {r : List V → Hp → VK → Prop} (h : t σ H fun vs H1 => r vs H1 Q) : tCB r t σ H Q := h
theorem rd_nil {Q : List V → Hp → Prop} (q : Q [] H) : tNil σ H Q := q
theorem rd_cons {Q : List V → Hp → Prop} (h : ta σ H fun x H1 => t σ H1 fun xs H2 => Q (x :: xs) H2) : tCons ta t σ H Q := h
theorem rd_call {sp : Sp} {dvs : List V} {E : XK} (h : t σ H fun vs H1 => sp (vs ++ dvs) H1 Q E) : tCall sp dvs E t σ H Q := h
theorem rd_rI {C : Int → Int → Prop} {g : Int → Int → V} {i j : Int} (q : Q (g i j) H) (c : C i j) : rI C g (.int i) (.int j) H Q := ⟨i, j, rfl, rfl, c, q⟩
theorem rd_rI0 {g : Int → Int → V} {i j : Int} (q : Q (g i j) H) : rI0 g (.int i) (.int j) H Q := ⟨i, j, rfl, rfl, q⟩
theorem rd_rU {g : Int → V} {i : Int} (q : Q (g i) H) : rU g (.int i) H Q := ⟨i, rfl, q⟩
theorem rd_eq (s : scal x y = true) (q : Q (.bl (decide (x = y))) H) : rEq x y H Q := ⟨s, q⟩
theorem rd_ne (s : scal x y = true) (q : Q (.bl (!decide (x = y))) H) : rNe x y H Q := ⟨s, q⟩
theorem int_eq {i j : Int} : (V.int i = V.int j) = (i = j) := by simp
theorem rd_eqI {i j : Int} (q : Q (.bl (decide (i = j))) H) : rEq (.int i) (.int j) H Q := ⟨rfl, by simpa using q⟩
theorem rd_neI {i j : Int} (q : Q (.bl (!decide (i = j))) H) : rNe (.int i) (.int j) H Q := ⟨rfl, by simpa using q⟩
theorem rd_ixL {p : Addr} {xs : List V} {i : Int} {v : V} (h : H p = some (.lst xs)) (e : atI xs i = some v) (q : Q v H) : rIxL K (.ref p) (.int i) H Q := ⟨p, xs, i, v, rfl, rfl, .of h, e, q⟩
theorem rd_ixT {p : Addr} {xs : List V} {i : Int} {v : V} (h : H p = some (.tup xs)) (e : atI xs i = some v) (q : Q v H) : rIxT K (.ref p) (.int i) H Q := ⟨p, xs, i, v, rfl, rfl, .of h, e, q⟩
theorem rd_ixTp {K' : PySem.W.Frag} {p : Addr} {xs : List V} {i : Int} {v : V} (h : Tp K' H p xs) (hk : K' = K) (e : atI xs i = some v) (q : Q v H) : rIxT K (.ref p) (.int i) H Q := ⟨p, xs, i, v, rfl, rfl, hk ▸ h.sq, e, q⟩
theorem rd_setL {p : Addr} {xs : List V} {k : Int} {j : Nat} {Q : Hp → Prop} (h : H p = some (.lst xs)) (e : ixN xs.length k = some j) (q : Q (upd H p (.lst (xs.set j v)))) : rSetL (.ref p) (.int k) v H Q := ⟨p, xs, k, j, rfl, rfl, h, e, q⟩
theorem rd_gcd {a b : Int} (q : Q (.int ((Nat.gcd a.natAbs b.natAbs : Nat) : Int)) H) : rGcd [.int a, .int b] H Q := ⟨a, b, rfl, q⟩
theorem rd_bits (h : te σ H fun x H1 => ∃ i, x = .int i ∧ Q (.int (Builtin.Int.intBits i : Nat)) H1) : tBits te σ H Q := h
theorem rd_tup (h : t σ H fun xs H1 => xs.length ≤ sizeLine ∧ ∀ p, H1 p = none → Q (.ref p) (upd H1 p (.tup xs))) : tTup t σ H Q := h
theorem rd_lst (h : t σ H fun xs H1 => xs.length ≤ sizeLine ∧ ∀ p, H1 p = none → Q (.ref p) (upd H1 p (.lst xs))) : tLst t σ H Q := h
theorem rd_sl {r : V → Option Int → Option Int → Hp → VK → Prop} {tl th : TO} (h : te σ H fun x H1 => tl σ H1 fun l H2 => th σ H2 fun u H3 => r x l u H3 Q) : tSl r te tl th σ H Q := h
theorem rd_part {Q : Option Int → Hp → Prop} (h : te σ H fun x H1 => ∃ i, x = .int i ∧ Q (some i) H1) : tPart te σ H Q := h
theorem rd_nopart {Q : Option Int → Hp → Prop} (h : Q none H) : tNoPart σ H Q := h
theorem rd_slL {a : Addr} {xs : List V} {lo hi : Option Int} (h : SqL K H a xs) (q : ∀ p, H p = none → Q (.ref p) (upd H p (.lst (cutV xs lo hi)))) : rSlL K (.ref a) lo hi H Q := ⟨a, xs, rfl, h, q⟩
theorem rd_bm {T : String} {r : V → List V → Hp → VK → Prop} (h : te σ H fun x H1 => tyV K T x H1 ∧ t σ H1 fun xs H2 => r x xs H2 Q) : tBM K T r te t σ H Q := h
theorem rd_chain {r r' : R2} (h : ta σ H fun x H1 => tb σ H1 fun y H2 => r x y H2 fun z H3 => ∃ k, z = .bl k ∧ (if k = true then te σ H3 fun w' H4 => r' y w' H4 Q else Q (.bl false) H3)) : tChain r r' ta tb te σ H Q := h
theorem rd_andV (h : ta σ H fun x H1 => ∃ c, x = .bl c ∧ if c = true then tb σ H1 Q else Q (.bl false) H1) : tAndV ta tb σ H Q := h
theorem rd_orV (h : ta σ H fun x H1 => ∃ c, x = .bl c ∧ if c = true then Q (.bl true) H1 else tb σ H1 Q) : tOrV ta tb σ H Q := h
theorem rd_notV (h : ta σ H fun x H1 => ∃ c, x = .bl c ∧ Q (.bl (!c)) H1) : tNotV ta σ H Q := h
theorem rd_ifE {c : TT} (h : c σ H fun c H1 => if c = true then ta σ H1 Q else tb σ H1 Q) : tIf c ta tb σ H Q := h
section
variable {Q : Bool → Hp → Prop} {u u' : TT}
theorem rd_test (h : te σ H fun x H' => ∃ k, x = .bl k ∧ Q k H') : tTest te σ H Q := h
theorem rd_B (h : te σ H fun x H1 => ∃ c, x = .bl c ∧ Q c H1) : tB te σ H Q := h
theorem rd_not (h : u σ H fun c H1 => Q (!c) H1) : tNot u σ H Q := h
theorem rd_and (h : u σ H fun c H1 => if c = true then u' σ H1 Q else Q false H1) : tAnd u u' σ H Q := h
theorem rd_or (h : u σ H fun c H1 => if c = true then Q true H1 else u' σ H1 Q) : tOr u u' σ H Q := h
theorem rd_yes (q : Q true H) : tYes σ H Q := q
end
section
variable {s s' : TS} {g : TG} {gs : TGs}
theorem rd_seq (h : s { D with nx := s' D } σ H) : tSeq s s' D σ H := h
theorem rd_next (h : D.nx σ H) : tNext D σ H := h
theorem rd_drop (h : te σ H fun _ H1 => D.nx σ H1) : tDrop te D σ H := h
theorem rd_ret (h : te σ H D.rt) : tRet te D σ H := h
theorem rd_ifS {c : TT} (h : c σ H fun b H1 => if b = true then s D σ H1 else s' D σ H1) : tIfS c s s' D σ H := h
theorem rd_asg (h : te σ H fun x H1 => g x σ H1 D.nx) : tAsg te g D σ H := h
theorem rd_gName {Q : L2.St → Hp → Prop} (h : Q (σ.set i (some v)) H) : gName i v σ H Q := h
theorem rd_gSub {Q : L2.St → Hp → Prop} {ts : TSet} (h : ta σ H fun o H1 => tb σ H1 fun i H2 => ts o i v H2 fun H3 => Q σ H3) : gSub ta tb ts v σ H Q := h
theorem rd_gTup {Q : L2.St → Hp → Prop} {p : Addr} {xs : List V} {n : Nat} (h : H p = some (.tup xs)) (e : xs.length = n) (q : gs xs σ H Q) : gTup K n gs (.ref p) σ H Q := ⟨p, xs, rfl, .of h, e, q⟩
theorem rd_gTp {K' : PySem.W.Frag} {Q : L2.St → Hp → Prop} {p : Addr} {xs : List V} {n : Nat} (h : Tp K' H p xs) (hk : K' = K) (e : xs.length = n) (q : gs xs σ H Q) : gTup K n gs (.ref p) σ H Q := ⟨p, xs, rfl, hk ▸ h.sq, e, q⟩
theorem rd_gNil {Q : L2.St → Hp → Prop} (q : Q σ H) : gNil [] σ H Q := ⟨rfl, q⟩
theorem rd_gCons {Q : L2.St → Hp → Prop} {r : List V} (h : g v σ H fun σ' H' => gs r σ' H' Q) : gCons g gs (v :: r) σ H Q := ⟨v, r, rfl, h⟩
theorem rd_for {wi : TI} (h : wi σ H fun J H1 => ∃ W : Nat → Nat → L2.St → Hp → Prop, (∃ m, W 0 m σ H1) ∧ ∀ i m σ H, W i m σ H →
  (J.stop i H ∧ D.nx σ H) ∨ (J.go i H ∧ ∃ N : L2.St → Hp → Prop, (∀ σ' H', N σ' H' → ∃ m', m' < m ∧ W (i + 1) m' σ' H') ∧ ∀ x H', J.yld i H x H' → g x σ H' fun σ2 H2 => s { D with nx := N, ct := N, bk := D.nx } σ2 H2)) : tFor wi g s D σ H := h
theorem rd_rng1 {R : It → Hp → Prop} (h : t σ H fun vs H1 => ∃ j : Int, vs = [.int j] ∧ -(2 ^ 62) ≤ j ∧ j < 2 ^ 62 ∧ R (Itr 0 j.toNat) H1) : iRng1 t σ H R := h
theorem rd_itL {R : It → Hp → Prop} (h : te σ H fun x H1 => ∃ a, x = .ref a ∧ (∃ xs, SqL K H1 a xs) ∧ R (Itl K a) H1) : iList K te σ H R := h
theorem rd_itT {R : It → Hp → Prop} (h : te σ H fun x H1 => ∃ a, x = .ref a ∧ (∃ xs, SqT K H1 a xs) ∧ R (Itt K a) H1) : iTup K te σ H R := h
end
theorem if_T {p : Prop} [Decidable p] {A B : Prop} (hp : p) (h : A) : if decide p = true then A else B := by
  rw [if_pos (decide_eq_true hp)]
  exact h
theorem if_F {p : Prop} [Decidable p] {A B : Prop} (hp : ¬ p) (h : B) : if decide p = true then A else B := by
  rw [if_neg (fun q => hp (of_decide_eq_true q))]
  exact h
theorem if_nF {p : Prop} [Decidable p] {A B : Prop} (hp : p) (h : B) : if (!decide p) = true then A else B := by
  rw [decide_eq_true hp]
  exact iteF h
theorem if_nT {p : Prop} [Decidable p] {A B : Prop} (hp : ¬ p) (h : A) : if (!decide p) = true then A else B := by
  rw [decide_eq_false hp]
  exact iteT h
theorem ite_nt {A B : Prop} (h : B) : if (!true) = true then A else B := iteF h
theorem ite_nf {A B : Prop} (h : A) : if (!false) = true then A else B := iteT h
theorem rd_len {xs : List V} {R : Prop} (q : R) (h : xs.length.ble sizeLine = true) : xs.length ≤ sizeLine ∧ R := ⟨Nat.le_of_ble_eq_true h, q⟩
theorem rd_lenL {p : Addr} {xs : List V} (q : Q (.int xs.length) H) (h : H p = some (.lst xs)) : rLen K [.ref p] H Q := ⟨p, xs, rfl, .inl (.of h), q⟩
theorem rd_lenS {p : Addr} {xs : List V} (q : Q (.int xs.length) H) (h : SqL K H p xs) : rLen K [.ref p] H Q := ⟨p, xs, rfl, .inl h, q⟩
theorem rd_lenT {p : Addr} {xs : List V} (q : Q (.int xs.length) H) (h : H p = some (.tup xs)) : rLen K [.ref p] H Q := ⟨p, xs, rfl, .inr (.of h), q⟩
theorem rd_lenTp {K' : PySem.W.Frag} {p : Addr} {xs : List V} (q : Q (.int xs.length) H) (h : Tp K' H p xs) (hk : K' = K) : rLen K [.ref p] H Q := ⟨p, xs, rfl, .inr (hk ▸ h.sq), q⟩
theorem rd_int {i : Int} (q : Q (.int i) H) : rInt [.int i] H Q := .inl ⟨i, rfl, q⟩
theorem rd_intB {k : Bool} (q : Q (.int (if k then 1 else 0)) H) : rInt [.bl k] H Q := .inr ⟨k, rfl, q⟩
theorem rd_abs {i : Int} (q : Q (.int (i.natAbs : Nat)) H) : rAbs [.int i] H Q := ⟨i, rfl, by
  have e : (if i < 0 then -i else i) = (i.natAbs : Int) := by split <;> omega
  rw [e]
  exact q⟩
theorem rd_min {i j : Int} (q : Q (.int (min i j)) H) : rMin [.int i, .int j] H Q := ⟨i, j, rfl, by
  have e : (if j < i then j else i) = min i j := by split <;> omega
  rw [e]
  exact q⟩
theorem rd_neB {a b : Bool} (q : Q (.bl (!decide (a = b))) H) : rNe (.bl a) (.bl b) H Q := ⟨rfl, by simpa using q⟩
theorem rd_eqB {a b : Bool} (q : Q (.bl (decide (a = b))) H) : rEq (.bl a) (.bl b) H Q := ⟨rfl, by simpa using q⟩
theorem rd_neS {a b : Str} (q : Q (.bl (!decide (a = b))) H) : rNe (.str a) (.str b) H Q := ⟨rfl, by simpa using q⟩
theorem rd_eqS {a b : Str} (q : Q (.bl (decide (a = b))) H) : rEq (.str a) (.str b) H Q := ⟨rfl, by simpa using q⟩
theorem rd_isBl {a b : Bool} (q : Q (.bl (decide (a = b))) H) : rIsB (.bl a) (.bl b) H Q := ⟨a, b, rfl, rfl, q⟩
end
end My
namespace My
open PySem PySem.Spec PyProof.Rows L2
theorem rd_lc {wi : TI} {g : TG} {tt : TT} {te : TE} {vs : List Nat} {σ : L2.St} {H : Hp} {Q : VK} (h : wi σ H fun J H1 => ∀ D, H1 D = none → ∃ W : Nat → Nat → Hp → Prop, (∃ m, W 0 m (upd H1 D (.lst []))) ∧ ∀ i m H, W i m H →
  (J.stop i H ∧ Q (.ref D) H) ∨ (J.go i H ∧ ∃ Nx : Hp → Prop, (∀ H', Nx H' → ∃ m', m' < m ∧ W (i + 1) m' H') ∧ ∀ x H', J.yld i H x H' → g x (wipe σ vs) H' fun σ2 H2 => wipe σ2 vs = wipe σ vs ∧ tt σ2 H2 fun b H3 =>
    if b = true then te σ2 H3 fun y H4 => ∃ acc, H4 D = some (.lst acc) ∧ acc.length < sizeLine ∧ Nx (upd H4 D (.lst (acc ++ [y]))) else Nx H3)) : tLc wi g tt te vs σ H Q := h
theorem cut_all {xs : List V} {n : Nat} (h : xs.length ≤ n) : cutV xs none (some (n : Int)) = xs := by
  unfold cutV
  rw [HT.sIx_none, HT.sIx_nat, List.drop_zero]
  exact List.take_of_length_le (by omega)
theorem take_succ_map {ns : List Int} {i : Nat} {x : V} (h : (ns.map V.int)[i]? = some x) : ∃ z, x = .int z ∧ z ∈ ns ∧ (ns.take (i + 1)).map V.int = (ns.take i).map V.int ++ [x] := by
  rw [List.getElem?_map] at h
  cases e : ns[i]? with
  | none =>
    rw [e] at h
    cases h
  | some z =>
    rw [e] at h
    have hx : x = .int z := (Option.some.inj h).symm
    refine ⟨z, hx, List.mem_of_getElem? e, ?_⟩
    rw [List.take_add_one, e, List.map_append, hx]
    rfl
/-! ### list.count of flags -/
def eqb (k : Bool) (v : Value) : Bool := match v with
  | .bool b => b == k
  | _ => false
theorem eqb_at {A : Around} {s : Shared} {k : Bool} : ∀ {us : List Value} {bs : List Bool}, Vals (bs.map V.bl) us → ∀ y ∈ us, SeqAt.EqAt A s y (.bool k) (eqb k y)
  | [], bs, r => fun y hy => nomatch hy
  | u :: us, [], r => nomatch r
  | u :: us, b :: bs, r => fun y hy => by
    cases r with
    | cons r1 r2 =>
      rcases List.mem_cons.mp hy with e | e
      · rw [e]
        cases (show u = Value.bool b from r1)
        exact SeqAt.EqAt.bool_bool b k
      · exact eqb_at r2 y e
theorem eqb_count {k : Bool} : ∀ {us : List Value} {bs : List Bool}, Vals (bs.map V.bl) us → us.countP (eqb k) = bs.count k
  | [], [], _ => rfl
  | [], b :: bs, r => nomatch r
  | u :: us, [], r => nomatch r
  | u :: us, b :: bs, r => by
    cases r with
    | cons r1 r2 =>
      cases (show u = Value.bool b from r1)
      rw [List.countP_cons, List.count_cons, eqb_count r2] <;> rfl
def rCntB (K : PySem.W.Frag) : V → List V → Hp → VK → Prop := fun x xs H Q => ∃ (p : Addr) (bs : List Bool) (k : Bool), x = .ref p ∧ xs = [.bl k] ∧ SqL K H p (bs.map V.bl) ∧ Q (.int (bs.count k : Nat)) H
theorem mt_bcount {X : Cx} : MtR X "list.count" (rCntB X.K) := by
  intro pins s σ H x xs v us Q I rx rxs h
  obtain ⟨p, bs, k, rfl, rfl, hs, q⟩ := h
  cases rx
  obtain ⟨u, rfl, ru⟩ := rxs.one
  cases (show u = Value.bool k from ru)
  obtain ⟨its, rv, ⟨⟨cls, dd, data, sl⟩, n, ho, hc, hdn, hd⟩, hlen⟩ := I.list hs
  simp only at hc hd
  subst hc hd
  refine call_meets PySem.F.slot_list_count ⟨_, ho, rfl⟩ PySem.F.entry_list_count (PySem.F.args_list_count_2 _ _)
    (SeqAt.list_countAt p its.toArray n dd sl (.bool k) (eqb k)) ⟨ho, fun y hy => eqb_at rv y (by simpa using hy), ?_⟩
  have ec : its.toArray.toList.countP (eqb k) = bs.count k := eqb_count rv
  refine ⟨.int (bs.count k : Nat), H, I.tok _, ⟨s.toks, ?_⟩, q⟩
  show Value.int ((its.toArray.toList.countP (eqb k) : Nat) : Int) s.toks = Value.int ((bs.count k : Nat) : Int) s.toks
  rw [ec]
/-! ### greatest common divisors by remainders -/
structure Euc (G b i : Nat) (x y : Nat) : Prop where
  g : x.gcd y = G
  h : y * 2 ^ (i / 2) ≤ b
  m : i ≠ 0 → y < x ∧ x * 2 ^ ((i - 1) / 2) ≤ b
theorem Euc.step {G b i x y : Nat} (e : Euc G b i x y) (hy : y ≠ 0) : Euc G b (i + 1) y (x % y) := by
  have lt : x % y < y := Nat.mod_lt _ (by omega)
  refine ⟨?_, ?_, fun _ => ⟨lt, ?_⟩⟩
  · rw [← e.g, Nat.gcd_comm x y, Nat.gcd_comm y (x % y)]
    exact (Nat.gcd_rec y x).symm
  · rcases Nat.mod_two_eq_zero_or_one i with p | p
    · have q : (i + 1) / 2 = i / 2 := by omega
      rw [q]
      exact Nat.le_trans (Nat.mul_le_mul_right _ (Nat.le_of_lt lt)) e.h
    · have q : (i + 1) / 2 = (i - 1) / 2 + 1 := by omega
      obtain ⟨m1, m2⟩ := e.m (by omega)
      have half : 2 * (x % y) ≤ x := by
        have d := Nat.div_add_mod x y
        have dp : 1 ≤ x / y := Nat.div_pos (Nat.le_of_lt m1) (by omega)
        have : y ≤ y * (x / y) := Nat.le_mul_of_pos_right y dp
        omega
      rw [q, Nat.pow_succ]
      calc x % y * (2 ^ ((i - 1) / 2) * 2) = (2 * (x % y)) * 2 ^ ((i - 1) / 2) := by rw [Nat.mul_comm (2 ^ _) 2, ← Nat.mul_assoc, Nat.mul_comm (x % y) 2]
        _ ≤ x * 2 ^ ((i - 1) / 2) := Nat.mul_le_mul_right _ half
        _ ≤ b := m2
  · have q : (i + 1 - 1) / 2 = i / 2 := by omega
    rw [q]
    exact e.h
theorem Euc.done {G b k x y : Nat} (e : Euc G b (2 * k + 2) x y) (hb : b < 2 ^ k) : y = 0 ∧ x = G := by
  have h := e.h
  have q : (2 * k + 2) / 2 = k + 1 := by omega
  rw [q] at h
  have hy : y = 0 := by
    rcases Nat.eq_zero_or_pos y with z | z
    · exact z
    · have p : 2 ^ (k + 1) ≤ y * 2 ^ (k + 1) := Nat.le_mul_of_pos_left _ z
      rw [Nat.pow_succ] at p
      have : 0 < 2 ^ k := Nat.two_pow_pos k
      rw [Nat.pow_succ] at h
      omega
  have g := e.g
  rw [hy, Nat.gcd_zero_right] at g
  exact ⟨hy, g⟩
end My
namespace My
open PySem PySem.Spec PyProof.Rows L2
theorem cdv {j : Int} (h : 0 < j) (hb : j.natAbs < 2 ^ 8000) (i : Int) : CDivX i j := cdivx (by omega) hb (by decide)
theorem cmx {i j : Int} (h1 : i.natAbs < 2 ^ 20000) (h2 : j.natAbs < 2 ^ 20000) : CMulX i j := mulx_ok h1 h2 (by decide)
theorem div_nat (a b : Nat) : (a : Int).fdiv (b : Int) = ((a / b : Nat) : Int) := by
  rw [Int.fdiv_eq_ediv_of_nonneg _ (by omega), Int.natCast_ediv]
theorem p45 {n : Nat} (h : n < 2 ^ 8000) : n < 2 ^ 8000 := Nat.lt_of_lt_of_le h (pow_le (by decide))
theorem p46 {n : Nat} (h : n < 2 ^ 8000) : n < 2 ^ 20000 := Nat.lt_of_lt_of_le h (pow_le (by decide))
theorem added_math {r s : Rat} (hr : Bd 8000 r) (hs : Bd 8000 s) : ∀ g top sh : Int, g = ((Nat.gcd (r.den : Int).natAbs (s.den : Int).natAbs : Nat) : Int) → top = r.num * (s.den : Int).fdiv g + s.num * (r.den : Int).fdiv g →
    sh = ((Nat.gcd top.natAbs g.natAbs : Nat) : Int) → (∀ i, CDivX i g) ∧ CMulX r.num ((s.den : Int).fdiv g) ∧ CMulX s.num ((r.den : Int).fdiv g) ∧ (∀ i, CDivX i sh) ∧ CMulX ((r.den : Int).fdiv g) ((s.den : Int).fdiv sh) ∧
      (r + s).num = top.fdiv sh ∧ ((r + s).den : Int) = (r.den : Int).fdiv g * (s.den : Int).fdiv sh := by
  intro g top sh hg ht hsh
  have hd := r.den_pos
  have hs' := s.den_pos
  rw [Int.natAbs_natCast, Int.natAbs_natCast] at hg
  have gpos : 0 < r.den.gcd s.den := Nat.gcd_pos_of_pos_left _ hd
  have gle : r.den.gcd s.den ≤ r.den := Nat.gcd_le_left _ hd
  have gna : g.natAbs = r.den.gcd s.den := by rw [hg, Int.natAbs_natCast]
  have shpos : 0 < top.natAbs.gcd (r.den.gcd s.den) := Nat.gcd_pos_of_pos_right _ gpos
  have shle : top.natAbs.gcd (r.den.gcd s.den) ≤ r.den.gcd s.den := Nat.gcd_le_right _ gpos
  rw [gna] at hsh
  have hr2 := hr.2
  have hs2 := hs.2
  have e1 : (s.den : Int).fdiv g = ((s.den / r.den.gcd s.den : Nat) : Int) := by rw [hg, div_nat]
  have e2 : (r.den : Int).fdiv g = ((r.den / r.den.gcd s.den : Nat) : Int) := by rw [hg, div_nat]
  have l1 : s.den / r.den.gcd s.den ≤ s.den := Nat.div_le_self _ _
  have l2 : r.den / r.den.gcd s.den ≤ r.den := Nat.div_le_self _ _
  have form := add_form r s (r.den.gcd s.den) (r.den / r.den.gcd s.den) (s.den / r.den.gcd s.den) top (top.natAbs.gcd (r.den.gcd s.den)) rfl rfl rfl (by rw [ht, e1, e2]) rfl
  have e3 : (s.den : Int).fdiv sh = ((s.den / top.natAbs.gcd (r.den.gcd s.den) : Nat) : Int) := by rw [hsh, div_nat]
  have l3 : s.den / top.natAbs.gcd (r.den.gcd s.den) ≤ s.den := Nat.div_le_self _ _
  refine ⟨cdv (by omega) (by rw [gna]; exact p45 (by omega)), ?_, ?_, cdv (by omega) ?_, ?_, ?_, ?_⟩
  · rw [e1]
    exact cmx (p46 hr.1) (by rw [Int.natAbs_natCast]; exact p46 (by omega))
  · rw [e2]
    exact cmx (p46 hs.1) (by rw [Int.natAbs_natCast]; exact p46 (by omega))
  · rw [hsh, Int.natAbs_natCast]
    exact p45 (by omega)
  · rw [e2, e3]
    exact cmx (by rw [Int.natAbs_natCast]; exact p46 (by omega)) (by rw [Int.natAbs_natCast]; exact p46 (by omega))
  · rw [form.1, hsh, Int.fdiv_eq_ediv_of_nonneg _ (by omega)]
  · rw [form.2, e2, e3, Int.natCast_mul]
theorem mul_math {r s : Rat} (hr : Bd 8000 r) (hs : Bd 8000 s) : ∀ a b : Int, a = ((Nat.gcd r.num.natAbs (s.den : Int).natAbs : Nat) : Int) → b = ((Nat.gcd s.num.natAbs (r.den : Int).natAbs : Nat) : Int) →
    (∀ i, CDivX i a) ∧ (∀ i, CDivX i b) ∧ CMulX (r.num.fdiv a) (s.num.fdiv b) ∧ CMulX ((r.den : Int).fdiv b) ((s.den : Int).fdiv a) ∧
      (r * s).num = r.num.fdiv a * s.num.fdiv b ∧ ((r * s).den : Int) = (r.den : Int).fdiv b * (s.den : Int).fdiv a := by
  intro a b ha hb
  rw [Int.natAbs_natCast] at ha hb
  have hd := r.den_pos
  have hs' := s.den_pos
  have ap : 0 < r.num.natAbs.gcd s.den := Nat.gcd_pos_of_pos_right _ hs'
  have bp : 0 < s.num.natAbs.gcd r.den := Nat.gcd_pos_of_pos_right _ hd
  have al : r.num.natAbs.gcd s.den ≤ s.den := Nat.gcd_le_right _ hs'
  have bl : s.num.natAbs.gcd r.den ≤ r.den := Nat.gcd_le_right _ hd
  have da : a ∣ r.num := by rw [ha]; exact Int.ofNat_dvd_left.mpr (Nat.gcd_dvd_left ..)
  have db : b ∣ s.num := by rw [hb]; exact Int.ofNat_dvd_left.mpr (Nat.gcd_dvd_left ..)
  have hr2 := hr.2
  have hs2 := hs.2
  obtain ⟨f1, f2⟩ := mul_form r s _ _ rfl rfl
  have e1 : r.num.fdiv a = r.num / a := fdiv_dvd da
  have e2 : s.num.fdiv b = s.num / b := fdiv_dvd db
  have e3 : (r.den : Int).fdiv b = ((r.den / s.num.natAbs.gcd r.den : Nat) : Int) := by rw [hb, div_nat]
  have e4 : (s.den : Int).fdiv a = ((s.den / r.num.natAbs.gcd s.den : Nat) : Int) := by rw [ha, div_nat]
  have l3 : r.den / s.num.natAbs.gcd r.den ≤ r.den := Nat.div_le_self _ _
  have l4 : s.den / r.num.natAbs.gcd s.den ≤ s.den := Nat.div_le_self _ _
  have n1 : (r.num / a).natAbs ≤ r.num.natAbs := by
    rw [Int.natAbs_ediv_of_dvd da]
    exact Nat.div_le_self _ _
  have n2 : (s.num / b).natAbs ≤ s.num.natAbs := by
    rw [Int.natAbs_ediv_of_dvd db]
    exact Nat.div_le_self _ _
  have hr1 := hr.1
  have hs1 := hs.1
  refine ⟨cdv (by omega) (by rw [ha, Int.natAbs_natCast]; exact p45 (by omega)), cdv (by omega) (by rw [hb, Int.natAbs_natCast]; exact p45 (by omega)), ?_, ?_, ?_, ?_⟩
  · rw [e1, e2]
    exact cmx (p46 (by omega)) (p46 (by omega))
  · rw [e3, e4]
    exact cmx (by rw [Int.natAbs_natCast]; exact p46 (by omega)) (by rw [Int.natAbs_natCast]; exact p46 (by omega))
  · rw [f1, e1, e2, ha, hb]
  · rw [f2, e3, e4, Int.natCast_mul]
end My
namespace My
open PySem PySem.Spec PyProof.Rows L2
theorem low_math {n b : Int} (hb : 0 < b) (hl : b.natAbs < 2 ^ 8000) : ∀ g : Int, g = ((n.natAbs.gcd b.natAbs : Nat) : Int) → (∀ i, CDivX i g) ∧ (Rat.divInt n b).num = n.fdiv g ∧ ((Rat.divInt n b).den : Int) = b.fdiv g := by
  rintro g rfl
  have gp : 0 < n.natAbs.gcd b.natAbs := Nat.gcd_pos_of_pos_right _ (by omega)
  have gl : n.natAbs.gcd b.natAbs ≤ b.natAbs := Nat.gcd_le_right _ (by omega)
  obtain ⟨e1, e2⟩ := low_form n b (by omega)
  rw [if_neg (by omega)] at e1 e2
  refine ⟨cdv (by omega) (by rw [Int.natAbs_natCast]; omega), ?_, ?_⟩
  · rw [e1, fdiv_dvd (Int.ofNat_dvd_left.mpr (Nat.gcd_dvd_left ..))]
  · rw [e2, fdiv_dvd (Int.ofNat_dvd_left.mpr (Nat.gcd_dvd_right ..))]
theorem sign_na {t r : Int} (a : 0 ≤ r) (b : r < 2) : (t * (1 - 2 * r)).natAbs = t.natAbs := by
  have h : r = 0 ∨ r = 1 := by omega
  rcases h with rfl | rfl
  · simp
  · rw [Int.natAbs_mul]
    simp
end My
namespace My
open PySem PySem.Spec PyProof.Rows L2
/-! ### an own error class without __init__, made without arguments -/
abbrev veChain : List Value := [.type "ValueError", .type "Exception", .type "BaseException", .type "object"]
theorem pmk_own0 {X : Cx} {C : Addr} {bmB : List Value} {B newId initId : String} {x : Str} {p pos : Pos} (F : ExcBaseFacts B newId initId bmB) (q : PySem.W.excIn X.K C bmB newId = true) (gC : X.mg x = some (.ref C))
    (kC : PySem.W.keepIn X.K (.ref C) = true) (r : Raises X (.ref C)) (hg : Gl X x) (hdb : (x == ("__debug__" : Str)) = false := by decide) :
    PMk X (.Call (.Name x p) [] [] pos) (fun _ H Q => Q (.ref C) none H) := by
  intro pins s σ H Q I h
  refine wpAny_Call_Name_kw (ld_glob I hg gC ?_ hdb)
  refine PySem.W.callWith_K0 I.kIn kC ?_
  show wpAny _ _ (call (.ref C) []) _ _ _
  obtain ⟨hp, g, d, t, os⟩ := s
  obtain ⟨bm, N, nm, qn, bs, hdct, sn, sub, ab, col, dd, k0, k1, k2, k3, k5, mN, hC, hN, hni, T⟩ := exc_obj I.kIn q
  refine wpAny_call_exc_subT F T hC hN hni (fun h' e hm => ?_) (Nat.zero_le _)
  exact mk_of I hm r h (I.hok.gone hm.new)
/-- what the top holds of such a class -/
structure ExC (K : PySem.W.Frag) (mg : Str → Option Value) (x : Str) (C : Addr) : Prop where
  g : mg x = some (.ref C)
  ex : PySem.W.excIn K C veChain "ValueError.__new__" = true
  kp : PySem.W.keepIn K (.ref C) = true
  be : PySem.W.subIn K (.ref C) (.type "BaseException") = some true
  ty : PySem.W.typeIn K (.ref C) = some (.type "type")
  ic : PySem.W.isClsIn K C = true
  sf : PySem.W.subIn K (.ref C) (.ref C) = some true
theorem exm_sub {K : PySem.W.Frag} {C S : Addr} {b : Bool} (h1 : PySem.W.subIn K (.ref S) (.type "BaseException") = some true) (h2 : PySem.W.isClsIn K S = true) (h3 : PySem.W.typeIn K (.ref S) = some (.type "type")) (h4 : PySem.W.subIn K (.ref C) (.ref S) = some b) :
    PySem.W.exmOne K (.ref C) (.ref S) = some b := by
  have e1 : (PySem.W.subIn K (.ref S) (.type "BaseException") == some true) = true := by rw [h1] <;> rfl
  have e2 : ((PySem.W.clsIn K S).isSome && PySem.W.typeIn K (.ref S) == some (.type "type")) = true := by
    have h2' : (PySem.W.clsIn K S).isSome = true := h2
    rw [h2', h3] <;> rfl
  show (if (PySem.W.subIn K (.ref S) (.type "BaseException") == some true) = true then (if ((PySem.W.clsIn K S).isSome && PySem.W.typeIn K (.ref S) == some (.type "type")) = true then PySem.W.subIn K (.ref C) (.ref S) else none) else none) = some b
  rw [if_pos e1, if_pos e2]
  exact h4
theorem ExC.te {K : PySem.W.Frag} {mg : Str → Option Value} {x : Str} {C : Addr} (e : ExC K mg x C) : PySem.W.exmOne K (.ref C) (.ref C) = some true := exm_sub e.be e.ic e.ty e.sf
/-- raise X() -/
theorem ps_raise0 {X : Cx} {W : WX} {C : Addr} {x : Str} {p pos pos2 : Pos} (hc : X.calm = true) (e : ExC X.K X.mg x C) (tk : Takes X W) (hg : Gl X x := by rfl) (hdb : (x == ("__debug__" : Str)) = false := by decide) :
    PS X (.Raise (some (.Call (.Name x p) [] [] pos)) none pos2) (fun _ σ H => W (.ref C) none σ H) :=
  ps_raise hc tk (pmk_own0 PySem.F.excBase_ValueError e.ex e.g e.kp (raises_own e.be e.ty) hg hdb)
theorem rd_callS {sp : Sp} {E : L2.St → XK} {t : TA} {σ : L2.St} {H : Hp} {Q : VK} (h : t σ H fun vs H1 => sp vs H1 Q (E σ)) : tCallS sp E t σ H Q := h
theorem rd_newK {σ : L2.St} {H : Hp} {Q : VK} (h : ∀ p, H p = none → Q (.ref p) (upd H p (.dK []))) : tDNewK σ H Q := h
theorem at_any {xs : List V} {i : Int} (h0 : 0 ≤ i) (h1 : i < (xs.length : Nat)) : ∃ v, v ∈ xs ∧ atI xs i = some v := by
  obtain ⟨j, rfl⟩ := Int.eq_ofNat_of_zero_le h0
  have hj : j < xs.length := by omega
  exact ⟨xs[j], List.getElem_mem hj, atI_nat (List.getElem?_eq_getElem hj)⟩
/-! ### things that are no integers -/
inductive Odd (D : Addr) (H : Hp) : V → Prop where
  | non : Odd D H .non
  | bl (b : Bool) : Odd D H (.bl b)
  | str (s : Str) : Odd D H (.str s)
  | lst {p : Addr} {xs : List V} (n : p ≠ D) (h : H p = some (.lst xs)) : Odd D H (.ref p)
  | tup {p : Addr} {xs : List V} (n : p ≠ D) (h : H p = some (.tup xs)) : Odd D H (.ref p)
  | dK {p : Addr} {kvs : List (Key × V)} (n : p ≠ D) (h : H p = some (.dK kvs)) : Odd D H (.ref p)
theorem Odd.fw {D : Addr} {H H' : Hp} {v : V} (o : Odd D H v) (f : Fw D H H') : Odd D H' v := by
  cases o with
  | non => exact .non
  | bl b => exact .bl b
  | str s => exact .str s
  | lst n h => exact .lst n (f _ _ n h)
  | tup n h => exact .tup n (f _ _ n h)
  | dK n h => exact .dK n (f _ _ n h)
theorem Odd.isi {D : Addr} {H : Hp} {v : V} (o : Odd D H v) (K : PySem.W.Frag) : ∃ b1 b2 : Bool, (b1 && !b2) = false ∧ (∀ Q : VK, Q (.bl b1) H → rIsi K [v, .ty "int"] H Q) ∧ (∀ Q : VK, Q (.bl b2) H → rIsi K [v, .ty "bool"] H Q) := by
  cases o with
  | non => exact ⟨false, false, rfl, fun Q q => ⟨_, _, _, _, _, rfl, .ty _, .base .non, kit_ty (by decide +kernel), q⟩, fun Q q => ⟨_, _, _, _, _, rfl, .ty _, .base .non, kit_ty (by decide +kernel), q⟩⟩
  | bl b => exact ⟨true, true, rfl, fun Q q => ⟨_, _, _, _, _, rfl, .ty _, .base (.bl _), kit_ty (by decide +kernel), q⟩, fun Q q => ⟨_, _, _, _, _, rfl, .ty _, .base (.bl _), kit_ty (by decide +kernel), q⟩⟩
  | str s => exact ⟨false, false, rfl, fun Q q => ⟨_, _, _, _, _, rfl, .ty _, .base (.str _), kit_ty (by decide +kernel), q⟩, fun Q q => ⟨_, _, _, _, _, rfl, .ty _, .base (.str _), kit_ty (by decide +kernel), q⟩⟩
  | lst n h => exact ⟨false, false, rfl, fun Q q => ⟨_, _, _, _, _, rfl, .ty _, .base (.lst h), kit_ty (by decide +kernel), q⟩, fun Q q => ⟨_, _, _, _, _, rfl, .ty _, .base (.lst h), kit_ty (by decide +kernel), q⟩⟩
  | tup n h => exact ⟨false, false, rfl, fun Q q => ⟨_, _, _, _, _, rfl, .ty _, .base (.tup h), kit_ty (by decide +kernel), q⟩, fun Q q => ⟨_, _, _, _, _, rfl, .ty _, .base (.tup h), kit_ty (by decide +kernel), q⟩⟩
  | dK n h => exact ⟨false, false, rfl, fun Q q => ⟨_, _, _, _, _, rfl, .ty _, .base (.dK h), kit_ty (by decide +kernel), q⟩, fun Q q => ⟨_, _, _, _, _, rfl, .ty _, .base (.dK h), kit_ty (by decide +kernel), q⟩⟩
end My
namespace My
open PySem PySem.Spec PyProof.Rows L2
/-! ### for i, x in enumerate(t), t a tuple -/
section
variable {prog : Program} {w : World} {A : Around} {E : Value → Shared → Prop} {s : Shared}
theorem tupNext {it t : Addr} {i : Nat} {its : Array Value} {x : Value} {Q : Value → Shared → Prop} (h1 : IsTupIter s.heap it t i) (h2 : IsTup s.heap t its) (hx : its[i]? = some x)
    (q : ∀ h', IsTupIter h' it t (i + 1) → Heap.SameBut it s.heap h' → Q x { s with heap := h' }) : wpAny (model prog w) A (Builtin.SmallTypes.nextOf (.ref it)) Q E s := by
  unfold Builtin.SmallTypes.nextOf
  exact wpAny_bind (special_tup_item h1 h2 hx fun h' a b => wpAny_pure (q h' a b))
theorem tupNo {it t : Addr} {i : Nat} {its : Array Value} {Q : Value → Shared → Prop} (hh : A.handled = none) (h1 : IsTupIter s.heap it t i) (h2 : IsTup s.heap t its) (hx : its[i]? = none)
    (q : ∀ h' e, Heap.ExtBut it s.heap h' → (∃ o, h'.get? e = some o ∧ o.cls = .type "StopIteration") → E (.ref e) { s with heap := h' }) : wpAny (model prog w) A (Builtin.SmallTypes.nextOf (.ref it)) Q E s := by
  unfold Builtin.SmallTypes.nextOf
  refine wpAny_bind (special_tup_end hh h1 h2 hx fun e h' sx eb => ?_)
  obtain ⟨a, o, vs, rfl, ho, hc, _⟩ := sx
  exact q h' a eb ⟨o, ho, hc⟩
theorem tupDraws {it t : Addr} {its : Array Value} (hh : A.handled = none) (ne : t ≠ it) : Draws prog w A it [it, t] its.size (fun i x => its[i]? = some x) (fun i h => IsTupIter h it t i ∧ IsTup h t its) where
  live := fun i h st => by
    obtain ⟨⟨o, ho, _⟩, _⟩ := st
    exact ⟨o, ho⟩
  frame := fun i h h' st k => by
    obtain ⟨⟨o, ho, r⟩, ⟨o2, ho2, r2⟩⟩ := st
    exact ⟨⟨o, k it (by simp) o ho, r⟩, ⟨o2, k t (by simp) o2 ho2, r2⟩⟩
  item := fun i s Q E hi st q => tupNext st.1 st.2 (x := its[i]) (by simp [hi]) fun h' a b => q _ h' s.toks (by simp [hi]) ⟨a, st.2.extBut b.extBut ne⟩ b
  done := fun s Q E st q => tupNo hh st.1 st.2 (by simp) q
theorem newEnumT (t : Addr) (its : Array Value) (n : Nat) (dct : Option Addr) (sl : Array (Option Value)) :
    Meets (Builtin.«enumerate.__new__» ⟨[.type "enumerate", .ref t], []⟩) (fun _ R s => s.heap.get? t = some { cls := .type "tuple", dict := dct, data := .seq its n, slots := sl } ∧
      R (.ok (.ret (.ref (s.heap.push { cls := .type "tuple_iterator", data := .fields #[.ref t, .int 0 0] }).objs.size)))
        { s with heap := (s.heap.push { cls := .type "tuple_iterator", data := .fields #[.ref t, .int 0 0] }).push { cls := .type "enumerate", data := .fields #[.none, .bool false, .ref s.heap.objs.size, rawInt 0, .none, .none] } }) :=
  Meets.of_wp fun prog w A R s h => by
    obtain ⟨hp, g, d, tk, os⟩ := s
    obtain ⟨ht, hR⟩ := h
    have hsub := sub_enumerate
    have hT : IsTup (Shared.heap ⟨hp, g, d, tk, os⟩) t its := ⟨_, ht, rfl, n, rfl⟩
    wp_walk using AutoSeq1.wpAny_loadPart' ht
    refine wpAny_stack_any (fun st => wpAny_pure ?_)
    split
    · rename_i c _ _ _ _ _
      cases (c == Value.type "enumerate") <;> (wp_walk using AutoSeq1.wpAny_loadPart' ht, iter_tuple hT; exact ⟨_, rfl, hR⟩)
    · wp_walk using AutoSeq1.wpAny_loadPart' ht, iter_tuple hT
      exact ⟨_, rfl, hR⟩
theorem callEnumT {t : Addr} {its : Array Value} {Q : Value → Shared → Prop} (hT : IsTup s.heap t its)
    (q : ∀ h', IsEnum h' (s.heap.objs.size + 1) s.heap.objs.size 0 .none → IsTupIter h' s.heap.objs.size t 0 → (∀ b o, s.heap.get? b = some o → h'.get? b = some o) → Q (.ref (s.heap.objs.size + 1)) { s with heap := h' }) :
    wpAny (model prog w) A (call (.type "enumerate") [.ref t]) Q E s := by
  obtain ⟨⟨c, dct, dt, sl⟩, ht, hc, n, hd⟩ := hT
  simp only at hc hd
  subst hc hd
  refine callType_new F.called_enumerate (by decide) (F.typeCall_enumerate_1 _) (F.newCall_enumerate_1 _) (fun obj => F.args_object_init_2 obj _) F.entry_enumerate_new (newEnumT t its n dct sl) ⟨ht, ?_⟩
  generalize hh1 : s.heap.push { cls := .type "tuple_iterator", data := .fields #[.ref t, .int 0 0] } = h1
  have z1 : h1.objs.size = s.heap.objs.size + 1 := by rw [← hh1, Heap.size_push]
  have k1 : ∀ b o, s.heap.get? b = some o → h1.get? b = some o := fun b o e => by rw [← hh1]; exact Heap.get?_push_of_some _ e
  have i1 : h1.get? s.heap.objs.size = some { cls := .type "tuple_iterator", data := .fields #[.ref t, .int 0 0] } := by rw [← hh1]; exact Heap.get?_push_size _ rfl
  show _ ∧ _
  rw [z1]
  have e1 := Heap.get?_push_size h1 (o := { cls := .type "enumerate", data := .fields #[.none, .bool false, .ref s.heap.objs.size, rawInt 0, .none, .none] }) rfl
  rw [z1] at e1
  exact ⟨⟨_, e1, rfl⟩, q _ e1 ⟨_, Heap.get?_push_of_some _ i1, rfl, rfl⟩ fun b o e => Heap.get?_push_of_some _ (k1 b o e)⟩
end
def IteT (K : PySem.W.Frag) (a : Addr) : It :=
  ⟨fun i H => ∃ (xs : List V) (x : V), SqT K H a xs ∧ xs[i]? = some x, fun i H v H' => ∃ T x, v = .ref T ∧ H T = none ∧ H' = upd H T (.tup [.int (i : Nat), x]) ∧ ∀ xs, SqT K H a xs → xs[i]? = some x, fun i H => ∃ xs : List V, SqT K H a xs ∧ xs.length = i⟩
theorem turnEnumT {P : Program} {w : World} {K : PySem.W.Frag} {elts : List Expr} {kk : Nat} {tpos : Pos} (a e it : Addr) :
    Turn P w K (.Tuple elts kk tpos) (IteT K a) [e, it] e (fun i h => (∃ old, IsEnum h e it ((i : Nat) : Int) old) ∧ IsTupIter h it a i ∧ e ≠ it) where
  mem := by simp
  obj := fun i h st b hb => by
    obtain ⟨⟨old, he⟩, ⟨o, ho, hc, hd⟩, _⟩ := st
    rcases (show b = e ∨ b = it by simpa using hb) with rfl | rfl
    · exact ⟨_, he, fun v q => nomatch q⟩
    · exact ⟨o, ho, fun v q => by rw [hd] at q; cases q⟩
  keep := fun i h h' st k => by
    obtain ⟨⟨old, he⟩, ⟨o, ho, r⟩, hne⟩ := st
    exact ⟨⟨old, k e (by simp) _ he⟩, ⟨o, k it (by simp) o ho, r⟩, hne⟩
  item := by
    intro X hP hw hK hc i pins s σ H E I hf st hg
    subst hP hw hK
    obtain ⟨⟨old, he⟩, hit, hne⟩ := st
    obtain ⟨xs, x, hq, hx⟩ := hg
    obtain ⟨its, rv, p, hz⟩ := I.tuple hq
    obtain ⟨u, hu, ru⟩ := rv.get hx
    have elt := Heap.lt_size he
    have ilt : it < s.heap.objs.size := by obtain ⟨_, q, _⟩ := hit; exact Heap.lt_size q
    have hh := I.ok.hd hc
    have hti : a ≠ it := fun z => by
      obtain ⟨o1, e1, c1, _⟩ := hit
      obtain ⟨o2, e2, c2, _⟩ := p
      rw [z, e1] at e2
      cases e2
      rw [c1] at c2
      exact absurd c2 (by decide)
    have hte : e ≠ a := fun z => by
      obtain ⟨o2, e2, c2, _⟩ := p
      rw [← z, he] at e2
      cases e2
      exact absurd (show (Value.type "enumerate" : Value) = .type "tuple" from c2) (by decide)
    have ii : i < its.toArray.size := by
      have hl := rv.length
      have : i < xs.length := by
        rcases Nat.lt_or_ge i xs.length with h | h
        · exact h
        · rw [List.getElem?_eq_none h] at hx
          cases hx
      simp
      omega
    refine wpAny_pyNext_enum_itemD (tupDraws (A := X.A.in1) hh hti) he ⟨hit, p⟩ ii hne (by simp [hne, hte]) fun u' h' tk hu' ho st' hT hsz hk => ?_
    obtain rfl : u = u' := by
      have e2 : its.toArray[i]? = some u := by simpa using hu
      rw [e2] at hu'
      exact Option.some.inj hu'
    refine ⟨_, rfl, wpAny_letOwnedTupleGo_enum (s := { s with heap := h', toks := tk + 1 }) ho fun h'' he' sb => ?_⟩
    have hT2 := (sb.2 _ (Nat.ne_of_gt elt)).trans hT
    have new : ObjOk X.prog X.w (upd H s.heap.objs.size (.tup [.int (i : Nat), x])) h'' s.heap.objs.size (.tup [.int (i : Nat), x]) := ⟨by show 2 ≤ sizeLine; decide, [.int i tk, u], .cons ⟨_, rfl⟩ (.cons ru .nil), ⟨_, hT2, rfl, _, rfl⟩⟩
    have I1 : Inv X pins σ (upd H s.heap.objs.size (.tup [.int (i : Nat), x])) { s with heap := h'', toks := tk + 1 } :=
      I.turnedNew (t' := tk + 1) (ch := [e, it]) (fun b ob hb q => by
        have b1 : b ≠ e := fun z => hb (by simp [z])
        have b2 : b ≠ it := fun z => hb (by simp [z])
        exact (sb.2 b b1).trans (hk b ob b1 b2 q)) hf (Nat.le_refl _) new
    refine ⟨.ref s.heap.objs.size, _, I1, rfl, ⟨_, x, rfl, I.hok.fresh (Nat.le_refl _), rfl, fun ys hy => by rw [I.tuple_inj hy hq]; exact hx⟩, ⟨⟨u, ?_⟩, ?_, hne⟩, fun b hb => ?_⟩
    · rw [show ((i + 1 : Nat) : Int) = (i : Int) + 1 by omega]
      exact he'
    · obtain ⟨o, ho', r⟩ := st'.1
      exact ⟨o, (sb.2 it (Ne.symm hne)).trans ho', r⟩
    · have hb' : b < s.heap.objs.size := by
        rcases (show b = e ∨ b = it by simpa using hb) with rfl | rfl
        · exact elt
        · exact ilt
      rw [upd_ne (Nat.ne_of_lt hb')]
      exact (hf b hb).1
  done := by
    intro X hP hw hK hc i pins s σ H E I hf st hg
    subst hP hw hK
    obtain ⟨⟨old, he⟩, hit, hne⟩ := st
    obtain ⟨xs, hq, hx⟩ := hg
    obtain ⟨its, rv, p, hz⟩ := I.tuple hq
    obtain ⟨f0, f1, f2, f3, f4, f5⟩ := hf it (by simp)
    have hl := rv.length
    have hh := I.ok.hd hc
    have hti : a ≠ it := fun z => by
      obtain ⟨o1, e1, c1, _⟩ := hit
      obtain ⟨o2, e2, c2, _⟩ := p
      rw [z, e1] at e2
      cases e2
      rw [c1] at c2
      exact absurd c2 (by decide)
    have en : i = its.toArray.size := by
      simp
      omega
    rw [en] at he hit
    exact wpAny_pyNext_enum_endD (tupDraws (A := X.A.in1) hh hti) he ⟨hit, p⟩ fun h' eb => ⟨rfl, I.turned (t' := s.toks) (fun b o hb q => eb b o hb q) f0 f1 f3 f4 f5⟩
  self := fun A i s Q E st h => by
    obtain ⟨⟨_, he⟩, _⟩ := st
    exact wpAny_pyIter_enum he h
/-- enumerate over a list or a tuple -/
def iEnumX (K : PySem.W.Frag) (ta : TA) : TI := fun σ H R => ta σ H fun vs H1 => ∃ a xs, vs = [.ref a] ∧ ((SqL K H1 a xs ∧ R (Ite K a) H1) ∨ (SqT K H1 a xs ∧ R (IteT K a) H1))
theorem pi_enumX {X : Cx} {e : Expr} {ta : TA} {p pos tpos : Pos} {elts : List Expr} {kk : Nat} (hg : Gl X "enumerate") (hm : X.mg "enumerate" = none) (ha : PA X [e] ta) (hs : starEach [e] X.env = [(false, eval e X.env)] := by rfl) :
    PI X (.Tuple elts kk tpos) (.Call (.Name "enumerate" p) [e] [] pos) (iEnumX X.K ta) := by
  refine ⟨fun pins s σ H R I h => ?_⟩
  refine Call_ (ld_blt I hg hm boot_enumerate (PyProof.Rows.callWith_type1 (thn (ha.run pos pins s σ H _ I h) fun us s1 q1 => ?_) hs rfl))
  obtain ⟨vs, H1, I1, r1, a, xs, ex, q⟩ := q1
  subst ex
  obtain ⟨u, rfl, ru⟩ := vals1 r1
  cases ru
  have go : ∀ (h' : Heap) (J : It) (tn : Nat → Heap → Prop), (∀ b o, s1.heap.get? b = some o → h'.get? b = some o) → IsEnum h' (s1.heap.objs.size + 1) s1.heap.objs.size 0 .none → Turn X.prog X.w X.K (.Tuple elts kk tpos) J [s1.heap.objs.size + 1, s1.heap.objs.size] (s1.heap.objs.size + 1) tn → tn 0 h' → R J H1 →
      wpAny (model X.prog X.w) X.A (pyIter (.ref (s1.heap.objs.size + 1))) (PIE X pins σ (.Tuple elts kk tpos) R) X.xe { s1 with heap := h' } := fun h' J tn hk he T t0 q => by
    refine wpAny_pyIter_enum he ?_
    refine ⟨s1.heap.objs.size + 1, [s1.heap.objs.size + 1, s1.heap.objs.size], tn, J, H1, rfl, I1.kept (t' := s1.toks) hk, T, t0, fun b hb => ?_, q⟩
    have hle : s1.heap.objs.size ≤ b := by
      rcases (show b = s1.heap.objs.size + 1 ∨ b = s1.heap.objs.size by simpa using hb) with rfl | rfl
      · exact Nat.le_succ _
      · exact Nat.le_refl _
    exact I1.fpOk hle (I1.hok.fresh hle)
  rcases q with ⟨hq, q⟩ | ⟨hq, q⟩
  · obtain ⟨its, rv, p', hz⟩ := I1.list hq
    exact call_enumerate_list p'.isList fun h' he hit hsz hk => go h' _ _ hk he (turn_enum a _ _) ⟨⟨.none, he⟩, hit, Nat.succ_ne_self _⟩ q
  · obtain ⟨its, rv, p', hz⟩ := I1.tuple hq
    exact callEnumT p' fun h' he hit hk => go h' _ _ hk he (turnEnumT a _ _) ⟨⟨.none, he⟩, hit, Nat.succ_ne_self _⟩ q
theorem rd_enumX {K : PySem.W.Frag} {ta : TA} {R : It → Hp → Prop} {σ : L2.St} {H : Hp} (h : ta σ H fun vs H1 => ∃ a xs, vs = [.ref a] ∧ ((SqL K H1 a xs ∧ R (Ite K a) H1) ∨ (SqT K H1 a xs ∧ R (IteT K a) H1))) : iEnumX K ta σ H R := h
theorem for_enumT {K : PySem.W.Frag} {a : Addr} {xs : List V} {g : TG} {tb : TS} {D : Ends} {σ : L2.St} {H : Hp} (Pv : Nat → L2.St → Hp → Prop) (h0 : Pv 0 σ H) (hl : ∀ i σ H, i ≤ xs.length → Pv i σ H → SqT K H a xs)
    (hs : ∀ i x T σ H, xs[i]? = some x → Pv i σ H → H T = none → g (.ref T) σ (upd H T (.tup [.int (i : Nat), x])) fun σ2 H2 => tb { D with nx := Pv (i + 1), ct := Pv (i + 1), bk := D.nx } σ2 H2) (hd : ∀ σ H, Pv xs.length σ H → D.nx σ H) :
    ∃ W : Nat → Nat → L2.St → Hp → Prop, (∃ m, W 0 m σ H) ∧ ∀ i m σ H, W i m σ H →
      ((IteT K a).stop i H ∧ D.nx σ H) ∨ ((IteT K a).go i H ∧ ∃ N : L2.St → Hp → Prop, (∀ σ' H', N σ' H' → ∃ m', m' < m ∧ W (i + 1) m' σ' H') ∧ ∀ x H', (IteT K a).yld i H x H' → g x σ H' fun σ2 H2 => tb { D with nx := N, ct := N, bk := D.nx } σ2 H2) := by
  refine ⟨fun i m σ H => m = xs.length - i ∧ i ≤ xs.length ∧ Pv i σ H, ⟨xs.length, by simp, Nat.zero_le _, h0⟩, ?_⟩
  rintro i m σ H ⟨rfl, hi, p⟩
  have q := hl i σ H hi p
  by_cases hlt : i < xs.length
  · refine .inr ⟨⟨xs, xs[i], q, by simp [hlt]⟩, Pv (i + 1), fun σ' H' p' => ⟨xs.length - (i + 1), by omega, rfl, hlt, p'⟩, fun x H' y => ?_⟩
    obtain ⟨T, x, rfl, nT, rfl, y⟩ := y
    exact hs i x T σ H (y xs q) p nT
  · have e : i = xs.length := by omega
    subst e
    exact .inl ⟨⟨xs, q, rfl⟩, hd σ H p⟩
end My
namespace My
open PySem PySem.Spec PyProof.Rows L2
/-! ### max of a tuple of two ints -/
def rMaxT (K : PySem.W.Frag) : List V → Hp → VK → Prop := fun vs H Q => ∃ (a : Addr) (i j : Int), vs = [V.ref a] ∧ SqT K H a [.int i, .int j] ∧ ∀ m, m = i ∨ m = j → Q (.int m) H
theorem cr_maxT {X : Cx} (hc : X.calm = true) (hu : X.A.units + 64 < cLine) : CallR X (.builtin "max") (rMaxT X.K) := by
  intro pins s σ H vs us Q I r h
  obtain ⟨a, i, j, rfl, hs, q⟩ := h
  obtain ⟨its, rv, hl, _⟩ := I.tuple hs
  rw [Vals.ref1 r]
  have hv : ∃ (u1 u2 : Value), its = [u1, u2] ∧ RelV (.int i) u1 ∧ RelV (.int j) u2 := by
    cases rv with
    | cons r1 r2 =>
      cases r2 with
      | cons r2 r3 =>
        cases r3
        exact ⟨_, _, rfl, r1, r2⟩
  clear rv
  obtain ⟨_, _, rfl, ⟨t1, rfl⟩, ⟨t2, rfl⟩⟩ := hv
  have e : PyData.depthAll [PyData.int i, .int j] ≤ 2 := by simp [PyData.depthAll, PyData.depth]
  have hm : PySem.W.maxD (.int i) [.int j] = .int i ∨ PySem.W.maxD (.int i) [.int j] = .int j := by
    unfold PySem.W.maxD
    simp only [List.foldl]
    split <;> simp
  have hr : ReadsAll s.heap [Value.int i t1, Value.int j t2] [PyData.int i, .int j] [] := .cons (as := []) (.int _ _) (.cons (as := []) (.int _ _) .nil)
  have ha : PySem.W.AlikeAll [PyData.int i, .int j] := by
    refine ⟨fun x hx y hy => ?_, fun x hx => ?_⟩
    · simp only [List.mem_cons, List.not_mem_nil, or_false] at hx hy
      rcases hx with rfl | rfl <;> rcases hy with rfl | rfl <;> rfl
    · simp only [List.mem_cons, List.not_mem_nil, or_false] at hx
      rcases hx with rfl | rfl <;> simp
  refine PySem.W.max_tuple_data (x := .int i) (xs := [.int j]) (as := []) (I.ok.hd hc) hl hr ha ?_ fun k v h' tk bs hk hr hk' => ?_
  · omega
  · rcases hm with e | e <;> (rw [e] at hr; cases hr)
    · exact ⟨.int i, H, I.kept hk', ⟨_, rfl⟩, q i (.inl rfl)⟩
    · exact ⟨.int j, H, I.kept hk', ⟨_, rfl⟩, q j (.inr rfl)⟩
end My
namespace My
open PySem PySem.Spec PyProof.Rows L2
/-! ### min of a tuple of two ints -/
def rMinT (K : PySem.W.Frag) : List V → Hp → VK → Prop := fun vs H Q => ∃ (a : Addr) (i j : Int), vs = [V.ref a] ∧ SqT K H a [.int i, .int j] ∧ ∀ m, (m = i ∨ m = j) ∧ m ≤ i ∧ m ≤ j → Q (.int m) H
theorem cr_minT {X : Cx} (hc : X.calm = true) (hu : X.A.units + 64 < cLine) : CallR X (.builtin "min") (rMinT X.K) := by
  intro pins s σ H vs us Q I r h
  obtain ⟨a, i, j, rfl, hs, q⟩ := h
  obtain ⟨its, rv, hl, _⟩ := I.tuple hs
  rw [Vals.ref1 r]
  have hv : ∃ (u1 u2 : Value), its = [u1, u2] ∧ RelV (.int i) u1 ∧ RelV (.int j) u2 := by
    cases rv with
    | cons r1 r2 =>
      cases r2 with
      | cons r2 r3 =>
        cases r3
        exact ⟨_, _, rfl, r1, r2⟩
  clear rv
  obtain ⟨_, _, rfl, ⟨t1, rfl⟩, ⟨t2, rfl⟩⟩ := hv
  have e : PyData.depthAll [PyData.int i, .int j] ≤ 2 := by simp [PyData.depthAll, PyData.depth]
  have hm : PySem.W.minD (.int i) [.int j] = .int (min i j) := PySem.W.minD_ints i [j]
  have hr : ReadsAll s.heap [Value.int i t1, Value.int j t2] [PyData.int i, .int j] [] := .cons (as := []) (.int _ _) (.cons (as := []) (.int _ _) .nil)
  have ha : PySem.W.AlikeAll [PyData.int i, .int j] := by
    refine ⟨fun x hx y hy => ?_, fun x hx => ?_⟩
    · simp only [List.mem_cons, List.not_mem_nil, or_false] at hx hy
      rcases hx with rfl | rfl <;> rcases hy with rfl | rfl <;> rfl
    · simp only [List.mem_cons, List.not_mem_nil, or_false] at hx
      rcases hx with rfl | rfl <;> simp
  refine PySem.W.min_tuple_data (x := .int i) (xs := [.int j]) (as := []) (I.ok.hd hc) hl hr ha ?_ fun k v h' tk bs hk hr hk' => ?_
  · omega
  · rw [hm] at hr
    cases hr
    exact ⟨.int (min i j), H, I.kept hk', ⟨_, rfl⟩, q (min i j) ⟨by omega, by omega, by omega⟩⟩
theorem cr_minTK {X : Cx} {K : PySem.W.Frag} (h : X.K = K) (hc : X.calm = true) (hu : X.A.units + 64 < cLine) : CallR X (.builtin "min") (rMinT K) := h ▸ cr_minT hc hu
end My
namespace My
open PySem PySem.Spec PyProof.Rows L2
variable {K : PySem.W.Frag}
/-! ### own error classes with one field -/
structure ExF (K : PySem.W.Frag) (mg : Str → Option Value) (x : Str) (C fI : Addr) (fl : Str) : Prop where
  g : mg x = some (.ref C)
  ox : OexC K C
  iC : PySem.W.findIn K (.ref C) "__init__" = some (some (.ref fI))
  tI : PySem.W.typeIn K (.ref fI) = some (.type "function")
  no : PySem.W.findIn K (.ref C) fl = some none
  xf : XfC K C
  ic : PySem.W.isClsIn K C = true
  sf : PySem.W.subIn K (.ref C) (.ref C) = some true
theorem ExF.te {K : PySem.W.Frag} {mg : Str → Option Value} {x : Str} {C fI : Addr} {fl : Str} (e : ExF K mg x C fI fl) : PySem.W.exmOne K (.ref C) (.ref C) = some true := exm_sub e.ox.exC e.ic e.ox.tyC e.sf
/-- what such an __init__ does -/
def sp_xinit (C : Addr) (fl : Str) : Sp := fun vs H Q _ => ∃ p v, vs = [.ref p, v] ∧ H p = some (exo p C none) ∧ ∀ dx, H dx = none → dx ≠ p → Q .non (upd (upd H dx (exd dx [(fl, v)])) p (exo p C (some dx)))
theorem rd_ost {K : PySem.W.Frag} {f : Str} {to te : TE} {D : Ends} {σ : L2.St} {H : Hp} (h : te σ H fun y H1 => to σ H1 fun x H2 => ∃ a C : Addr, x = .ref a ∧ OexC K C ∧ PySem.W.findIn K (.ref C) f = some none ∧
    ((H2 a = some (exo a C none) ∧ ∀ dx, H2 dx = none → dx ≠ a → D.nx σ (upd (upd H2 dx (exd dx [(f, y)])) a (exo a C (some dx)))) ∨
      ∃ (dx : Addr) (fs : List (Str × V)), H2 a = some (exo a C (some dx)) ∧ H2 dx = some (exd dx fs) ∧ fs.length ≤ 900 ∧ D.nx σ (upd H2 dx (exd dx ((f, y) :: fs))))) : tOst K f to te D σ H := h
theorem del_upd_back {H1 : Hp} {a d : Addr} {o1 o2 o3 : HO} {fs : List (Str × V)} (ha : H1 a = none) (hd : H1 d = none) (hn : d ≠ a) :
    upd (del (upd (upd (upd H1 a o1) d o2) a o3) a) d (.xd fs) = upd H1 d (.xd fs) := by
  funext b
  by_cases hb : b = d
  · rw [hb, upd_same, upd_same]
  · rw [upd_ne hb, upd_ne hb]
    by_cases hb2 : b = a
    · rw [hb2, del_same, ha]
    · rw [del_ne hb2, upd_ne hb2, upd_ne hb, upd_ne hb2]
theorem lk1 {f : Str} {v : V} : ([(f, v)] : List (Str × V)).lookup f = some v := by
  have e : (f == f) = true := beq_self_eq_true f
  simp only [List.lookup, e]
/-- raise X(e) -/
def tRaise1 (C : Addr) (fl : Str) (W : WX) (ta : TA) : TS := fun _ σ H => tMkO C (sp_xinit C fl) [] ta σ H fun cls d H' => W cls d σ H'
theorem rd_raise1 {C : Addr} {fl : Str} {W : WX} {ta : TA} {D : Ends} {σ : L2.St} {H : Hp} (h : ta σ H fun vs H1 => vs.length ≤ 1000 ∧ ∀ a, H1 a = none → sp_xinit C fl (.ref a :: (vs ++ [])) (upd H1 a (exo a C none))
    (fun v H2 => v = .non ∧ ∃ (d : Addr) (fs : List (Str × V)), H2 a = some (exo a C (some d)) ∧ H2 d = some (exd d fs) ∧ H1 d = none ∧ W (.ref C) (some d) σ (upd (del H2 a) d (.xd fs))) (fun _ _ _ => False)) : tRaise1 C fl W ta D σ H := h
theorem rd_x1 {C : Addr} {fl : Str} {v : V} {H1 : Hp} {Q : Value → Option Addr → Hp → Prop} (h : ∀ d, H1 d = none → Q (.ref C) (some d) (upd H1 d (.xd [(fl, v)]))) :
    [v].length ≤ 1000 ∧ ∀ a, H1 a = none → sp_xinit C fl (.ref a :: ([v] ++ [])) (upd H1 a (exo a C none))
      (fun v H2 => v = .non ∧ ∃ (d : Addr) (fs : List (Str × V)), H2 a = some (exo a C (some d)) ∧ H2 d = some (exd d fs) ∧ H1 d = none ∧ Q (.ref C) (some d) (upd (del H2 a) d (.xd fs))) (fun _ _ _ => False) := by
  refine ⟨by show 1 ≤ 1000; decide, fun a na => ⟨a, v, rfl, upd_same, fun dx nd ne => ⟨rfl, dx, [(fl, v)], upd_same, ?_, ?_, ?_⟩⟩⟩
  · rw [upd_ne ne, upd_same]
  · rw [upd_ne ne] at nd
    exact nd
  · rw [upd_ne ne] at nd
    rw [del_upd_back na nd ne]
    exact h dx nd
theorem ps_raise1 {X : Cx} {W : WX} {C fI : Addr} {x : Str} {fl : Str} {k : Nat} {fd : FuncData} {ta : TA} {e : Expr} {es : List Expr} {p pos pos2 : Pos} (hc : X.calm = true) (E : ExF X.K X.mg x C fI fl)
    (F1 : FnOk X.prog X.w X.K X.mg X.base CX0 k fI fd ["self", fl] (sp_xinit C fl)) (hr : Room (k + 1) X.A) (tk : Takes X W) (hb : Binds X.K fd ["self", fl] []) (ha : PA X (e :: es) ta) (hg : Gl X x := by rfl)
    (hdb : (x == ("__debug__" : Str)) = false := by decide) (he : starEach (e :: es) X.env = (false, eval e X.env) :: starEach es X.env := by rfl) (hpl : (backTo pos (starEach es X.env)).any (·.1) = false := by rfl) :
    PS X (.Raise (some (.Call (.Name x p) (e :: es) [] pos)) none pos2) (tRaise1 C fl W ta) :=
  ps_raise (pos := pos2) hc tk (pmk_oex (pos := pos) E.ox E.iC E.tI F1 hr hb .nil pass0 hg E.g ha hdb he hpl)
/-- e.f of the caught error -/
theorem rd_xf {a : Addr} {cls : Value} {d : Option Addr} {C : Addr} {f : Str} {te : TE} {σ : L2.St} {H : Hp} {Q : VK} (h : te σ H fun x H1 => x = .ref a ∧ cls = .ref C ∧ ∃ (dd : Addr) (fs : List (Str × V)) (v : V), d = some dd ∧ H1 dd = some (.xd fs) ∧ fs.lookup f = some v ∧ Q v H1) : tXf a cls d C f te σ H Q := h
theorem rd_xf1 {a : Addr} {C dd : Addr} {f : Str} {v : V} {H : Hp} {Q : VK} (h : H dd = some (.xd [(f, v)])) (q : Q v H) : (V.ref a) = .ref a ∧ (Value.ref C) = .ref C ∧ ∃ (dd2 : Addr) (fs : List (Str × V)) (v : V), some dd = some dd2 ∧ H dd2 = some (.xd fs) ∧ fs.lookup f = some v ∧ Q v H := ⟨rfl, rfl, dd, _, v, rfl, h, lk1, q⟩
/-! ### own classes with fields -/
structure InsT (K : PySem.W.Frag) (C : Addr) : Prop where
  cl : Cls K C
  ha : PySem.W.findIn K (.ref C) "__class__" = some (some (.builtin "object.__class__"))
  hn : PySem.W.specialIn K (.builtin "object.__class__") "__get__" = some (some (.builtin "getset_descriptor.__get__"))
  ht : PySem.W.takesIn K (.builtin "object.__class__") = some true
  mo : PySem.W.mroIn K C (.type "object") = some true
  ki : PySem.W.kitOne K (.ref C) (.type "int") = some false
  kb : PySem.W.kitOne K (.ref C) (.type "bool") = some false
  kt : PySem.W.kitOne K (.ref C) (.type "tuple") = some false
  kl : PySem.W.kitOne K (.ref C) (.type "list") = some false
structure WebC (K : PySem.W.Frag) (mg : Str → Option Value) (x : Str) (C fI : Addr) : Prop where
  g : mg x = some (.ref C)
  mks : Mk K C fI
  it : InsT K C
theorem rd_fldS {K : PySem.W.Frag} {ta tv : TE} {f : Str} {D : Ends} {σ : L2.St} {H : Hp} (h : tv σ H fun y H1 => ta σ H1 fun x H2 => ∃ a C dx fs, x = .ref a ∧ H2 a = some (.ins C dx fs) ∧ Cls K C ∧ NoAttr K C f ∧ fs.length < 1000 ∧ D.nx σ (upd H2 a (.ins C dx (putF f y fs)))) : sFld K ta tv f D σ H := h
theorem rd_make {C : Addr} {sp : Sp} {dvs : List V} {E : XK} {t : TA} {σ : L2.St} {H : Hp} {Q : VK} (h : t σ H fun vs H1 => ∀ x dx, H1 x = none → H1 dx = none → dx ≠ x → sp (.ref x :: (vs ++ dvs)) (upd (upd H1 dx (.own x)) x (.ins C dx [])) (fun v H2 => v = .non ∧ Q (.ref x) H2) E) : tMake C sp dvs E t σ H Q := h
theorem rd_enum {K : PySem.W.Frag} {ta : TA} {R : It → Hp → Prop} {σ : L2.St} {H : Hp} (h : ta σ H fun vs H1 => ∃ a xs, vs = [.ref a] ∧ SqL K H1 a xs ∧ R (Ite K a) H1) : iEnum K ta σ H R := h
/-! ### things of all kinds; D: the deck, which alone is changed -/
inductive Od (K : PySem.W.Frag) (D : Addr) (H : Hp) : V → Prop where
  | non : Od K D H .non
  | bl (b : Bool) : Od K D H (.bl b)
  | str (s : Str) : Od K D H (.str s)
  | lst {p : Addr} {xs : List V} (n : p ≠ D) (h : H p = some (.lst xs)) : Od K D H (.ref p)
  | tup {p : Addr} {xs : List V} (n : p ≠ D) (h : H p = some (.tup xs)) : Od K D H (.ref p)
  | dK {p : Addr} {kvs : List (Key × V)} (n : p ≠ D) (h : H p = some (.dK kvs)) : Od K D H (.ref p)
  | ins {p C dx : Addr} {fs : List (Str × V)} (n : p ≠ D) (h : H p = some (.ins C dx fs)) (c : InsT K C) : Od K D H (.ref p)
theorem Od.fw {K : PySem.W.Frag} {D : Addr} {H H' : Hp} {v : V} (o : Od K D H v) (f : Fw D H H') : Od K D H' v := by
  cases o with
  | non => exact .non
  | bl b => exact .bl b
  | str s => exact .str s
  | lst n h => exact .lst n (f _ _ n h)
  | tup n h => exact .tup n (f _ _ n h)
  | dK n h => exact .dK n (f _ _ n h)
  | ins n h c => exact .ins n (f _ _ n h) c
/-- what isinstance says of it -/
theorem Od.isi {K : PySem.W.Frag} {D : Addr} {H : Hp} {v : V} (o : Od K D H v) : ∃ b1 b2 b3 : Bool, (b1 && !b2) = false ∧ (∀ Q : VK, Q (.bl b1) H → rIsi K [v, .ty "int"] H Q) ∧ (∀ Q : VK, Q (.bl b2) H → rIsi K [v, .ty "bool"] H Q) ∧ (∀ Q : VK, Q (.bl b3) H → rIsi K [v, .ty "tuple"] H Q) ∧ (b3 = true → ∃ p xs, v = .ref p ∧ p ≠ D ∧ H p = some (.tup xs)) := by
  cases o with
  | non => exact ⟨false, false, false, rfl, fun Q q => ⟨_, _, _, _, _, rfl, .ty _, .base .non, kit_ty (by decide +kernel), q⟩, fun Q q => ⟨_, _, _, _, _, rfl, .ty _, .base .non, kit_ty (by decide +kernel), q⟩, fun Q q => ⟨_, _, _, _, _, rfl, .ty _, .base .non, kit_ty (by decide +kernel), q⟩, fun z => Bool.noConfusion z⟩
  | bl b => exact ⟨true, true, false, rfl, fun Q q => ⟨_, _, _, _, _, rfl, .ty _, .base (.bl _), kit_ty (by decide +kernel), q⟩, fun Q q => ⟨_, _, _, _, _, rfl, .ty _, .base (.bl _), kit_ty (by decide +kernel), q⟩, fun Q q => ⟨_, _, _, _, _, rfl, .ty _, .base (.bl _), kit_ty (by decide +kernel), q⟩, fun z => Bool.noConfusion z⟩
  | str s => exact ⟨false, false, false, rfl, fun Q q => ⟨_, _, _, _, _, rfl, .ty _, .base (.str _), kit_ty (by decide +kernel), q⟩, fun Q q => ⟨_, _, _, _, _, rfl, .ty _, .base (.str _), kit_ty (by decide +kernel), q⟩, fun Q q => ⟨_, _, _, _, _, rfl, .ty _, .base (.str _), kit_ty (by decide +kernel), q⟩, fun z => Bool.noConfusion z⟩
  | lst n h => exact ⟨false, false, false, rfl, fun Q q => ⟨_, _, _, _, _, rfl, .ty _, .base (.lst h), kit_ty (by decide +kernel), q⟩, fun Q q => ⟨_, _, _, _, _, rfl, .ty _, .base (.lst h), kit_ty (by decide +kernel), q⟩, fun Q q => ⟨_, _, _, _, _, rfl, .ty _, .base (.lst h), kit_ty (by decide +kernel), q⟩, fun z => Bool.noConfusion z⟩
  | tup n h => exact ⟨false, false, true, rfl, fun Q q => ⟨_, _, _, _, _, rfl, .ty _, .base (.tup h), kit_ty (by decide +kernel), q⟩, fun Q q => ⟨_, _, _, _, _, rfl, .ty _, .base (.tup h), kit_ty (by decide +kernel), q⟩, fun Q q => ⟨_, _, _, _, _, rfl, .ty _, .base (.tup h), kit_ty (by decide +kernel), q⟩, fun _ => ⟨_, _, rfl, n, h⟩⟩
  | dK n h => exact ⟨false, false, false, rfl, fun Q q => ⟨_, _, _, _, _, rfl, .ty _, .base (.dK h), kit_ty (by decide +kernel), q⟩, fun Q q => ⟨_, _, _, _, _, rfl, .ty _, .base (.dK h), kit_ty (by decide +kernel), q⟩, fun Q q => ⟨_, _, _, _, _, rfl, .ty _, .base (.dK h), kit_ty (by decide +kernel), q⟩, fun z => Bool.noConfusion z⟩
  | ins n h c => exact ⟨false, false, false, rfl, fun Q q => ⟨_, _, _, _, _, rfl, .ty _, .base (.ins h c.cl c.ha c.hn c.ht c.mo), c.ki, q⟩, fun Q q => ⟨_, _, _, _, _, rfl, .ty _, .base (.ins h c.cl c.ha c.hn c.ht c.mo), c.kb, q⟩, fun Q q => ⟨_, _, _, _, _, rfl, .ty _, .base (.ins h c.cl c.ha c.hn c.ht c.mo), c.kt, q⟩, fun z => Bool.noConfusion z⟩
/-- what is no fraction -/
inductive NoF (K : PySem.W.Frag) (D : Addr) (H : Hp) : V → Prop where
  | int (i : Int) : NoF K D H (.int i)
  | not {v : V} (o : Od K D H v) (h : ∀ p xs, v = .ref p → H p = some (.tup xs) → xs.length ≠ 2) : NoF K D H v
  | fst {p : Addr} {x y : V} (n : p ≠ D) (h : H p = some (.tup [x, y])) (o : Od K D H x) : NoF K D H (.ref p)
  | snd {p : Addr} {i : Int} {y : V} (n : p ≠ D) (h : H p = some (.tup [.int i, y])) (o : Od K D H y) : NoF K D H (.ref p)
  | low {p : Addr} {i j : Int} (n : p ≠ D) (h : H p = some (.tup [.int i, .int j])) (z : ¬ (0 < j ∧ Nat.gcd i.natAbs j.natAbs = 1)) (b : j.natAbs < 2 ^ 4000) : NoF K D H (.ref p)
theorem NoF.fw {K : PySem.W.Frag} {D : Addr} {H H' : Hp} {v : V} (o : NoF K D H v) (f : Fw D H H') : NoF K D H' v := by
  cases o with
  | int i => exact .int i
  | not o h =>
    refine .not (o.fw f) fun p xs e h2 => ?_
    subst e
    cases o with
    | lst n h3 =>
      rw [f _ _ n h3] at h2
      cases h2
    | tup n h3 =>
      rw [f _ _ n h3] at h2
      cases h2
      exact h _ _ rfl h3
    | dK n h3 =>
      rw [f _ _ n h3] at h2
      cases h2
    | ins n h3 c =>
      rw [f _ _ n h3] at h2
      cases h2
  | fst n h o => exact .fst n (f _ _ n h) (o.fw f)
  | snd n h o => exact .snd n (f _ _ n h) (o.fw f)
  | low n h z b => exact .low n (f _ _ n h) z b
/-- a thing with the word whether it is a fraction -/
def JF (K : PySem.W.Frag) (D : Addr) (H : Hp) (v : V) (b : Option Rat) : Prop := (∃ r, IsF K H v r ∧ Bd 40 r ∧ b = some r) ∨ (NoF K D H v ∧ b = none)
theorem isi_int_tup {K : PySem.W.Frag} {H : Hp} {Q : VK} {i : Int} (q : Q (.bl false) H) : rIsi K [.int i, .ty "tuple"] H Q := ⟨_, _, _, _, _, rfl, .ty _, .base (.int _), kit_ty (by decide +kernel), q⟩
end My
namespace My
open PySem PySem.Spec PyProof.Rows L2
variable {K : PySem.W.Frag}
theorem for_enum {K : PySem.W.Frag} {a : Addr} {xs : List V} {g : TG} {tb : TS} {D : Ends} {σ : L2.St} {H : Hp} (Pv : Nat → L2.St → Hp → Prop) (h0 : Pv 0 σ H) (hl : ∀ i σ H, i ≤ xs.length → Pv i σ H → SqL K H a xs)
    (hs : ∀ i x T σ H, xs[i]? = some x → Pv i σ H → H T = none → g (.ref T) σ (upd H T (.tup [.int (i : Nat), x])) fun σ2 H2 => tb { D with nx := Pv (i + 1), ct := Pv (i + 1), bk := D.nx } σ2 H2) (hd : ∀ σ H, Pv xs.length σ H → D.nx σ H) :
    ∃ W : Nat → Nat → L2.St → Hp → Prop, (∃ m, W 0 m σ H) ∧ ∀ i m σ H, W i m σ H →
      ((Ite K a).stop i H ∧ D.nx σ H) ∨ ((Ite K a).go i H ∧ ∃ N : L2.St → Hp → Prop, (∀ σ' H', N σ' H' → ∃ m', m' < m ∧ W (i + 1) m' σ' H') ∧ ∀ x H', (Ite K a).yld i H x H' → g x σ H' fun σ2 H2 => tb { D with nx := N, ct := N, bk := D.nx } σ2 H2) := by
  refine ⟨fun i m σ H => m = xs.length - i ∧ i ≤ xs.length ∧ Pv i σ H, ⟨xs.length, by simp, Nat.zero_le _, h0⟩, ?_⟩
  rintro i m σ H ⟨rfl, hi, p⟩
  have q := hl i σ H hi p
  by_cases hlt : i < xs.length
  · refine .inr ⟨⟨xs, xs[i], q, by simp [hlt]⟩, Pv (i + 1), fun σ' H' p' => ⟨xs.length - (i + 1), by omega, rfl, hlt, p'⟩, fun x H' y => ?_⟩
    obtain ⟨T, x, rfl, nT, rfl, y⟩ := y
    exact hs i x T σ H (y xs q) p nT
  · have e : i = xs.length := by omega
    subst e
    exact .inl ⟨⟨xs, q, Nat.le_refl _⟩, hd σ H p⟩
/-! ### right stalls and webs of them -/
structure Stl where
  u : Nat
  v : Nat
  a : Rat
  b : Rat
  r : Rat
structure OkSt (n : Nat) (s : Stl) : Prop where
  u : s.u < n
  v : s.v < n
  ne : s.u ≠ s.v
  a : 0 < s.a
  b : 0 < s.b
  r : 0 < s.r
  e : s.a * s.b = s.r * s.r
structure BdSt (k : Nat) (s : Stl) : Prop where
  a : Bd k s.a
  b : Bd k s.b
  r : Bd k s.r
def IsSt (K : PySem.W.Frag) (H : Hp) (x : V) (s : Stl) : Prop := ∃ p va vb vr, x = .ref p ∧ H p = some (.tup [.int (s.u : Nat), .int (s.v : Nat), va, vb, vr]) ∧ IsF K H va s.a ∧ IsF K H vb s.b ∧ IsF K H vr s.r
theorem IsSt.same {H H' : Hp} {x : V} {s : Stl} (f : Same H H') (h : IsSt K H x s) : IsSt K H' x s := by
  obtain ⟨p, va, vb, vr, e, h, a, b, c⟩ := h
  exact ⟨p, va, vb, vr, e, f _ _ h, a.same f, b.same f, c.same f⟩
def Sts (K : PySem.W.Frag) (H : Hp) (xs : List V) (ss : List Stl) : Prop := Paired (IsSt K H) xs ss
theorem Sts.same {H H' : Hp} {xs : List V} {ss : List Stl} (f : Same H H') (h : Sts K H xs ss) : Sts K H' xs ss := by
  unfold Sts at *
  induction h with
  | nil => exact .nil
  | cons h t ih => exact .cons (h.same f) ih
theorem Sts.len {H : Hp} {xs : List V} {ss : List Stl} (h : Sts K H xs ss) : xs.length = ss.length := Paired.length h
theorem Sts.at {H : Hp} {xs : List V} {ss : List Stl} (h : Sts K H xs ss) : ∀ {i : Nat} {x : V}, xs[i]? = some x → ∃ s, ss[i]? = some s ∧ IsSt K H x s := by
  unfold Sts at h
  induction h with
  | nil =>
    intro i x e
    simp at e
  | cons h t ih =>
    intro i x e
    match i with
    | 0 =>
      simp at e
      subst e
      exact ⟨_, rfl, h⟩
    | i + 1 => exact ih (by simpa using e)
theorem IsF.ts {H H' : Hp} {x : V} {r : Rat} (f : Tps H H') (h : IsF K H x r) : IsF K H' x r := by
  obtain ⟨p, e, h⟩ := h
  exact ⟨p, e, h.ts f⟩
theorem IsSt.ts {H H' : Hp} {x : V} {s : Stl} (f : Tps H H') (h : IsSt K H x s) : IsSt K H' x s := by
  obtain ⟨p, va, vb, vr, e, h, a, b, c⟩ := h
  exact ⟨p, va, vb, vr, e, f _ _ h, a.ts f, b.ts f, c.ts f⟩
theorem Sts.ts {H H' : Hp} {xs : List V} {ss : List Stl} (f : Tps H H') (h : Sts K H xs ss) : Sts K H' xs ss := by
  unfold Sts at *
  induction h with
  | nil => exact .nil
  | cons h t ih => exact .cons (h.ts f) ih
def wF (n : Nat) (t : Addr) : List (Str × V) := [("wares", .int (n : Nat)), ("stalls", .ref t)]
def IsWeb (K : PySem.W.Frag) (C : Addr) (H : Hp) (x : V) (n : Nat) (ss : List Stl) : Prop := ∃ p dx t xs, x = .ref p ∧ H p = some (.ins C dx (wF n t)) ∧ H t = some (.tup xs) ∧ Sts K H xs ss
theorem IsWeb.same {C : Addr} {H H' : Hp} {x : V} {n : Nat} {ss : List Stl} (f : Same H H') (h : IsWeb K C H x n ss) : IsWeb K C H' x n ss := by
  obtain ⟨p, dx, t, xs, e, h1, h2, h3⟩ := h
  exact ⟨p, dx, t, xs, e, f _ _ h1, f _ _ h2, h3.same f⟩
theorem lk_here {k : Str} {v : V} {r : List (Str × V)} : List.lookup k ((k, v) :: r) = some v := by
  have e : (k == k) = true := beq_self_eq_true k
  simp only [List.lookup, e]
theorem lk_past {k g : Str} {v : V} {r : List (Str × V)} (h : (k == g) = false) : List.lookup k ((g, v) :: r) = List.lookup k r := by
  simp only [List.lookup, h]
theorem wF_wares (n : Nat) (t : Addr) : (wF n t).lookup ("wares" : Str) = some (.int (n : Nat)) := lk_here
theorem wF_stalls (n : Nat) (t : Addr) : (wF n t).lookup ("stalls" : Str) = some (.ref t) := (lk_past (by decide +kernel)).trans lk_here
theorem wF_new (n : Nat) (t : Addr) : putF "stalls" (.ref t) (putF "wares" (.int (n : Nat)) []) = wF n t := by
  have h : ¬ (("wares" : Str) = "stalls") := by decide +kernel
  show putF "stalls" (.ref t) [("wares", .int (n : Nat))] = _
  simp [putF, h, wF]
theorem rd_fld {K : PySem.W.Frag} {ta : TE} {f : Str} {σ : L2.St} {H : Hp} {Q : VK} (h : ta σ H fun x H1 => ∃ a C dx fs v, x = .ref a ∧ H1 a = some (.ins C dx fs) ∧ Cls K C ∧ NoAttr K C f ∧ fs.lookup f = some v ∧ Q v H1) : tFld K ta f σ H Q := h
/-- what a stall is behind a move -/
def Stl.first (s : Stl) (x : Rat) : Stl := ⟨s.u, s.v, x, s.r * s.r / x, s.r⟩
def Stl.secnd (s : Stl) (y : Rat) : Stl := ⟨s.u, s.v, s.r * s.r / y, y, s.r⟩
def Stl.behind (s : Stl) (w : Nat) (x : Rat) : Stl := if w = s.u then s.first (s.a + x) else s.secnd (s.b + x)
def Stl.out (s t : Stl) (w : Nat) : Rat := if w = s.u then s.b - t.b else s.a - t.a
/-- a move of the web -/
def IsMv (K : PySem.W.Frag) (H : Hp) (v : V) (i w : Nat) (x : Rat) : Prop := ∃ p vx, v = .ref p ∧ H p = some (.tup [.int (i : Nat), .int (w : Nat), vx]) ∧ IsF K H vx x
theorem IsMv.same {H H' : Hp} {v : V} {i w : Nat} {x : Rat} (f : Same H H') (h : IsMv K H v i w x) : IsMv K H' v i w x := by
  obtain ⟨p, vx, e, h, a⟩ := h
  exact ⟨p, vx, e, f _ _ h, a.same f⟩
theorem Sts.get {H : Hp} {xs : List V} {ss : List Stl} (h : Sts K H xs ss) : ∀ {i : Nat} {s : Stl}, ss[i]? = some s → ∃ x, xs[i]? = some x ∧ IsSt K H x s := by
  unfold Sts at h
  induction h with
  | nil =>
    intro i x e
    simp at e
  | cons h t ih =>
    intro i x e
    match i with
    | 0 =>
      simp at e
      subst e
      exact ⟨_, rfl, h⟩
    | i + 1 => exact ih (by simpa using e)
end My
namespace My
open PySem PySem.Spec PyProof.Rows L2
variable {K : PySem.W.Frag}
theorem tps_put {H1 H : Hp} {D : Addr} {o : HO} {ys : List V} (h : H D = some (.lst ys)) : Tps H (upd H D o) := fun b xs hb => by
  refine (upd_ne fun e => ?_).trans hb
  rw [e, h] at hb
  cases hb
theorem same_put {H1 H : Hp} {D : Addr} {o : HO} (n : H1 D = none) (s : Same H1 H) : Same H1 (upd H D o) := fun b x h => (upd_ne (ne_of_none h n)).trans (s b x h)
/-- what stands while the tuples stand -/
def Mn {α : Type} (R : Hp → V → α → Prop) : Prop := ∀ H H' v a, Tps H H' → R H v a → R H' v a
theorem Paired.mono {α : Type} {R : Hp → V → α → Prop} (hR : Mn R) {H H' : Hp} (f : Tps H H') {ys : List V} {as : List α} (h : Paired (R H) ys as) : Paired (R H') ys as := by
  induction h with
  | nil => exact .nil
  | cons h t ih => exact .cons (hR _ _ _ _ f h) ih
theorem same_tps {H H' : Hp} (s : Same H H') : Tps H H' := fun b xs h => s _ _ h
theorem sqT_same {H H' : Hp} {a : Addr} {xs : List V} (e : Same H H') (h : SqT K H a xs) : SqT K H' a xs := by
  rcases h with (h | ⟨o, h⟩) | h
  · exact .inl (.inl (e _ _ h))
  · exact .inl (.inr ⟨o, e _ _ h⟩)
  · exact .inr h
section
variable {α : Type} {R : Hp → V → α → Prop} {g : TG} {tt : TT} {te : TE} {vs : List Nat} {σ : L2.St} {H1 : Hp} {D : Addr} {Qd : Hp → Prop} {f : Nat → Option α}
/-- the state of a list under way -/
def Lst (R : Hp → V → α → Prop) (H1 : Hp) (D : Addr) (as : List α) (H : Hp) : Prop := Same H1 H ∧ ∃ ys, H D = some (.lst ys) ∧ Paired (R H) ys as
theorem Lst.len {as : List α} {H : Hp} : Lst R H1 D as H → ∃ ys, H D = some (.lst ys) ∧ ys.length = as.length := fun ⟨_, ys, h, p⟩ => ⟨ys, h, Paired.length p⟩
theorem Lst.add (hR : Mn R) (nD : H1 D = none) {as : List α} {a : α} {H H' : Hp} {y : V} (l : Lst R H1 D as H) (s : Same H H') (h : R H' y a) (hn : as.length < 1000) :
    ∃ acc, H' D = some (.lst acc) ∧ acc.length < sizeLine ∧ Lst R H1 D (as ++ [a]) (upd H' D (.lst (acc ++ [y]))) := by
  obtain ⟨s1, ys, hD, p⟩ := l
  have hl := Paired.length p
  refine ⟨ys, s _ _ hD, small1000 (by omega), same_put nD (s1.trans s), _, upd_same, ?_⟩
  have t : Tps H' (upd H' D (.lst (ys ++ [y]))) := tps_put (H1 := H1) (s _ _ hD)
  exact Paired.mono hR t (Paired.snoc (Paired.mono hR (same_tps s) p) h)
theorem Lst.skip (hR : Mn R) {as : List α} {H H' : Hp} (l : Lst R H1 D as H) (s : Same H H') : Lst R H1 D as H' := by
  obtain ⟨s1, ys, hD, p⟩ := l
  exact ⟨s1.trans s, ys, s _ _ hD, Paired.mono hR (same_tps s) p⟩
def upTo (f : Nat → Option α) (i : Nat) : List α := (List.range i).filterMap f
theorem upTo_some {i : Nat} {a : α} (h : f i = some a) : upTo f (i + 1) = upTo f i ++ [a] := by
  unfold upTo
  rw [List.range_succ, List.filterMap_append]
  simp [h]
theorem upTo_none {i : Nat} (h : f i = none) : upTo f (i + 1) = upTo f i := by
  unfold upTo
  rw [List.range_succ, List.filterMap_append]
  simp [h]
theorem upTo_len (f : Nat → Option α) (i : Nat) : (upTo f i).length ≤ i := by
  unfold upTo
  refine Nat.le_trans (List.length_filterMap_le _ _) ?_
  simp
/-- one turn -/
def Turn1 (R : Hp → V → α → Prop) (H1 : Hp) (f : Nat → Option α) (i : Nat) (G : Hp → VK → (Hp → Prop) → Prop) : Prop :=
  ∀ H' (Q : VK) (N : Hp → Prop), Same H1 H' → (∀ a y H4, f i = some a → Same H' H4 → R H4 y a → Q y H4) → (∀ H3, f i = none → Same H' H3 → N H3) → G H' Q N
theorem Turn1.step (hR : Mn R) (nD : H1 D = none) {i : Nat} (hi : i < 1000) {G : Hp → VK → (Hp → Prop) → Prop} (t : Turn1 R H1 f i G) {H : Hp} (l : Lst R H1 D (upTo f i) H) :
    G H (fun y H4 => ∃ acc, H4 D = some (.lst acc) ∧ acc.length < sizeLine ∧ Lst R H1 D (upTo f (i + 1)) (upd H4 D (.lst (acc ++ [y])))) (Lst R H1 D (upTo f (i + 1))) := by
  refine t H _ _ l.1 (fun a y H4 e s h => ?_) fun H3 e s => ?_
  · rw [upTo_some e]
    exact l.add hR nD s h (Nat.lt_of_le_of_lt (upTo_len f i) hi)
  · rw [upTo_none e]
    exact l.skip hR s
theorem lst_new (nD : H1 D = none) : Lst R H1 D (upTo f 0) (upd H1 D (.lst [])) := ⟨same_upd nD, [], upd_same, .nil⟩
theorem lc_rangeP (hR : Mn R) {lo : Int} {n : Nat} (nD : H1 D = none) (hn : n ≤ 1000)
    (hs : ∀ i, i < n → Turn1 R H1 f i fun H' Q N => g (.int (lo + i)) (wipe σ vs) H' fun σ2 H2 => wipe σ2 vs = wipe σ vs ∧ tt σ2 H2 fun b H3 => if b = true then te σ2 H3 Q else N H3)
    (hd : ∀ H', Lst R H1 D (upTo f n) H' → Qd H') :
    ∃ W : Nat → Nat → Hp → Prop, (∃ m, W 0 m (upd H1 D (.lst []))) ∧ ∀ i m H, W i m H →
      ((Itr lo n).stop i H ∧ Qd H) ∨ ((Itr lo n).go i H ∧ ∃ Nx : Hp → Prop, (∀ H', Nx H' → ∃ m', m' < m ∧ W (i + 1) m' H') ∧ ∀ x H', (Itr lo n).yld i H x H' → g x (wipe σ vs) H' fun σ2 H2 => wipe σ2 vs = wipe σ vs ∧ tt σ2 H2 fun b H3 =>
        if b = true then te σ2 H3 fun y H4 => ∃ acc, H4 D = some (.lst acc) ∧ acc.length < sizeLine ∧ Nx (upd H4 D (.lst (acc ++ [y]))) else Nx H3) :=
  lc_range (fun i H => Lst R H1 D (upTo f i) H) (lst_new nD) (fun i H hi l => Turn1.step (i := i) hR nD (by omega) (hs i hi) l) hd
theorem lc_tupP (hR : Mn R) {a : Addr} {xs : List V} (nD : H1 D = none) (hn : xs.length ≤ 1000) (hl : SqT K H1 a xs)
    (hs : ∀ i x, xs[i]? = some x → Turn1 R H1 f i fun H' Q N => g x (wipe σ vs) H' fun σ2 H2 => wipe σ2 vs = wipe σ vs ∧ tt σ2 H2 fun b H3 => if b = true then te σ2 H3 Q else N H3)
    (hd : ∀ H', Lst R H1 D (upTo f xs.length) H' → Qd H') :
    ∃ W : Nat → Nat → Hp → Prop, (∃ m, W 0 m (upd H1 D (.lst []))) ∧ ∀ i m H, W i m H →
      ((Itt K a).stop i H ∧ Qd H) ∨ ((Itt K a).go i H ∧ ∃ Nx : Hp → Prop, (∀ H', Nx H' → ∃ m', m' < m ∧ W (i + 1) m' H') ∧ ∀ x H', (Itt K a).yld i H x H' → g x (wipe σ vs) H' fun σ2 H2 => wipe σ2 vs = wipe σ vs ∧ tt σ2 H2 fun b H3 =>
        if b = true then te σ2 H3 fun y H4 => ∃ acc, H4 D = some (.lst acc) ∧ acc.length < sizeLine ∧ Nx (upd H4 D (.lst (acc ++ [y]))) else Nx H3) :=
  lc_tup (xs := xs) (fun i H => Lst R H1 D (upTo f i) H) (lst_new nD) (fun i H _ l => sqT_same l.1 hl) (fun i x H hx l => Turn1.step (i := i) hR nD (by
    have := (List.getElem?_eq_some_iff.mp hx).1
    omega) (hs i x hx) l) hd
theorem lc_listP (hR : Mn R) {a : Addr} {xs : List V} (nD : H1 D = none) (hn : xs.length ≤ 1000) (hl : SqL K H1 a xs)
    (hs : ∀ i x, xs[i]? = some x → Turn1 R H1 f i fun H' Q N => g x (wipe σ vs) H' fun σ2 H2 => wipe σ2 vs = wipe σ vs ∧ tt σ2 H2 fun b H3 => if b = true then te σ2 H3 Q else N H3)
    (hd : ∀ H', Lst R H1 D (upTo f xs.length) H' → Qd H') :
    ∃ W : Nat → Nat → Hp → Prop, (∃ m, W 0 m (upd H1 D (.lst []))) ∧ ∀ i m H, W i m H →
      ((Itl K a).stop i H ∧ Qd H) ∨ ((Itl K a).go i H ∧ ∃ Nx : Hp → Prop, (∀ H', Nx H' → ∃ m', m' < m ∧ W (i + 1) m' H') ∧ ∀ x H', (Itl K a).yld i H x H' → g x (wipe σ vs) H' fun σ2 H2 => wipe σ2 vs = wipe σ vs ∧ tt σ2 H2 fun b H3 =>
        if b = true then te σ2 H3 fun y H4 => ∃ acc, H4 D = some (.lst acc) ∧ acc.length < sizeLine ∧ Nx (upd H4 D (.lst (acc ++ [y]))) else Nx H3) :=
  lc_list (xs := xs) (fun i H => Lst R H1 D (upTo f i) H) (lst_new nD) (fun i H _ l => l.1.seq hl) (fun i x H hx l => Turn1.step (i := i) hR nD (by
    have := (List.getElem?_eq_some_iff.mp hx).1
    omega) (hs i x hx) l) hd
theorem lc_enumTP (hR : Mn R) {a : Addr} {xs : List V} (nD : H1 D = none) (hn : xs.length ≤ 1000) (hl : SqT K H1 a xs)
    (hs : ∀ i x, xs[i]? = some x → Turn1 R H1 f i fun H' Q N => ∀ T, H' T = none → g (.ref T) (wipe σ vs) (upd H' T (.tup [.int (i : Nat), x])) fun σ2 H2 => wipe σ2 vs = wipe σ vs ∧ tt σ2 H2 fun b H3 => if b = true then te σ2 H3 Q else N H3)
    (hd : ∀ H', Lst R H1 D (upTo f xs.length) H' → Qd H') :
    ∃ W : Nat → Nat → Hp → Prop, (∃ m, W 0 m (upd H1 D (.lst []))) ∧ ∀ i m H, W i m H →
      ((IteT K a).stop i H ∧ Qd H) ∨ ((IteT K a).go i H ∧ ∃ Nx : Hp → Prop, (∀ H', Nx H' → ∃ m', m' < m ∧ W (i + 1) m' H') ∧ ∀ x H', (IteT K a).yld i H x H' → g x (wipe σ vs) H' fun σ2 H2 => wipe σ2 vs = wipe σ vs ∧ tt σ2 H2 fun b H3 =>
        if b = true then te σ2 H3 fun y H4 => ∃ acc, H4 D = some (.lst acc) ∧ acc.length < sizeLine ∧ Nx (upd H4 D (.lst (acc ++ [y]))) else Nx H3) := by
  refine ⟨fun i m H => m = xs.length - i ∧ i ≤ xs.length ∧ Lst R H1 D (upTo f i) H, ⟨xs.length, by simp, Nat.zero_le _, lst_new nD⟩, ?_⟩
  rintro i m H ⟨rfl, hi, l⟩
  have q := sqT_same l.1 hl
  by_cases hlt : i < xs.length
  · refine .inr ⟨⟨xs, xs[i], q, by simp [hlt]⟩, Lst R H1 D (upTo f (i + 1)), fun H' p' => ⟨xs.length - (i + 1), by omega, rfl, hlt, p'⟩, fun x H' y => ?_⟩
    obtain ⟨T, x, rfl, nT, rfl, y⟩ := y
    exact Turn1.step (i := i) hR nD (by omega) (hs i x (y xs q)) l T nT
  · have e : i = xs.length := by omega
    subst e
    exact .inl ⟨⟨xs, q, rfl⟩, hd H l⟩
end
end My
namespace My
open PySem PySem.Spec PyProof.Rows L2
section
variable {X : Cx} {K : PySem.W.Frag}
theorem sl_tupK (h : X.K = K) : SlR X (rSlT K) := h ▸ sl_tup
theorem sl_listK (h : X.K = K) : SlR X (rSlL K) := h ▸ sl_list
def rIxA (K : PySem.W.Frag) : R2 := fun x y H Q => ∃ p xs i v, x = .ref p ∧ y = .int i ∧ (SqL K H p xs ∨ SqT K H p xs) ∧ atI xs i = some v ∧ Q v H
theorem ix_any : IxR X (rIxA X.K) := by
  intro value slice pins s σ H x y v u Q I rx ry h hs
  obtain ⟨p, xs, i, z, e1, e2, hq, he, q⟩ := h
  rcases hq with hq | hq
  · exact ix_list value slice pins s σ H x y v u Q I rx ry ⟨p, xs, i, z, e1, e2, hq, he, q⟩ hs
  · exact ix_tup value slice pins s σ H x y v u Q I rx ry ⟨p, xs, i, z, e1, e2, hq, he, q⟩ hs
theorem ix_anyK (h : X.K = K) : IxR X (rIxA K) := h ▸ ix_any
theorem ix_tupK (h : X.K = K) : IxR X (rIxT K) := h ▸ ix_tup
theorem ix_listK (h : X.K = K) : IxR X (rIxL K) := h ▸ ix_list
theorem op_inK (h : X.K = K) : OpR X (compareOp .In) (rIn K false) := h ▸ op_in_seq
theorem op_eqDK (h : X.K = K) (hu : X.A.units + 64 < cLine) : OpR X (compareOp .Eq) (rEqD K) := h ▸ op_eqD hu
theorem op_neDK (h : X.K = K) (hu : X.A.units + 64 < cLine) : OpR X (compareOp .NotEq) (rNeD K) := h ▸ op_neD hu
theorem call_lenNK (h : X.K = K) : CallR X (.builtin "len") (rLen K) := h ▸ call_lenN
theorem call_isiK' (h : X.K = K) : CallR X (.builtin "isinstance") (rIsi K) := h ▸ call_isi
theorem pe_fldK {e : Expr} {f : Str} {pos : Pos} {ta : TE} (h : X.K = K) (he : PE X e ta) (hb : attributeBase e f X.env (eval e X.env) = eval e X.env) : PE X (.Attribute e f pos) (tFld K ta f) := h ▸ pe_fld he hb
end
end My
namespace My
open PySem PySem.Spec PyProof.Rows L2
theorem op_notInK {K : PySem.W.Frag} {X : Cx} (h : X.K = K) : OpR X (compareOp .NotIn) (rIn K true) := h ▸ op_notIn_seq
end My
namespace My
open PySem PySem.Spec PyProof.Rows L2
variable {K : PySem.W.Frag}
/-! ### longer lists -/
theorem big1 {n : Nat} (h : n < 900000) : n < sizeLine := by
  rw [sizeLine_eq]
  omega
section
variable {α : Type} {R : Hp → V → α → Prop} {g : TG} {tt : TT} {te : TE} {vs : List Nat} {σ : L2.St} {H1 : Hp} {D : Addr} {Qd : Hp → Prop} {f : Nat → Option α}
theorem Lst.addB (hR : Mn R) (nD : H1 D = none) {as : List α} {a : α} {H H' : Hp} {y : V} (l : Lst R H1 D as H) (s : Same H H') (h : R H' y a) (hn : as.length < 900000) :
    ∃ acc, H' D = some (.lst acc) ∧ acc.length < sizeLine ∧ Lst R H1 D (as ++ [a]) (upd H' D (.lst (acc ++ [y]))) := by
  obtain ⟨s1, ys, hD, p⟩ := l
  have hl := Paired.length p
  refine ⟨ys, s _ _ hD, big1 (by omega), same_put nD (s1.trans s), _, upd_same, ?_⟩
  have t : Tps H' (upd H' D (.lst (ys ++ [y]))) := tps_put (H1 := H1) (s _ _ hD)
  exact Paired.mono hR t (Paired.snoc (Paired.mono hR (same_tps s) p) h)
theorem Turn1.stepB (hR : Mn R) (nD : H1 D = none) {i : Nat} (hi : i < 900000) {G : Hp → VK → (Hp → Prop) → Prop} (t : Turn1 R H1 f i G) {H : Hp} (l : Lst R H1 D (upTo f i) H) :
    G H (fun y H4 => ∃ acc, H4 D = some (.lst acc) ∧ acc.length < sizeLine ∧ Lst R H1 D (upTo f (i + 1)) (upd H4 D (.lst (acc ++ [y])))) (Lst R H1 D (upTo f (i + 1))) := by
  refine t H _ _ l.1 (fun a y H4 e s h => ?_) fun H3 e s => ?_
  · rw [upTo_some e]
    exact l.addB hR nD s h (Nat.lt_of_le_of_lt (upTo_len f i) hi)
  · rw [upTo_none e]
    exact l.skip hR s
theorem lc_listB (hR : Mn R) {a : Addr} {xs : List V} (nD : H1 D = none) (hn : xs.length ≤ 900000) (hl : SqL K H1 a xs)
    (hs : ∀ i x, xs[i]? = some x → Turn1 R H1 f i fun H' Q N => g x (wipe σ vs) H' fun σ2 H2 => wipe σ2 vs = wipe σ vs ∧ tt σ2 H2 fun b H3 => if b = true then te σ2 H3 Q else N H3)
    (hd : ∀ H', Lst R H1 D (upTo f xs.length) H' → Qd H') :
    ∃ W : Nat → Nat → Hp → Prop, (∃ m, W 0 m (upd H1 D (.lst []))) ∧ ∀ i m H, W i m H →
      ((Itl K a).stop i H ∧ Qd H) ∨ ((Itl K a).go i H ∧ ∃ Nx : Hp → Prop, (∀ H', Nx H' → ∃ m', m' < m ∧ W (i + 1) m' H') ∧ ∀ x H', (Itl K a).yld i H x H' → g x (wipe σ vs) H' fun σ2 H2 => wipe σ2 vs = wipe σ vs ∧ tt σ2 H2 fun b H3 =>
        if b = true then te σ2 H3 fun y H4 => ∃ acc, H4 D = some (.lst acc) ∧ acc.length < sizeLine ∧ Nx (upd H4 D (.lst (acc ++ [y]))) else Nx H3) :=
  lc_list (xs := xs) (fun i H => Lst R H1 D (upTo f i) H) (lst_new nD) (fun i H _ l => l.1.seq hl) (fun i x H hx l => Turn1.stepB (i := i) hR nD (by
    have := (List.getElem?_eq_some_iff.mp hx).1
    omega) (hs i x hx) l) hd
end
/-- a value on whose ways the rest does not hang -/
def tCutE (t : TE) : TE := fun σ H Q => ∃ Mid : V → Hp → Prop, t σ H Mid ∧ ∀ x H', Mid x H' → Q x H'
theorem pe_cut {X : Cx} {e : Expr} {t : TE} (h : PE X e t) : PE X e (tCutE t) := by
  refine ⟨fun pins s σ H Q I q => ?_⟩
  obtain ⟨Mid, hm, hq⟩ := q
  exact thn (h.run pins s σ H Mid I hm) fun u s1 ⟨v, H', I', r, m⟩ => ⟨v, H', I', r, hq v H' m⟩
theorem rd_disp {trs : List (TE × TE)} {σ : L2.St} {H : Hp} {Q : VK} (h : ∀ p, H p = none → tPairs trs σ (upd H p (.dK [])) fun ps H2 => H2 p = some (.dK []) ∧ ∃ kvs : List (Key × V), ps = kvs.map (fun kv => (kV kv.1, kv.2)) ∧ kvs.length ≤ 15 ∧ Q (.ref p) (upd H2 p (.dK (mergeK [] kvs)))) : tDisp trs σ H Q := h
theorem rd_pairs {tk tv : TE} {r : List (TE × TE)} {σ : L2.St} {H : Hp} {Q : List (V × V) → Hp → Prop} (h : tk σ H fun x H1 => tv σ H1 fun y H2 => tPairs r σ H2 fun ps H3 => Q ((x, y) :: ps) H3) : tPairs ((tk, tv) :: r) σ H Q := h
theorem rd_pairs0 {σ : L2.St} {H : Hp} {Q : List (V × V) → Hp → Prop} (h : Q [] H) : tPairs [] σ H Q := h
theorem rd_dget2 {td ty tx : TE} {σ : L2.St} {H : Hp} {Q : VK} (h : td σ H fun x H1 => ∃ a, x = .ref a ∧ IsD H1 a ∧ ty σ H1 fun y H2 => tx σ H2 fun z H3 => ∃ o, DGet H3 a y o ∧ Q (o.getD z) H3) : tDGet2 td ty tx σ H Q := h
end My
namespace My
open PySem PySem.Spec PyProof.Rows L2 PySem.W PySem.Calls
/-! ### sorted of what reads as data: lists of tuples of ints, and a tuple of ints -/
section
variable {prog : Program} {w : World} {A : Around} {E : Value → Shared → Prop} {s : Shared}
theorem collect_tup {l : Addr} {vs : List Value} {Q : List Value → Shared → Prop} {o : Obj} {n : Nat} (ho : s.heap.get? l = some o) (hc : o.cls = .type "tuple") (hd : o.data = .seq vs.toArray n)
    (h : Q vs { s with heap := (s.heap.push (seqObj "list" #[] 0)).update s.heap.objs.size (Obj.mapSeq (· ++ vs.toArray)) }) (hsz : vs.length ≤ sizeLine) :
    wpAny (model prog w) A (collect (.ref l)) Q E s := by
  unfold collect
  refine wpAny_bind (wpAny_runValue (codeAny_builtin entry_proto_collect' ?_))
  show wpAny _ _ (do again (.builtin "list.__iadd__" ⟨[← newList [], .ref l], []⟩)) _ _ s
  refine wpAny_bind (wpAny_newList (wpAny_pure ⟨Code.quiet_builtin _ (by decide +kernel), codeAny_builtin entry_list_iadd' ?_⟩))
  show wpAny _ _ (Builtin.List.listExtendWith (.ref s.heap.objs.size) (.ref l) (.ref s.heap.objs.size)) _ _ { s with heap := s.heap.push (seqObj "list" #[] 0) }
  unfold Builtin.List.listExtendWith
  have ho' : (s.heap.push (seqObj "list" #[] 0)).get? l = some o := Heap.get?_push_of_some _ ho
  refine wpAny_bind (wpAny_typeOf (T := "tuple") ⟨o, ho', hc⟩ ?_)
  have ht : (Value.type "tuple" == Value.type "tuple") = true := by rfl
  rw [if_pos (by rw [ht]; simp)]
  refine wpAny_bind (listItems_at ho' hd ?_)
  refine wpAny_bind (listItems_at (xs := #[]) (n := 0) (Heap.get?_push_size _ rfl) rfl ?_)
  rw [if_neg (by simp)]
  refine wpAny_bind (listUpdate_at (xs := #[]) (n := 0) (Heap.get?_push_size _ rfl) rfl ?_ (Nat.zero_le _) (by show (#[] ++ vs.toArray).size ≤ sizeLine + 1; simp only [Array.size_append, List.size_toArray, List.length_nil]; omega))
  refine wpAny_pure ?_
  show wpAny (model prog w) A (do
      let o ← load s.heap.objs.size
      match o.data with
      | .seq xs _ => pure xs.toList
      | _ => unsupported "internal:collect") Q E { s with heap := (s.heap.push (seqObj "list" #[] 0)).update s.heap.objs.size (Obj.mapSeq (· ++ vs.toArray)) }
  refine wpAny_bind (wpAny_load (get?_update_seq (Heap.get?_push_size _ rfl) _) ?_)
  show wpAny _ _ (pure ((#[] : Array Value) ++ vs.toArray).toList) Q E _
  rw [show ((#[] : Array Value) ++ vs.toArray).toList = vs by simp]
  exact wpAny_pure h
theorem sorted_ofT {l : Addr} {vs : List Value} {Q : Value → Shared → Prop} {o : Obj} {n : Nat} (ho : s.heap.get? l = some o) (hc : o.cls = .type "tuple") (hd : o.data = .seq vs.toArray n) (hL : vs.length ≤ sizeLine) (ha2 : ∀ x, argsOk "list.sort" ⟨[.ref x], []⟩)
    (body : ∀ E' : Value → Shared → Prop, wpAny (model prog w) A.in1.in1 (Builtin.«list.sort» ⟨[.ref (s.heap.objs.size + 1)], []⟩) (fun f s' => f = .done (.ret .none) ∧ Q (.ref (s.heap.objs.size + 1)) s') E' { s with heap := copyHeap s.heap vs }) :
    wpAny (model prog w) A (call (.builtin "sorted") [.ref l]) Q E s := by
  refine call_function_entry_kw kind_sorted plain_sorted entry_sorted (args_sorted1 _) ?_
  unfold Builtin.«sorted»
  refine wpAny_bind (m := checkCount "sorted" 1 1 _) (wpAny_pure ?_)
  refine wpAny_bind (collect_tup ho hc hd ?_ hL)
  refine wpAny_bind (wpAny_newList ?_ hL)
  have hsz : ((s.heap.push (seqObj "list" #[] 0)).update s.heap.objs.size (Obj.mapSeq (· ++ vs.toArray))).objs.size = s.heap.objs.size + 1 := by
    rw [Heap.size_update, size_push']
  show wpAny _ _ _ _ _ { s with heap := copyHeap s.heap vs }
  rw [hsz]
  refine wpAny_bind (wpAny_holding (wpAny_call_entry_kw slot_list_sort ⟨_, copyHeap_at s.heap vs, rfl⟩ entry_list_sort ?body (ha2 _)))
  case body =>
    show wpAny (model prog w) A.in1.in1 (Builtin.«list.sort» ⟨[.ref (s.heap.objs.size + 1)], []⟩) _ _ _
    refine wpAny_mono (body _) (fun f s' hf => ?_) fun _ _ e => e
    obtain ⟨rfl, hq⟩ := hf
    exact ⟨_, rfl, wpAny_pure ⟨_, rfl, hq⟩⟩
theorem sorted_dataT {β : Type} {vs : List Value} {bs : List β} {enc : β → PyData} {R : Value → β → Prop} {l : Addr} {Q : Value → Shared → Prop} {o : Obj} {n : Nat} (ho : s.heap.get? l = some o) (hc : o.cls = .type "tuple") (hd : o.data = .seq vs.toArray n) (e : EachIs R vs bs) (er : EachIs (fun v b => ∃ as, Reads s.heap v (enc b) as) vs bs) (hal : AllAlike (bs.map enc)) (hk : Sortable (bs.map enc)) (hL : bs.length ≤ sizeLine)
    (hu : ∀ b, b ∈ bs → A.units + 2 + (enc b).depth < cLine) (h : ∀ out, out.length = bs.length → EachIs R out (bs.mergeSort (dataLe false enc)) → Q (.ref (s.heap.objs.size + 1)) { s with heap := sortedAll s.heap vs (List.toArray out) }) :
    wpAny (model prog w) A (call (.builtin "sorted") [.ref l]) Q E s := by
  have er' : EachIs (fun v b => ∃ as, Reads (sortingHeap (copyHeap s.heap vs) (s.heap.objs.size + 1) vs) v (enc b) as) vs bs := er.mono fun _ _ ⟨as, r⟩ => ⟨as, PyProof.Rows.Reads.keeps (fun _ _ => sorting_copy_old) r⟩
  have hL' : vs.length ≤ sizeLine := by rw [e.length]; exact hL
  exact sorted_ofT ho hc hd hL' (fun _ => args_list_sort _) fun _ => list_sort_vals (s := { s with heap := copyHeap s.heap vs }) (copyHeap_at s.heap vs) (SortsAt.data (s := { s with heap := sortingHeap (copyHeap s.heap vs) (s.heap.objs.size + 1) vs }) (each_map (R := fun v d => ∃ as, Reads (sortingHeap (copyHeap s.heap vs) (s.heap.objs.size + 1) vs) v d as) enc er') hal hk (bound_map hu)) hL' ⟨rfl, h _ (by rw [sortVals_length false rfl]; exact e.length) (sortVals_data false e er' hal)⟩
end
section
variable {X : Cx}
/-- a tuple of ints, its first one told -/
def TupN (K : PySem.W.Frag) (H : Hp) (v : V) (p : Int × List Int) : Prop := ∃ t, v = .ref t ∧ SqT K H t ((p.1 :: p.2).map V.int)
def lsN (p : Int × List Int) : List Int := p.1 :: p.2
theorem dpAll_ints {K : PySem.W.Frag} {H : Hp} : ∀ ns : List Int, DpAll K H (ns.map V.int) (ns.map PyData.int)
  | [] => .nil
  | n :: ns => .cons (.int n) (dpAll_ints ns)
theorem each_refs {R : V → Int × List Int → Prop} : ∀ {xs : List V} {its : List Value} {L : List (Int × List Int)}, Vals xs its → Paired R xs L → (∀ v p, R v p → ∃ t, v = V.ref t) → EachIs (fun u p => ∃ t, u = Value.ref t ∧ R (.ref t) p) its L
  | _, _, _, .nil, .nil, _ => .nil
  | _, _, _, .cons r rs, .cons h t, hR => by
    obtain ⟨a, e⟩ := hR _ _ h
    subst e
    cases r
    exact .cons ⟨a, rfl, h⟩ (each_refs rs t hR)
theorem refs_each {R : V → Int × List Int → Prop} : ∀ {out : List Value} {L : List (Int × List Int)}, EachIs (fun u p => ∃ t, u = Value.ref t ∧ R (.ref t) p) out L → ∃ ys, Vals ys out ∧ Paired R ys L
  | _, _, .nil => ⟨[], .nil, .nil⟩
  | _, _, .cons ⟨t, e, h⟩ r => by
    obtain ⟨ys, h1, h2⟩ := refs_each r
    subst e
    exact ⟨.ref t :: ys, .cons rfl h1, .cons h h2⟩
/-- sorted(xs) of tuples of ints: the same, ascending -/
def rSortD (K : PySem.W.Frag) : List V → Hp → VK → Prop := fun vs H Q => ∃ (a : Addr) (xs : List V) (L : List (Int × List Int)), vs = [.ref a] ∧ SqL K H a xs ∧ Paired (TupN K H) xs L ∧ xs.length ≤ 1000 ∧
  ∀ (ys : List V) (L' : List (Int × List Int)) (p : Addr), L'.Perm L → L'.Pairwise (fun x y => lsN x ≤ lsN y) → Paired (TupN K H) ys L' → H p = none → Q (.ref p) (upd H p (.lst ys))
theorem le_trans' (a b c : Int × List Int) (h1 : decide (lsN a ≤ lsN b) = true) (h2 : decide (lsN b ≤ lsN c) = true) : decide (lsN a ≤ lsN c) = true := decide_eq_true (List.le_trans (of_decide_eq_true h1) (of_decide_eq_true h2))
theorem le_total' (a b : Int × List Int) : (decide (lsN a ≤ lsN b) || decide (lsN b ≤ lsN a)) = true := by
  rcases List.le_total (lsN a) (lsN b) with h | h
  · simp [h]
  · simp [h]
theorem depth_tupN (p : Int × List Int) : (PyData.tuple ((lsN p).map PyData.int)).depth = 1 := by
  show PyData.depthAll ((lsN p).map PyData.int) + 1 = 1
  rw [depth_ints]
theorem cr_sortD (hu : X.A.units + 64 < cLine) : CallR X (.builtin "sorted") (rSortD X.K) := by
  intro pins s σ H vs us Q I r h
  obtain ⟨a, xs, L, rfl, hs, hp, hlen, q⟩ := h
  obtain ⟨its, rv, hl, hz⟩ := I.list hs
  obtain ⟨u, rfl, ru⟩ := vals1 r
  obtain rfl : u = Value.ref a := ru
  have lx := Paired.length hp
  have e := each_refs rv hp fun v p ⟨t, e, _⟩ => ⟨t, e⟩
  have er : EachIs (fun v (p : Int × List Int) => ∃ as, Reads s.heap v (PyData.tuple ((lsN p).map PyData.int)) as) its L := by
    refine e.mono fun u p hu => ?_
    obtain ⟨t, e1, t', e2, h⟩ := hu
    cases e2
    exact Dp.reads I _ _ _ (.tup h (dpAll_ints _)) (by rw [e1]; rfl)
  have hal : AllAlike (L.map fun p => PyData.tuple ((lsN p).map PyData.int)) := AllAlike.of fun b b' => alike_ints (lsN b) (lsN b')
  have hsr : Sortable (L.map fun p => PyData.tuple ((lsN p).map PyData.int)) := Sortable.tuples fun b => ⟨.int b.1, b.2.map PyData.int, rfl⟩
  refine sorted_data (enc := fun p => PyData.tuple ((lsN p).map PyData.int)) hl.isList e er hal hsr (by rw [← lx]; exact hz) (fun b _ => by rw [depth_tupN]; omega) fun out hl' eo => ?_
  · obtain ⟨ys, rys, hys⟩ := refs_each eo
    have ele : dataLe false (fun p : Int × List Int => PyData.tuple ((lsN p).map PyData.int)) = fun p q => decide (lsN p ≤ lsN q) := dataLe_rows lsN
    have hpm := List.mergeSort_perm L (dataLe false fun p : Int × List Int => PyData.tuple ((lsN p).map PyData.int))
    have hso : (L.mergeSort (dataLe false fun p : Int × List Int => PyData.tuple ((lsN p).map PyData.int))).Pairwise (fun x y => lsN x ≤ lsN y) := by
      rw [ele]
      refine (List.pairwise_mergeSort le_trans' le_total' L).imp fun h => of_decide_eq_true h
    obtain ⟨ep, he'⟩ := PyProof.Rows.sortedAll_at s.heap its (List.toArray out)
    have hlen2 : ys.length ≤ sizeLine := by
      have h1 := Paired.length hys
      rw [h1, hpm.length_eq, ← lx]
      exact hz
    exact ⟨.ref _, upd H (s.heap.objs.size + 1) (.lst ys), I.laid (t' := s.toks) (fun _ _ => PyProof.Rows.sortedAll_old) (Nat.le_succ _) ⟨hlen2, out, ep, rys, he'⟩, rfl, q ys _ _ hpm hso hys (I.hok.fresh (Nat.le_succ _))⟩
/-- sorted(t) of a tuple of ints: a list of the same, ascending -/
def rSortTI (K : PySem.W.Frag) : List V → Hp → VK → Prop := fun vs H Q => ∃ (a : Addr) (ns : List Int), vs = [.ref a] ∧ SqT K H a (ns.map V.int) ∧
  ∀ (ns' : List Int) (p : Addr), ns'.Perm ns → ns'.Pairwise (· ≤ ·) → H p = none → Q (.ref p) (upd H p (.lst (ns'.map V.int)))
theorem each_ints : ∀ {ns : List Int} {its : List Value}, Vals (ns.map V.int) its → EachIs (fun u (n : Int) => ∃ t, u = Value.int n t) its ns
  | [], _, .nil => .nil
  | n :: ns, _, .cons r rs => .cons r (each_ints rs)
theorem ints_each : ∀ {ns : List Int} {its : List Value}, EachIs (fun u (n : Int) => ∃ t, u = Value.int n t) its ns → Vals (ns.map V.int) its
  | _, _, .nil => .nil
  | _, _, .cons r rs => .cons r (ints_each rs)
theorem cr_sortTI (hu : X.A.units + 64 < cLine) : CallR X (.builtin "sorted") (rSortTI X.K) := by
  intro pins s σ H vs us Q I r h
  obtain ⟨a, ns, rfl, hs, q⟩ := h
  obtain ⟨its, rv, ⟨o, ho, hc, n, hd⟩, hz⟩ := I.tuple hs
  obtain ⟨u, rfl, ru⟩ := vals1 r
  obtain rfl : u = Value.ref a := ru
  have e := each_ints rv
  rw [List.length_map] at hz
  refine sorted_dataT (enc := fun n : Int => PyData.int n) ho hc hd e (e.mono fun u n ⟨t, e⟩ => ⟨_, by rw [e]; exact Reads.int n t⟩) (AllAlike.of fun b b' => rfl) (Sortable.others fun b => ⟨(fun z => by cases z), fun xs z => by cases z⟩) hz (fun b _ => ?_) fun out hl' eo => ?_
  · show X.A.units + 2 + 0 < cLine
    omega
  · have ele : dataLe false (fun n : Int => PyData.int n) = fun a b => decide (a ≤ b) := dataLe_int fun n => n
    have hpm := List.mergeSort_perm ns (dataLe false fun n : Int => PyData.int n)
    have hso : (ns.mergeSort (dataLe false fun n : Int => PyData.int n)).Pairwise (· ≤ ·) := by
      rw [ele]
      refine (List.pairwise_mergeSort (le := fun a b : Int => decide (a ≤ b)) (fun a b c h1 h2 => decide_eq_true (Int.le_trans (of_decide_eq_true h1) (of_decide_eq_true h2))) (fun a b => by rcases Int.le_total a b with h | h <;> simp [h]) ns).imp fun h => of_decide_eq_true h
    obtain ⟨ep, he'⟩ := PyProof.Rows.sortedAll_at s.heap its (List.toArray out)
    have hlen2 : ((ns.mergeSort (dataLe false fun n : Int => PyData.int n)).map V.int).length ≤ sizeLine := by
      rw [List.length_map, hpm.length_eq]
      exact hz
    exact ⟨.ref _, upd H (s.heap.objs.size + 1) (.lst ((ns.mergeSort (dataLe false fun n : Int => PyData.int n)).map V.int)), I.laid (t' := s.toks) (fun _ _ => PyProof.Rows.sortedAll_old) (Nat.le_succ _) ⟨hlen2, out, ep, ints_each eo, he'⟩, rfl, q _ _ hpm hso (I.hok.fresh (Nat.le_succ _))⟩
/-- x < y of data that are alike -/
def rLtD (K : PySem.W.Frag) : R2 := fun x y H Q => ∃ da db, Dp K H x da ∧ Dp K H y db ∧ alike da db = true ∧ da ≠ .none ∧ da.depth ≤ 60 ∧ Q (.bl (dataLt da db)) H
theorem op_ltD (hu : X.A.units + 64 < cLine) : OpR X (compareOp .Lt) (rLtD X.K) := by
  intro pins s σ H x y v u Q I rx ry h
  obtain ⟨d, e, hd, he, al, hn, hdep, q⟩ := h
  obtain ⟨as, r1⟩ := Dp.reads I d x v hd rx
  obtain ⟨bs, r2⟩ := Dp.reads I e y u he ry
  exact lt_data r1 r2 al hn (by omega) ⟨.bl _, H, I, rfl, q⟩
end
end My
namespace My
open PySem PySem.Spec PyProof.Rows L2
/-! ### a list or a tuple walked -/
def iSeqA (K : PySem.W.Frag) (te : TE) : TI := fun σ H R => te σ H fun x H1 => ∃ a, x = .ref a ∧ (((∃ xs, SqL K H1 a xs) ∧ R (Itl K a) H1) ∨ ((∃ xs, SqT K H1 a xs) ∧ R (Itt K a) H1))
theorem pi_seqA {X : Cx} {tg l : Expr} {tl : TE} (hl : PE X l tl) : PI X tg l (iSeqA X.K tl) := by
  refine ⟨fun pins s σ H R I h => ?_⟩
  refine thn (hl.run pins s σ H _ I h) fun v s1 ⟨x, H1, I1, r1, q1⟩ => ?_
  obtain ⟨a, e, q⟩ := q1
  subst e
  cases r1
  rcases q with ⟨⟨xs, hq⟩, q⟩ | ⟨⟨xs, hq⟩, q⟩
  · obtain ⟨its, rv, p, hz⟩ := I1.list hq
    refine wpAny_pyIter_list p.isList ?_
    refine ⟨s1.heap.objs.size, [s1.heap.objs.size], _, _, H1, rfl, I1.kept (t' := s1.toks) fun b o e => Heap.get?_push_of_some _ e, turn_list a _, ⟨_, Heap.get?_push_size _ rfl, rfl, rfl⟩, fun b hb => ?_, q⟩
    have e : b = s1.heap.objs.size := by simpa using hb
    subst e
    exact I1.fpOk (Nat.le_refl _) (I1.hok.fresh (Nat.le_refl _))
  · obtain ⟨its, rv, p, hz⟩ := I1.tuple hq
    refine wpAny_pyIter_tuple (show s1.heap.IsTuple a its.toArray from p) ?_
    refine ⟨s1.heap.objs.size, [s1.heap.objs.size], _, _, H1, rfl, I1.kept (t' := s1.toks) fun b o e => Heap.get?_push_of_some _ e, turn_tuple a _, ⟨_, Heap.get?_push_size _ rfl, rfl, rfl⟩, fun b hb => ?_, q⟩
    have e : b = s1.heap.objs.size := by simpa using hb
    subst e
    exact I1.fpOk (Nat.le_refl _) (I1.hok.fresh (Nat.le_refl _))
variable {K : PySem.W.Frag}
theorem rd_seqA {te : TE} {σ : L2.St} {H : Hp} {R : It → Hp → Prop} (h : te σ H fun x H1 => ∃ a, x = .ref a ∧ (((∃ xs, SqL K H1 a xs) ∧ R (Itl K a) H1) ∨ ((∃ xs, SqT K H1 a xs) ∧ R (Itt K a) H1))) : iSeqA K te σ H R := h
/-- an address of a list or a tuple of these values -/
def Sq (K : PySem.W.Frag) (H : Hp) (a : Addr) (xs : List V) : Prop := SqL K H a xs ∨ SqT K H a xs
theorem Sq.same {H H' : Hp} {a : Addr} {xs : List V} (s : Same H H') (h : Sq K H a xs) : Sq K H' a xs := h.imp (Same.seq s) (sqT_same s)
theorem Sq.l {H : Hp} {a : Addr} {xs : List V} (h : H a = some (.lst xs)) : Sq K H a xs := .inl (.of h)
theorem Sq.t {H : Hp} {a : Addr} {xs : List V} (h : H a = some (.tup xs)) : Sq K H a xs := .inr (.of h)
section
variable {α : Type} {R : Hp → V → α → Prop} {g : TG} {tt : TT} {te : TE} {vs : List Nat} {σ : L2.St} {H1 : Hp} {Qd : Addr → Hp → Prop} {f : Nat → Option α}
theorem lc_seqA (hR : Mn R) {a : Addr} {xs : List V} (hn : xs.length ≤ 1000) (hl : Sq K H1 a xs)
    (hs : ∀ i x, xs[i]? = some x → Turn1 R H1 f i fun H' Q N => g x (wipe σ vs) H' fun σ2 H2 => wipe σ2 vs = wipe σ vs ∧ tt σ2 H2 fun b H3 => if b = true then te σ2 H3 Q else N H3)
    (hd : ∀ D H', Lst R H1 D (upTo f xs.length) H' → Qd D H') {RR : It → Hp → Prop}
    (hRR : RR = fun J H1 => ∀ D, H1 D = none → ∃ W : Nat → Nat → Hp → Prop, (∃ m, W 0 m (upd H1 D (.lst []))) ∧ ∀ i m H, W i m H →
      (J.stop i H ∧ Qd D H) ∨ (J.go i H ∧ ∃ Nx : Hp → Prop, (∀ H', Nx H' → ∃ m', m' < m ∧ W (i + 1) m' H') ∧ ∀ x H', J.yld i H x H' → g x (wipe σ vs) H' fun σ2 H2 => wipe σ2 vs = wipe σ vs ∧ tt σ2 H2 fun b H3 =>
        if b = true then te σ2 H3 fun y H4 => ∃ acc, H4 D = some (.lst acc) ∧ acc.length < sizeLine ∧ Nx (upd H4 D (.lst (acc ++ [y]))) else Nx H3)) :
    ((∃ xs, SqL K H1 a xs) ∧ RR (Itl K a) H1) ∨ ((∃ xs, SqT K H1 a xs) ∧ RR (Itt K a) H1) := by
  subst hRR
  rcases hl with hl | hl
  · exact .inl ⟨⟨_, hl⟩, fun D nD => lc_listP hR nD hn hl hs fun H' l => hd D H' l⟩
  · exact .inr ⟨⟨_, hl⟩, fun D nD => lc_tupP hR nD hn hl hs fun H' l => hd D H' l⟩
end
section
variable {g : TG} {tb : TS} {D : Ends} {σ : L2.St} {H : Hp}
theorem for_seqA {H0 : Hp} {a : Addr} {xs : List V} (Pv : Nat → L2.St → Hp → Prop) (h : Sq K H0 a xs) (h0 : Pv 0 σ H) (hl : ∀ i σ' H', Pv i σ' H' → Same H0 H')
    (hs : ∀ i x σ H, xs[i]? = some x → Pv i σ H → g x σ H fun σ2 H2 => tb { D with nx := Pv (i + 1), ct := Pv (i + 1), bk := D.nx } σ2 H2) (hd : ∀ σ H, Pv xs.length σ H → D.nx σ H) {RR : It → Hp → Prop}
    (hRR : RR = fun J H1 => ∃ W : Nat → Nat → L2.St → Hp → Prop, (∃ m, W 0 m σ H1) ∧ ∀ i m σ H, W i m σ H →
      (J.stop i H ∧ D.nx σ H) ∨ (J.go i H ∧ ∃ N : L2.St → Hp → Prop, (∀ σ' H', N σ' H' → ∃ m', m' < m ∧ W (i + 1) m' σ' H') ∧ ∀ x H', J.yld i H x H' → g x σ H' fun σ2 H2 => tb { D with nx := N, ct := N, bk := D.nx } σ2 H2)) :
    ((∃ xs, SqL K H a xs) ∧ RR (Itl K a) H) ∨ ((∃ xs, SqT K H a xs) ∧ RR (Itt K a) H) := by
  subst hRR
  rcases h with h | h
  · exact .inl ⟨⟨_, (hl 0 σ H h0).seq h⟩, for_list Pv h0 (fun i σ' H' hi p => (hl i σ' H' p).seq h) hs hd⟩
  · exact .inr ⟨⟨_, sqT_same (hl 0 σ H h0) h⟩, for_tup Pv h0 (fun i σ' H' hi p => sqT_same (hl i σ' H' p) h) hs hd⟩
end
end My
namespace My
open PySem PySem.Spec PyProof.Rows L2
/-! ### zip of a tuple and a list -/
abbrev zmH1 (h : Heap) (l1 : Addr) : Heap := h.push { cls := .type "tuple_iterator", data := .fields #[.ref l1, .int 0 0] }
abbrev zmH2 (h : Heap) (l1 l2 : Addr) : Heap := (zmH1 h l1).push { cls := .type "list_iterator", data := .fields #[.ref l2, .int 0 0] }
abbrev zmH3 (h : Heap) (l1 l2 : Addr) : Heap := (zmH2 h l1 l2).push { cls := .type "tuple", data := .seq #[.ref h.objs.size, .ref (zmH1 h l1).objs.size] }
abbrev zmH4 (h : Heap) (l1 l2 : Addr) : Heap := (zmH3 h l1 l2).push { cls := .type "tuple", data := .seq #[.none, .none] }
abbrev zmH5 (h : Heap) (l1 l2 : Addr) : Heap := (zmH4 h l1 l2).push { cls := .type "zip", data := .fields #[.none, .bool false, .bool false, .ref (zmH2 h l1 l2).objs.size, .ref (zmH3 h l1 l2).objs.size] }
theorem meets_zm_new (l1 l2 : Addr) (xs ys : Array Value) :
    Meets (Builtin.«zip.__new__» ⟨[.type "zip", .ref l1, .ref l2], []⟩) (fun _ R s => s.heap.IsTuple l1 xs ∧ s.heap.IsList l2 ys ∧
      R (.ok (.ret (.ref (zmH4 s.heap l1 l2).objs.size))) { s with heap := zmH5 s.heap l1 l2 }) :=
  .of_wp fun prog w A R s h => by
    obtain ⟨hp, g, d, tk, os⟩ := s
    obtain ⟨hl1, hl2, h⟩ := h
    have hsub := sub_zip
    have hL1 : Heap.IsTuple (Shared.heap ⟨hp, g, d, tk, os⟩) l1 xs := hl1
    have hL2 : Heap.IsList (Shared.heap ⟨hp.push { cls := .type "tuple_iterator", data := .fields #[.ref l1, .int 0 0] }, g, d, tk, os⟩) l2 ys := Heap.IsList.push hl2 _
    wp_walk using wpAny_pyIter_tuple hL1, wpAny_pyIter_list hL2
    exact ⟨_, rfl, h⟩
section
variable {prog : Program} {w : World} {A : Around} {E : Value → Shared → Prop} {s : Shared}
theorem call_zm {l1 l2 : Addr} {xs ys : Array Value} {Q : Value → Shared → Prop} (hl1 : s.heap.IsTuple l1 xs) (hl2 : s.heap.IsList l2 ys)
    (h : ∀ h', IsZip h' (s.heap.objs.size + 4) (s.heap.objs.size + 2) (s.heap.objs.size + 3) .none → IsPair h' (s.heap.objs.size + 2) (.ref s.heap.objs.size) (.ref (s.heap.objs.size + 1)) →
      IsPair h' (s.heap.objs.size + 3) .none .none → h'.IsTupleIter s.heap.objs.size l1 0 → h'.IsListIter (s.heap.objs.size + 1) l2 0 → h'.objs.size = s.heap.objs.size + 5 →
      (∀ c o, s.heap.get? c = some o → h'.get? c = some o) → Q (.ref (s.heap.objs.size + 4)) { s with heap := h' }) :
    wpAny (model prog w) A (call (.type "zip") [.ref l1, .ref l2]) Q E s := by
  refine callType_new F.called_zip (by decide) (F.typeCall_zip_2 _ _) (F.newCall_zip_2 _ _) (fun obj => F.args_object_init_3 obj _ _) F.entry_zip_new
    (meets_zm_new l1 l2 xs ys) ⟨hl1, hl2, ?_⟩
  have z1 : (zmH1 s.heap l1).objs.size = s.heap.objs.size + 1 := Heap.size_push ..
  have z2 : (zmH2 s.heap l1 l2).objs.size = s.heap.objs.size + 2 := by rw [Heap.size_push, z1]
  have z3 : (zmH3 s.heap l1 l2).objs.size = s.heap.objs.size + 3 := by rw [Heap.size_push, z2]
  have z4 : (zmH4 s.heap l1 l2).objs.size = s.heap.objs.size + 4 := by rw [Heap.size_push, z3]
  have z5 : (zmH5 s.heap l1 l2).objs.size = s.heap.objs.size + 5 := by rw [Heap.size_push, z4]
  have g5 : (zmH5 s.heap l1 l2).get? (zmH4 s.heap l1 l2).objs.size = some _ := Heap.get?_push_size _ rfl
  have g4 : (zmH5 s.heap l1 l2).get? (zmH3 s.heap l1 l2).objs.size = some _ := Heap.get?_push_of_some _ (Heap.get?_push_size _ rfl)
  have g3 : (zmH5 s.heap l1 l2).get? (zmH2 s.heap l1 l2).objs.size = some _ := Heap.get?_push_of_some _ (Heap.get?_push_of_some _ (Heap.get?_push_size _ rfl))
  have g2 : (zmH5 s.heap l1 l2).get? (zmH1 s.heap l1).objs.size = some _ := Heap.get?_push_of_some _ (Heap.get?_push_of_some _ (Heap.get?_push_of_some _ (Heap.get?_push_size _ rfl)))
  have g1 : (zmH5 s.heap l1 l2).get? s.heap.objs.size = some _ := Heap.get?_push_of_some _ (Heap.get?_push_of_some _ (Heap.get?_push_of_some _ (Heap.get?_push_of_some _ (Heap.get?_push_size _ rfl))))
  show _ ∧ _
  rw [z2, z3, z4] at g5
  rw [z1, z2] at g3
  rw [z3] at g4
  rw [z1] at g2
  rw [z4]
  exact ⟨⟨_, g5, rfl⟩, h _ g5 g3 g4 ⟨_, g1, rfl, rfl⟩ ⟨_, g2, rfl, rfl⟩ z5 fun c o x =>
    Heap.get?_push_of_some _ (Heap.get?_push_of_some _ (Heap.get?_push_of_some _ (Heap.get?_push_of_some _ (Heap.get?_push_of_some _ x))))⟩
end
def ItzM (K : PySem.W.Frag) (a b : Addr) : It :=
  ⟨fun i H => ∃ (xs ys : List V) (x y : V), SqT K H a xs ∧ SqL K H b ys ∧ xs[i]? = some x ∧ ys[i]? = some y,
    fun i H v H' => ∃ T x y, v = .ref T ∧ H T = none ∧ H' = upd H T (.tup [x, y]) ∧ (∀ xs, SqT K H a xs → xs[i]? = some x) ∧ ∀ ys, SqL K H b ys → ys[i]? = some y,
    fun i H => ∃ xs ys : List V, SqT K H a xs ∧ SqL K H b ys ∧ (xs.length = i ∧ i ≤ ys.length)⟩
theorem zip_sep {z TI TO i1 i2 a b : Addr} (D : ZipApart z TI TO i1 i2 a b) : ZipSep2 z TI TO i1 i2 [i1, a] [i2, b] where
  TIz := D.TIz
  TOz := D.TOz
  TITO := D.TITO
  TIi1 := D.TIi1
  mem1 := by simp
  zf1 := by
    simp
    exact ⟨D.i1z.symm, D.l1z.symm⟩
  Tf1 := by
    simp
    exact ⟨D.TOi1, D.l1TO.symm⟩
  TIi2 := D.TIi2
  mem2 := by simp
  zf2 := by
    simp
    exact ⟨D.i2z.symm, D.l2z.symm⟩
  Tf2 := by
    simp
    exact ⟨D.TOi2, D.l2TO.symm⟩
  sep1_2 := by
    simp
    exact ⟨D.i12, D.l2i1.symm⟩
  sep2_1 := by
    simp
    exact ⟨D.i12.symm, D.l1i2.symm⟩
theorem turn_zm {P : Program} {w : World} {K : PySem.W.Frag} {elts : List Expr} {kk : Nat} {tpos : Pos} {a b z TI TO i1 i2 : Addr} (D : ZipApart z TI TO i1 i2 a b) :
    Turn P w K (.Tuple elts kk tpos) (ItzM K a b) [z, TI, TO, i1, i2] z (fun i h => IsZip h z TI TO .none ∧ IsPair h TI (.ref i1) (.ref i2) ∧ (∃ x y, IsPair h TO x y) ∧ h.IsTupleIter i1 a i ∧ h.IsListIter i2 b i) where
  mem := by simp
  obj := fun i h st c hc => by
    obtain ⟨hz, hTI, ⟨x, y, hTO⟩, ⟨o1, e1, _, d1⟩, ⟨o2, e2, _, d2⟩⟩ := st
    have e' : c = z ∨ c = TI ∨ c = TO ∨ c = i1 ∨ c = i2 := by simpa using hc
    rcases e' with q | q | q | q | q
    · rw [q]; exact ⟨_, hz, fun v q => nomatch q⟩
    · rw [q]; exact ⟨_, hTI, fun v q => nomatch q⟩
    · rw [q]; exact ⟨_, hTO, fun v q => nomatch q⟩
    · rw [q]; exact ⟨o1, e1, fun v q => by rw [d1] at q; cases q⟩
    · rw [q]; exact ⟨o2, e2, fun v q => by rw [d2] at q; cases q⟩
  keep := fun i h h' st k => by
    obtain ⟨hz, hTI, ⟨x, y, hTO⟩, h1, h2⟩ := st
    exact ⟨k z (by simp) _ hz, k TI (by simp) _ hTI, ⟨x, y, k TO (by simp) _ hTO⟩, h1.at fun o q => k i1 (by simp) o q, h2.at fun o q => k i2 (by simp) o q⟩
  item := by
    intro X hP hw hK hc i pins s σ H E I hf st hg
    subst hP hw hK
    obtain ⟨hz, hTI, ⟨x0, y0, hTO⟩, h1, h2⟩ := st
    obtain ⟨xs, ys, x, y, hqx, hqy, hx, hy⟩ := hg
    obtain ⟨its, rv, p, _⟩ := I.tuple hqx
    obtain ⟨its2, rv2, p2, _⟩ := I.list hqy
    obtain ⟨u, hu, ru⟩ := rv.get hx
    obtain ⟨u2, hu2, ru2⟩ := rv2.get hy
    have hzl : z < s.heap.objs.size := Heap.lt_size hz
    have hh : X.A.in1.handled = none := I.ok.hd hc
    have D1 := tupDraws (prog := X.prog) (w := X.w) (A := X.A.in1) (its := its.toArray) hh D.l1i1
    have D2 := Draws.list (prog := X.prog) (w := X.w) (A := X.A.in1) hh i2 b D.l2i2 its2.toArray
    have n1 : i < its.toArray.size := by
      have := (List.getElem?_eq_some_iff.mp hu).1
      simpa using this
    have n2 : i < its2.toArray.size := by
      have := (List.getElem?_eq_some_iff.mp hu2).1
      simpa using this
    refine wpAny_pyNext_zipD2_item (zip_sep D) D1 D2 hz hTI hTO ⟨h1, p⟩ ⟨h2, p2.isList⟩ n1 n2 fun v1 v2 h' tk e1 e2 z' TO' h1' h2' hT hsz hk => ?_
    obtain rfl : u = v1 := by
      have e3 : its.toArray[i]? = some u := by simpa using hu
      exact Option.some.inj (e3.symm.trans e1)
    obtain rfl : u2 = v2 := by
      have e3 : its2.toArray[i]? = some u2 := by simpa using hu2
      exact Option.some.inj (e3.symm.trans e2)
    refine ⟨_, rfl, wpAny_letOwnedTupleGo_zip (s := { s with heap := h', toks := tk }) z' fun h'' z'' sb => ?_⟩
    have hT2 : h''.get? s.heap.objs.size = some { cls := .type "tuple", data := .seq #[u, u2] } := (sb.2 _ (Nat.ne_of_gt hzl)).trans hT
    have new : ObjOk X.prog X.w (upd H s.heap.objs.size (.tup [x, y])) h'' s.heap.objs.size (.tup [x, y]) :=
      ⟨by show 2 ≤ sizeLine; decide, [u, u2], .cons ru (.cons ru2 .nil), ⟨_, hT2, rfl, _, rfl⟩⟩
    have I1 : Inv X pins σ (upd H s.heap.objs.size (.tup [x, y])) { s with heap := h'', toks := tk } :=
      I.turnedNew (t' := tk) (ch := [z, TI, TO, i1, i2]) (fun c o hb q => (sb.2 c (fun q' => hb (by simp [q']))).trans (hk c o (fun q' => hb (by simp [q'])) (fun q' => hb (by simp [q'])) (fun q' => hb (by simp [q'])) (fun q' => hb (by simp [q'])) q)) hf (Nat.le_refl _) new
    refine ⟨.ref s.heap.objs.size, _, I1, rfl, ⟨_, x, y, rfl, I.hok.fresh (Nat.le_refl _), rfl, fun l hl => by rw [I.tuple_inj hl hqx]; exact hx, fun l hl => by rw [I.list_inj hl hqy]; exact hy⟩, ⟨z'', ?_, ⟨u, u2, ?_⟩, ?_, ?_⟩, fun c hcm => ?_⟩
    · exact (sb.2 _ D.TIz).trans (hk _ _ D.TIz D.TITO D.TIi1 D.TIi2 hTI)
    · exact (sb.2 _ D.TOz).trans TO'
    · exact Heap.IsTupleIter.at (show h'.IsTupleIter i1 a (i + 1) from h1'.1) fun o q => (sb.2 _ D.i1z).trans q
    · exact h2'.1.at fun o q => (sb.2 _ D.i2z).trans q
    · have hlt : c < s.heap.objs.size := by
        have e' : c = z ∨ c = TI ∨ c = TO ∨ c = i1 ∨ c = i2 := by simpa using hcm
        rcases e' with q | q | q | q | q
        · rw [q]; exact hzl
        · rw [q]; exact Heap.lt_size hTI
        · rw [q]; exact Heap.lt_size hTO
        · rw [q]; obtain ⟨_, e1, _⟩ := h1; exact Heap.lt_size e1
        · rw [q]; obtain ⟨_, e2, _⟩ := h2; exact Heap.lt_size e2
      rw [upd_ne (Nat.ne_of_lt hlt)]
      exact (hf c hcm).1
  done := by
    intro X hP hw hK hc i pins s σ H E I hf st hg
    subst hP hw hK
    obtain ⟨hz, hTI, ⟨x0, y0, hTO⟩, h1, h2⟩ := st
    obtain ⟨xs, ys, hqx, hqy, hend⟩ := hg
    obtain ⟨its, rv, p, _⟩ := I.tuple hqx
    obtain ⟨its2, rv2, p2, _⟩ := I.list hqy
    have l1 := rv.length
    have l2 := rv2.length
    have hh : X.A.in1.handled = none := I.ok.hd hc
    have D1 := tupDraws (prog := X.prog) (w := X.w) (A := X.A.in1) (its := its.toArray) hh D.l1i1
    have D2 := Draws.list (prog := X.prog) (w := X.w) (A := X.A.in1) hh i2 b D.l2i2 its2.toArray
    exact wpAny_pyNext_zipD2_end (zip_sep D) D1 D2 hz hTI hTO ⟨h1, p⟩ ⟨h2, p2.isList⟩ (by simp; omega) (by simp; omega) (.inl (by simp; omega)) fun h' tk hk => ⟨rfl, I.turnedL (t' := tk) (ch := [z, TI, TO, i1, i2]) (fun c o hb q =>
      hk c o (fun q' => hb (by simp [q'])) (fun q' => hb (by simp [q'])) (fun q' => hb (by simp [q'])) (fun q' => hb (by simp [q'])) q) hf⟩
  self := fun A i s Q E st h => wpAny_pyIter_zip st.1 h
def iZipM (K : PySem.W.Frag) (ta : TA) : TI := fun σ H R => ta σ H fun vs H1 => ∃ a b xs ys, vs = [.ref a, .ref b] ∧ SqT K H1 a xs ∧ ((SqL K H1 b ys ∧ R (ItzM K a b) H1) ∨ (SqT K H1 b ys ∧ R (RZ.ItzT K a b) H1))
theorem pi_zipM {X : Cx} {e e2 : Expr} {ta : TA} {p pos tpos : Pos} {elts : List Expr} {kk : Nat} (hg : Gl X "zip") (hm : X.mg "zip" = none) (ha : PA X [e, e2] ta)
    (hs : starEach [e, e2] X.env = (false, eval e X.env) :: starEach [e2] X.env := by rfl) (hpl : (backTo pos (starEach [e2] X.env)).any (·.1) = false := by rfl) :
    PI X (.Tuple elts kk tpos) (.Call (.Name "zip" p) [e, e2] [] pos) (iZipM X.K ta) := by
  refine ⟨fun pins s σ H R I h => ?_⟩
  refine Call_ (ld_blt I hg hm PyProof.Rows.boot_zip (PyProof.Rows.callWith_type1 (thn (ha.run pos pins s σ H _ I h) fun us s1 ⟨vs, H1, I1, r1, q1⟩ => ?_) hs hpl))
  obtain ⟨a, b, xs, ys, ex, hqx, q1⟩ := q1
  subst ex
  cases r1 with
  | cons r rr =>
    cases rr with
    | cons r' rr =>
      cases rr
      cases r
      cases r'
      have fresh5 : ∀ c, c ∈ [s1.heap.objs.size + 4, s1.heap.objs.size + 2, s1.heap.objs.size + 3, s1.heap.objs.size, s1.heap.objs.size + 1] → FpOk X pins H1 c := fun c hcm => by
        have e' : c = s1.heap.objs.size + 4 ∨ c = s1.heap.objs.size + 2 ∨ c = s1.heap.objs.size + 3 ∨ c = s1.heap.objs.size ∨ c = s1.heap.objs.size + 1 := by simpa using hcm
        have hle : s1.heap.objs.size ≤ c := by
          rcases e' with z | z | z | z | z
          · rw [z]; exact Nat.le_add_right _ _
          · rw [z]; exact Nat.le_add_right _ _
          · rw [z]; exact Nat.le_add_right _ _
          · rw [z]; exact Nat.le_refl _
          · rw [z]; exact Nat.le_add_right _ _
        exact I1.fpOk hle (I1.hok.fresh hle)
      obtain ⟨its, rv, p1, _⟩ := I1.tuple hqx
      obtain ⟨o1, ho1, _⟩ := id p1
      rcases q1 with ⟨hqy, q⟩ | ⟨hqy, q⟩
      · obtain ⟨its2, rv2, p2, _⟩ := I1.list hqy
        refine call_zm (show s1.heap.IsTuple a its.toArray from p1) p2.isList fun h' hz hTI hTO h1 h2 hsz hk => wpAny_pyIter_zip hz ?_
        have I2 : Inv X pins σ H1 { s1 with heap := h' } := I1.kept (t' := s1.toks) hk
        exact ⟨s1.heap.objs.size + 4, [s1.heap.objs.size + 4, s1.heap.objs.size + 2, s1.heap.objs.size + 3, s1.heap.objs.size, s1.heap.objs.size + 1], _, _, H1, rfl, I2, turn_zm (PySem.W.ktu_apart s1.heap.objs.size a b (Heap.lt_size ho1) p2.lt), ⟨hz, hTI, ⟨_, _, hTO⟩, h1, h2⟩, fresh5, q⟩
      · obtain ⟨its2, rv2, p2, _⟩ := I1.tuple hqy
        obtain ⟨o2, ho2, _⟩ := id p2
        refine RZ.call_zipT (show s1.heap.IsTuple a its.toArray from p1) (show s1.heap.IsTuple b its2.toArray from p2) fun h' hz hTI hTO h1 h2 hsz hk => wpAny_pyIter_zip hz ?_
        have I2 : Inv X pins σ H1 { s1 with heap := h' } := I1.kept (t' := s1.toks) hk
        exact ⟨s1.heap.objs.size + 4, [s1.heap.objs.size + 4, s1.heap.objs.size + 2, s1.heap.objs.size + 3, s1.heap.objs.size, s1.heap.objs.size + 1], _, _, H1, rfl, I2, RZ.turn_zipT (PySem.W.ktu_apart s1.heap.objs.size a b (Heap.lt_size ho1) (Heap.lt_size ho2)), ⟨hz, hTI, ⟨_, _, hTO⟩, h1, h2⟩, fresh5, q⟩
variable {K : PySem.W.Frag}
theorem rd_zipM {ta : TA} {σ : L2.St} {H : Hp} {R : It → Hp → Prop} (h : ta σ H fun vs H1 => ∃ a b xs ys, vs = [.ref a, .ref b] ∧ SqT K H1 a xs ∧ ((SqL K H1 b ys ∧ R (ItzM K a b) H1) ∨ (SqT K H1 b ys ∧ R (RZ.ItzT K a b) H1))) : iZipM K ta σ H R := h
section
variable {α : Type} {R : Hp → V → α → Prop} {g : TG} {tt : TT} {te : TE} {vs : List Nat} {σ : L2.St} {H1 : Hp} {Qd : Addr → Hp → Prop} {f : Nat → Option α}
/-- a comprehension over zip of a tuple and a list or a tuple of the same length -/
theorem lc_zipM (hR : Mn R) {a b : Addr} {xs ys : List V} (hn : xs.length ≤ 1000) (hlen : xs.length = ys.length) (ha : SqT K H1 a xs) (hb : Sq K H1 b ys)
    (hs : ∀ i x y, xs[i]? = some x → ys[i]? = some y → Turn1 R H1 f i fun H' Q N => ∀ T, H' T = none → g (.ref T) (wipe σ vs) (upd H' T (.tup [x, y])) fun σ2 H2 => wipe σ2 vs = wipe σ vs ∧ tt σ2 H2 fun b H3 => if b = true then te σ2 H3 Q else N H3)
    (hd : ∀ D H', Lst R H1 D (upTo f xs.length) H' → Qd D H') {RR : It → Hp → Prop}
    (hRR : RR = fun J H1 => ∀ D, H1 D = none → ∃ W : Nat → Nat → Hp → Prop, (∃ m, W 0 m (upd H1 D (.lst []))) ∧ ∀ i m H, W i m H →
      (J.stop i H ∧ Qd D H) ∨ (J.go i H ∧ ∃ Nx : Hp → Prop, (∀ H', Nx H' → ∃ m', m' < m ∧ W (i + 1) m' H') ∧ ∀ x H', J.yld i H x H' → g x (wipe σ vs) H' fun σ2 H2 => wipe σ2 vs = wipe σ vs ∧ tt σ2 H2 fun b H3 =>
        if b = true then te σ2 H3 fun y H4 => ∃ acc, H4 D = some (.lst acc) ∧ acc.length < sizeLine ∧ Nx (upd H4 D (.lst (acc ++ [y]))) else Nx H3)) :
    (SqL K H1 b ys ∧ RR (ItzM K a b) H1) ∨ (SqT K H1 b ys ∧ RR (RZ.ItzT K a b) H1) := by
  subst hRR
  rcases hb with hb | hb
  · refine .inl ⟨hb, fun D nD => ?_⟩
    refine ⟨fun i m H => m = xs.length - i ∧ i ≤ xs.length ∧ Lst R H1 D (upTo f i) H, ⟨xs.length, by simp, Nat.zero_le _, lst_new nD⟩, ?_⟩
    rintro i m H ⟨rfl, hi, l⟩
    have qa := sqT_same l.1 ha
    have qb := l.1.seq hb
    by_cases hlt : i < xs.length
    · refine .inr ⟨⟨xs, ys, xs[i], ys[i], qa, qb, by simp [hlt], by simp⟩, Lst R H1 D (upTo f (i + 1)), fun H' p' => ⟨xs.length - (i + 1), by omega, rfl, hlt, p'⟩, fun x H' y => ?_⟩
      obtain ⟨T, x, y, rfl, nT, rfl, hx, hy⟩ := y
      exact Turn1.step (i := i) hR nD (by omega) (hs i x y (hx xs qa) (hy ys qb)) l T nT
    · have e : i = xs.length := by omega
      subst e
      exact .inl ⟨⟨xs, ys, qa, qb, rfl, by omega⟩, hd D H l⟩
  · refine .inr ⟨hb, fun D nD => ?_⟩
    refine ⟨fun i m H => m = xs.length - i ∧ i ≤ xs.length ∧ Lst R H1 D (upTo f i) H, ⟨xs.length, by simp, Nat.zero_le _, lst_new nD⟩, ?_⟩
    rintro i m H ⟨rfl, hi, l⟩
    have qa := sqT_same l.1 ha
    have qb := sqT_same l.1 hb
    by_cases hlt : i < xs.length
    · refine .inr ⟨⟨xs, ys, xs[i], ys[i], qa, qb, by simp [hlt], by simp⟩, Lst R H1 D (upTo f (i + 1)), fun H' p' => ⟨xs.length - (i + 1), by omega, rfl, hlt, p'⟩, fun x H' y => ?_⟩
      obtain ⟨T, x, y, rfl, nT, rfl, hx, hy⟩ := y
      exact Turn1.step (i := i) hR nD (by omega) (hs i x y (hx xs qa) (hy ys qb)) l T nT
    · have e : i = xs.length := by omega
      subst e
      exact .inl ⟨⟨xs, ys, qa, qb, .inl (Nat.le_refl _)⟩, hd D H l⟩
end
end My
namespace My
open PySem PySem.Spec PyProof.Rows L2
/-! ### zip of a list and a tuple -/
abbrev znH1 (h : Heap) (l1 : Addr) : Heap := h.push { cls := .type "list_iterator", data := .fields #[.ref l1, .int 0 0] }
abbrev znH2 (h : Heap) (l1 l2 : Addr) : Heap := (znH1 h l1).push { cls := .type "tuple_iterator", data := .fields #[.ref l2, .int 0 0] }
abbrev znH3 (h : Heap) (l1 l2 : Addr) : Heap := (znH2 h l1 l2).push { cls := .type "tuple", data := .seq #[.ref h.objs.size, .ref (znH1 h l1).objs.size] }
abbrev znH4 (h : Heap) (l1 l2 : Addr) : Heap := (znH3 h l1 l2).push { cls := .type "tuple", data := .seq #[.none, .none] }
abbrev znH5 (h : Heap) (l1 l2 : Addr) : Heap := (znH4 h l1 l2).push { cls := .type "zip", data := .fields #[.none, .bool false, .bool false, .ref (znH2 h l1 l2).objs.size, .ref (znH3 h l1 l2).objs.size] }
theorem meets_zn_new (l1 l2 : Addr) (xs ys : Array Value) :
    Meets (Builtin.«zip.__new__» ⟨[.type "zip", .ref l1, .ref l2], []⟩) (fun _ R s => s.heap.IsList l1 xs ∧ s.heap.IsTuple l2 ys ∧
      R (.ok (.ret (.ref (znH4 s.heap l1 l2).objs.size))) { s with heap := znH5 s.heap l1 l2 }) :=
  .of_wp fun prog w A R s h => by
    obtain ⟨hp, g, d, tk, os⟩ := s
    obtain ⟨hl1, hl2, h⟩ := h
    have hsub := sub_zip
    have hL1 : Heap.IsList (Shared.heap ⟨hp, g, d, tk, os⟩) l1 xs := hl1
    have hL2 : Heap.IsTuple (Shared.heap ⟨hp.push { cls := .type "list_iterator", data := .fields #[.ref l1, .int 0 0] }, g, d, tk, os⟩) l2 ys := Heap.IsTuple.push hl2 _
    wp_walk using wpAny_pyIter_list hL1, wpAny_pyIter_tuple hL2
    exact ⟨_, rfl, h⟩
section
variable {prog : Program} {w : World} {A : Around} {E : Value → Shared → Prop} {s : Shared}
theorem call_zn {l1 l2 : Addr} {xs ys : Array Value} {Q : Value → Shared → Prop} (hl1 : s.heap.IsList l1 xs) (hl2 : s.heap.IsTuple l2 ys)
    (h : ∀ h', IsZip h' (s.heap.objs.size + 4) (s.heap.objs.size + 2) (s.heap.objs.size + 3) .none → IsPair h' (s.heap.objs.size + 2) (.ref s.heap.objs.size) (.ref (s.heap.objs.size + 1)) →
      IsPair h' (s.heap.objs.size + 3) .none .none → h'.IsListIter s.heap.objs.size l1 0 → h'.IsTupleIter (s.heap.objs.size + 1) l2 0 → h'.objs.size = s.heap.objs.size + 5 →
      (∀ c o, s.heap.get? c = some o → h'.get? c = some o) → Q (.ref (s.heap.objs.size + 4)) { s with heap := h' }) :
    wpAny (model prog w) A (call (.type "zip") [.ref l1, .ref l2]) Q E s := by
  refine callType_new F.called_zip (by decide) (F.typeCall_zip_2 _ _) (F.newCall_zip_2 _ _) (fun obj => F.args_object_init_3 obj _ _) F.entry_zip_new
    (meets_zn_new l1 l2 xs ys) ⟨hl1, hl2, ?_⟩
  have z1 : (znH1 s.heap l1).objs.size = s.heap.objs.size + 1 := Heap.size_push ..
  have z2 : (znH2 s.heap l1 l2).objs.size = s.heap.objs.size + 2 := by rw [Heap.size_push, z1]
  have z3 : (znH3 s.heap l1 l2).objs.size = s.heap.objs.size + 3 := by rw [Heap.size_push, z2]
  have z4 : (znH4 s.heap l1 l2).objs.size = s.heap.objs.size + 4 := by rw [Heap.size_push, z3]
  have z5 : (znH5 s.heap l1 l2).objs.size = s.heap.objs.size + 5 := by rw [Heap.size_push, z4]
  have g5 : (znH5 s.heap l1 l2).get? (znH4 s.heap l1 l2).objs.size = some _ := Heap.get?_push_size _ rfl
  have g4 : (znH5 s.heap l1 l2).get? (znH3 s.heap l1 l2).objs.size = some _ := Heap.get?_push_of_some _ (Heap.get?_push_size _ rfl)
  have g3 : (znH5 s.heap l1 l2).get? (znH2 s.heap l1 l2).objs.size = some _ := Heap.get?_push_of_some _ (Heap.get?_push_of_some _ (Heap.get?_push_size _ rfl))
  have g2 : (znH5 s.heap l1 l2).get? (znH1 s.heap l1).objs.size = some _ := Heap.get?_push_of_some _ (Heap.get?_push_of_some _ (Heap.get?_push_of_some _ (Heap.get?_push_size _ rfl)))
  have g1 : (znH5 s.heap l1 l2).get? s.heap.objs.size = some _ := Heap.get?_push_of_some _ (Heap.get?_push_of_some _ (Heap.get?_push_of_some _ (Heap.get?_push_of_some _ (Heap.get?_push_size _ rfl))))
  show _ ∧ _
  rw [z2, z3, z4] at g5
  rw [z1, z2] at g3
  rw [z3] at g4
  rw [z1] at g2
  rw [z4]
  exact ⟨⟨_, g5, rfl⟩, h _ g5 g3 g4 ⟨_, g1, rfl, rfl⟩ ⟨_, g2, rfl, rfl⟩ z5 fun c o x =>
    Heap.get?_push_of_some _ (Heap.get?_push_of_some _ (Heap.get?_push_of_some _ (Heap.get?_push_of_some _ (Heap.get?_push_of_some _ x))))⟩
end
def ItzN (K : PySem.W.Frag) (a b : Addr) : It :=
  ⟨fun i H => ∃ (xs ys : List V) (x y : V), SqL K H a xs ∧ SqT K H b ys ∧ xs[i]? = some x ∧ ys[i]? = some y,
    fun i H v H' => ∃ T x y, v = .ref T ∧ H T = none ∧ H' = upd H T (.tup [x, y]) ∧ (∀ xs, SqL K H a xs → xs[i]? = some x) ∧ ∀ ys, SqT K H b ys → ys[i]? = some y,
    fun i H => ∃ xs ys : List V, SqL K H a xs ∧ SqT K H b ys ∧ (xs.length = i ∧ i ≤ ys.length)⟩
theorem turn_zn {P : Program} {w : World} {K : PySem.W.Frag} {elts : List Expr} {kk : Nat} {tpos : Pos} {a b z TI TO i1 i2 : Addr} (D : ZipApart z TI TO i1 i2 a b) :
    Turn P w K (.Tuple elts kk tpos) (ItzN K a b) [z, TI, TO, i1, i2] z (fun i h => IsZip h z TI TO .none ∧ IsPair h TI (.ref i1) (.ref i2) ∧ (∃ x y, IsPair h TO x y) ∧ h.IsListIter i1 a i ∧ h.IsTupleIter i2 b i) where
  mem := by simp
  obj := fun i h st c hc => by
    obtain ⟨hz, hTI, ⟨x, y, hTO⟩, ⟨o1, e1, _, d1⟩, ⟨o2, e2, _, d2⟩⟩ := st
    have e' : c = z ∨ c = TI ∨ c = TO ∨ c = i1 ∨ c = i2 := by simpa using hc
    rcases e' with q | q | q | q | q
    · rw [q]; exact ⟨_, hz, fun v q => nomatch q⟩
    · rw [q]; exact ⟨_, hTI, fun v q => nomatch q⟩
    · rw [q]; exact ⟨_, hTO, fun v q => nomatch q⟩
    · rw [q]; exact ⟨o1, e1, fun v q => by rw [d1] at q; cases q⟩
    · rw [q]; exact ⟨o2, e2, fun v q => by rw [d2] at q; cases q⟩
  keep := fun i h h' st k => by
    obtain ⟨hz, hTI, ⟨x, y, hTO⟩, h1, h2⟩ := st
    exact ⟨k z (by simp) _ hz, k TI (by simp) _ hTI, ⟨x, y, k TO (by simp) _ hTO⟩, h1.at fun o q => k i1 (by simp) o q, h2.at fun o q => k i2 (by simp) o q⟩
  item := by
    intro X hP hw hK hc i pins s σ H E I hf st hg
    subst hP hw hK
    obtain ⟨hz, hTI, ⟨x0, y0, hTO⟩, h1, h2⟩ := st
    obtain ⟨xs, ys, x, y, hqx, hqy, hx, hy⟩ := hg
    obtain ⟨its, rv, p, _⟩ := I.list hqx
    obtain ⟨its2, rv2, p2, _⟩ := I.tuple hqy
    obtain ⟨u, hu, ru⟩ := rv.get hx
    obtain ⟨u2, hu2, ru2⟩ := rv2.get hy
    have hzl : z < s.heap.objs.size := Heap.lt_size hz
    have hh : X.A.in1.handled = none := I.ok.hd hc
    have D1 := Draws.list (prog := X.prog) (w := X.w) (A := X.A.in1) hh i1 a D.l1i1 its.toArray
    have D2 := tupDraws (prog := X.prog) (w := X.w) (A := X.A.in1) (its := its2.toArray) hh D.l2i2
    have n1 : i < its.toArray.size := by
      have := (List.getElem?_eq_some_iff.mp hu).1
      simpa using this
    have n2 : i < its2.toArray.size := by
      have := (List.getElem?_eq_some_iff.mp hu2).1
      simpa using this
    refine wpAny_pyNext_zipD2_item (zip_sep D) D1 D2 hz hTI hTO ⟨h1, p.isList⟩ ⟨h2, p2⟩ n1 n2 fun v1 v2 h' tk e1 e2 z' TO' h1' h2' hT hsz hk => ?_
    obtain rfl : u = v1 := by
      have e3 : its.toArray[i]? = some u := by simpa using hu
      exact Option.some.inj (e3.symm.trans e1)
    obtain rfl : u2 = v2 := by
      have e3 : its2.toArray[i]? = some u2 := by simpa using hu2
      exact Option.some.inj (e3.symm.trans e2)
    refine ⟨_, rfl, wpAny_letOwnedTupleGo_zip (s := { s with heap := h', toks := tk }) z' fun h'' z'' sb => ?_⟩
    have hT2 : h''.get? s.heap.objs.size = some { cls := .type "tuple", data := .seq #[u, u2] } := (sb.2 _ (Nat.ne_of_gt hzl)).trans hT
    have new : ObjOk X.prog X.w (upd H s.heap.objs.size (.tup [x, y])) h'' s.heap.objs.size (.tup [x, y]) :=
      ⟨by show 2 ≤ sizeLine; decide, [u, u2], .cons ru (.cons ru2 .nil), ⟨_, hT2, rfl, _, rfl⟩⟩
    have I1 : Inv X pins σ (upd H s.heap.objs.size (.tup [x, y])) { s with heap := h'', toks := tk } :=
      I.turnedNew (t' := tk) (ch := [z, TI, TO, i1, i2]) (fun c o hb q => (sb.2 c (fun q' => hb (by simp [q']))).trans (hk c o (fun q' => hb (by simp [q'])) (fun q' => hb (by simp [q'])) (fun q' => hb (by simp [q'])) (fun q' => hb (by simp [q'])) q)) hf (Nat.le_refl _) new
    refine ⟨.ref s.heap.objs.size, _, I1, rfl, ⟨_, x, y, rfl, I.hok.fresh (Nat.le_refl _), rfl, fun l hl => by rw [I.list_inj hl hqx]; exact hx, fun l hl => by rw [I.tuple_inj hl hqy]; exact hy⟩, ⟨z'', ?_, ⟨u, u2, ?_⟩, ?_, ?_⟩, fun c hcm => ?_⟩
    · exact (sb.2 _ D.TIz).trans (hk _ _ D.TIz D.TITO D.TIi1 D.TIi2 hTI)
    · exact (sb.2 _ D.TOz).trans TO'
    · exact h1'.1.at fun o q => (sb.2 _ D.i1z).trans q
    · exact Heap.IsTupleIter.at (show h'.IsTupleIter i2 b (i + 1) from h2'.1) fun o q => (sb.2 _ D.i2z).trans q
    · have hlt : c < s.heap.objs.size := by
        have e' : c = z ∨ c = TI ∨ c = TO ∨ c = i1 ∨ c = i2 := by simpa using hcm
        rcases e' with q | q | q | q | q
        · rw [q]; exact hzl
        · rw [q]; exact Heap.lt_size hTI
        · rw [q]; exact Heap.lt_size hTO
        · rw [q]; obtain ⟨_, e1, _⟩ := h1; exact Heap.lt_size e1
        · rw [q]; obtain ⟨_, e2, _⟩ := h2; exact Heap.lt_size e2
      rw [upd_ne (Nat.ne_of_lt hlt)]
      exact (hf c hcm).1
  done := by
    intro X hP hw hK hc i pins s σ H E I hf st hg
    subst hP hw hK
    obtain ⟨hz, hTI, ⟨x0, y0, hTO⟩, h1, h2⟩ := st
    obtain ⟨xs, ys, hqx, hqy, hend⟩ := hg
    obtain ⟨its, rv, p, _⟩ := I.list hqx
    obtain ⟨its2, rv2, p2, _⟩ := I.tuple hqy
    have l1 := rv.length
    have l2 := rv2.length
    have hh : X.A.in1.handled = none := I.ok.hd hc
    have D1 := Draws.list (prog := X.prog) (w := X.w) (A := X.A.in1) hh i1 a D.l1i1 its.toArray
    have D2 := tupDraws (prog := X.prog) (w := X.w) (A := X.A.in1) (its := its2.toArray) hh D.l2i2
    exact wpAny_pyNext_zipD2_end (zip_sep D) D1 D2 hz hTI hTO ⟨h1, p.isList⟩ ⟨h2, p2⟩ (by simp; omega) (by simp; omega) (.inl (by simp; omega)) fun h' tk hk => ⟨rfl, I.turnedL (t' := tk) (ch := [z, TI, TO, i1, i2]) (fun c o hb q =>
      hk c o (fun q' => hb (by simp [q'])) (fun q' => hb (by simp [q'])) (fun q' => hb (by simp [q'])) (fun q' => hb (by simp [q'])) q) hf⟩
  self := fun A i s Q E st h => wpAny_pyIter_zip st.1 h
def iZipN (K : PySem.W.Frag) (ta : TA) : TI := fun σ H R => ta σ H fun vs H1 => ∃ a b xs ys, vs = [.ref a, .ref b] ∧ SqT K H1 b ys ∧ ((SqL K H1 a xs ∧ R (ItzN K a b) H1) ∨ (SqT K H1 a xs ∧ R (RZ.ItzT K a b) H1))
theorem pi_zipN {X : Cx} {e e2 : Expr} {ta : TA} {p pos tpos : Pos} {elts : List Expr} {kk : Nat} (hg : Gl X "zip") (hm : X.mg "zip" = none) (ha : PA X [e, e2] ta)
    (hs : starEach [e, e2] X.env = (false, eval e X.env) :: starEach [e2] X.env := by rfl) (hpl : (backTo pos (starEach [e2] X.env)).any (·.1) = false := by rfl) :
    PI X (.Tuple elts kk tpos) (.Call (.Name "zip" p) [e, e2] [] pos) (iZipN X.K ta) := by
  refine ⟨fun pins s σ H R I h => ?_⟩
  refine Call_ (ld_blt I hg hm PyProof.Rows.boot_zip (PyProof.Rows.callWith_type1 (thn (ha.run pos pins s σ H _ I h) fun us s1 ⟨vs, H1, I1, r1, q1⟩ => ?_) hs hpl))
  obtain ⟨a, b, xs, ys, ex, hqy, q1⟩ := q1
  subst ex
  cases r1 with
  | cons r rr =>
    cases rr with
    | cons r' rr =>
      cases rr
      cases r
      cases r'
      have fresh5 : ∀ c, c ∈ [s1.heap.objs.size + 4, s1.heap.objs.size + 2, s1.heap.objs.size + 3, s1.heap.objs.size, s1.heap.objs.size + 1] → FpOk X pins H1 c := fun c hcm => by
        have e' : c = s1.heap.objs.size + 4 ∨ c = s1.heap.objs.size + 2 ∨ c = s1.heap.objs.size + 3 ∨ c = s1.heap.objs.size ∨ c = s1.heap.objs.size + 1 := by simpa using hcm
        have hle : s1.heap.objs.size ≤ c := by
          rcases e' with z | z | z | z | z
          · rw [z]; exact Nat.le_add_right _ _
          · rw [z]; exact Nat.le_add_right _ _
          · rw [z]; exact Nat.le_add_right _ _
          · rw [z]; exact Nat.le_refl _
          · rw [z]; exact Nat.le_add_right _ _
        exact I1.fpOk hle (I1.hok.fresh hle)
      obtain ⟨its2, rv2, p2, _⟩ := I1.tuple hqy
      obtain ⟨o2, ho2, _⟩ := id p2
      rcases q1 with ⟨hqx, q⟩ | ⟨hqx, q⟩
      · obtain ⟨its, rv, p1, _⟩ := I1.list hqx
        refine call_zn p1.isList (show s1.heap.IsTuple b its2.toArray from p2) fun h' hz hTI hTO h1 h2 hsz hk => wpAny_pyIter_zip hz ?_
        have I2 : Inv X pins σ H1 { s1 with heap := h' } := I1.kept (t' := s1.toks) hk
        exact ⟨s1.heap.objs.size + 4, [s1.heap.objs.size + 4, s1.heap.objs.size + 2, s1.heap.objs.size + 3, s1.heap.objs.size, s1.heap.objs.size + 1], _, _, H1, rfl, I2, turn_zn (PySem.W.ktu_apart s1.heap.objs.size a b p1.lt (Heap.lt_size ho2)), ⟨hz, hTI, ⟨_, _, hTO⟩, h1, h2⟩, fresh5, q⟩
      · obtain ⟨its, rv, p1, _⟩ := I1.tuple hqx
        obtain ⟨o1, ho1, _⟩ := id p1
        refine RZ.call_zipT (show s1.heap.IsTuple a its.toArray from p1) (show s1.heap.IsTuple b its2.toArray from p2) fun h' hz hTI hTO h1 h2 hsz hk => wpAny_pyIter_zip hz ?_
        have I2 : Inv X pins σ H1 { s1 with heap := h' } := I1.kept (t' := s1.toks) hk
        exact ⟨s1.heap.objs.size + 4, [s1.heap.objs.size + 4, s1.heap.objs.size + 2, s1.heap.objs.size + 3, s1.heap.objs.size, s1.heap.objs.size + 1], _, _, H1, rfl, I2, RZ.turn_zipT (PySem.W.ktu_apart s1.heap.objs.size a b (Heap.lt_size ho1) (Heap.lt_size ho2)), ⟨hz, hTI, ⟨_, _, hTO⟩, h1, h2⟩, fresh5, q⟩
variable {K : PySem.W.Frag}
theorem rd_zipN {ta : TA} {σ : L2.St} {H : Hp} {R : It → Hp → Prop} (h : ta σ H fun vs H1 => ∃ a b xs ys, vs = [.ref a, .ref b] ∧ SqT K H1 b ys ∧ ((SqL K H1 a xs ∧ R (ItzN K a b) H1) ∨ (SqT K H1 a xs ∧ R (RZ.ItzT K a b) H1))) : iZipN K ta σ H R := h
section
variable {α : Type} {R : Hp → V → α → Prop} {g : TG} {tt : TT} {te : TE} {vs : List Nat} {σ : L2.St} {H1 : Hp} {Qd : Addr → Hp → Prop} {f : Nat → Option α}
/-- a comprehension over zip of a list and a tuple or a tuple of the same length -/
theorem lc_zipN (hR : Mn R) {a b : Addr} {xs ys : List V} (hn : xs.length ≤ 1000) (hlen : xs.length = ys.length) (ha : Sq K H1 a xs) (hb : SqT K H1 b ys)
    (hs : ∀ i x y, xs[i]? = some x → ys[i]? = some y → Turn1 R H1 f i fun H' Q N => ∀ T, H' T = none → g (.ref T) (wipe σ vs) (upd H' T (.tup [x, y])) fun σ2 H2 => wipe σ2 vs = wipe σ vs ∧ tt σ2 H2 fun b H3 => if b = true then te σ2 H3 Q else N H3)
    (hd : ∀ D H', Lst R H1 D (upTo f xs.length) H' → Qd D H') {RR : It → Hp → Prop}
    (hRR : RR = fun J H1 => ∀ D, H1 D = none → ∃ W : Nat → Nat → Hp → Prop, (∃ m, W 0 m (upd H1 D (.lst []))) ∧ ∀ i m H, W i m H →
      (J.stop i H ∧ Qd D H) ∨ (J.go i H ∧ ∃ Nx : Hp → Prop, (∀ H', Nx H' → ∃ m', m' < m ∧ W (i + 1) m' H') ∧ ∀ x H', J.yld i H x H' → g x (wipe σ vs) H' fun σ2 H2 => wipe σ2 vs = wipe σ vs ∧ tt σ2 H2 fun b H3 =>
        if b = true then te σ2 H3 fun y H4 => ∃ acc, H4 D = some (.lst acc) ∧ acc.length < sizeLine ∧ Nx (upd H4 D (.lst (acc ++ [y]))) else Nx H3)) :
    (SqL K H1 a xs ∧ RR (ItzN K a b) H1) ∨ (SqT K H1 a xs ∧ RR (RZ.ItzT K a b) H1) := by
  subst hRR
  rcases ha with ha | ha
  · refine .inl ⟨ha, fun D nD => ?_⟩
    refine ⟨fun i m H => m = xs.length - i ∧ i ≤ xs.length ∧ Lst R H1 D (upTo f i) H, ⟨xs.length, by simp, Nat.zero_le _, lst_new nD⟩, ?_⟩
    rintro i m H ⟨rfl, hi, l⟩
    have qa := l.1.seq ha
    have qb := sqT_same l.1 hb
    by_cases hlt : i < xs.length
    · refine .inr ⟨⟨xs, ys, xs[i], ys[i], qa, qb, by simp [hlt], by simp⟩, Lst R H1 D (upTo f (i + 1)), fun H' p' => ⟨xs.length - (i + 1), by omega, rfl, hlt, p'⟩, fun x H' y => ?_⟩
      obtain ⟨T, x, y, rfl, nT, rfl, hx, hy⟩ := y
      exact Turn1.step (i := i) hR nD (by omega) (hs i x y (hx xs qa) (hy ys qb)) l T nT
    · have e : i = xs.length := by omega
      subst e
      exact .inl ⟨⟨xs, ys, qa, qb, rfl, by omega⟩, hd D H l⟩
  · refine .inr ⟨ha, fun D nD => ?_⟩
    refine ⟨fun i m H => m = xs.length - i ∧ i ≤ xs.length ∧ Lst R H1 D (upTo f i) H, ⟨xs.length, by simp, Nat.zero_le _, lst_new nD⟩, ?_⟩
    rintro i m H ⟨rfl, hi, l⟩
    have qa := sqT_same l.1 ha
    have qb := sqT_same l.1 hb
    by_cases hlt : i < xs.length
    · refine .inr ⟨⟨xs, ys, xs[i], ys[i], qa, qb, by simp [hlt], by simp⟩, Lst R H1 D (upTo f (i + 1)), fun H' p' => ⟨xs.length - (i + 1), by omega, rfl, hlt, p'⟩, fun x H' y => ?_⟩
      obtain ⟨T, x, y, rfl, nT, rfl, hx, hy⟩ := y
      exact Turn1.step (i := i) hR nD (by omega) (hs i x y (hx xs qa) (hy ys qb)) l T nT
    · have e : i = xs.length := by omega
      subst e
      exact .inl ⟨⟨xs, ys, qa, qb, .inl (Nat.le_refl _)⟩, hd D H l⟩
end
end My
namespace My
open PySem PySem.Spec PyProof.Rows L2
/-! ### a set made of a list of ints -/
abbrev bareSet (w : World) : Obj :=
  ⟨.type "set", none, .set #[] 0 (.fresh 0 0 (!w.params.followText "set-order")), #[]⟩
section
variable {P : Program} {w : World} {A : Around} {E : Value → Shared → Prop} {s : Shared}
/-- what the set's own __init__ comes to -/
def Filled (w : World) (s : Shared) (ns : List Int) (u : Value) (s' : Shared) : Prop :=
  u = .none ∧ ∃ (hp : Heap) (tk c : Nat), s' = { s with heap := hp, toks := tk } ∧
    SetR w hp s.heap.objs.size (fun j => decide (j ∈ ns)) c ∧ c ≤ ns.length ∧
    ∀ b o, s.heap.get? b = some o → hp.get? b = some o
theorem set_filled {l : Addr} {zs : Array Value} {ns : List Int} (nh : A.handled = none)
    (hl : s.heap.IsList l zs) (hi : IntsAre zs.toList ns) (room : ns.length + 1 < scanBound) :
    codeAny (model P w) A (.call (.builtin "set.__init__") ⟨[.ref s.heap.objs.size, .ref l], []⟩)
      (wants (Filled w s ns) E) { s with heap := s.heap.push (bareSet w) } := by
  have sz : zs.size = ns.length := by
    have := IntsAre.length hi
    rwa [Array.length_toList] at this
  have here : (s.heap.push (bareSet w)).get? s.heap.objs.size = some (bareSet w) :=
    Heap.get?_push_size _ rfl
  refine codeAny_call_builtin F.called_set.init.plain F.entry_set_init (check_set_init_1 ⟨_, here, rfl⟩ ?_)
  obtain ⟨⟨c1, d1, dt1, sl1⟩, at1, ec, k1, ed⟩ := hl
  dsimp only at ec ed
  subst ec ed
  have at2 : (s.heap.push (bareSet w)).get? l = some ⟨.type "list", d1, .seq zs k1, sl1⟩ :=
    Heap.get?_push_of_some _ at1
  have n1 := F.sub_list_set
  have n2 := F.sub_list_frozenset
  have n3 : (Value.type "list" == Value.type "dict") = false := by decide
  have isl : (s.heap.push (bareSet w)).IsList l zs := ⟨_, at2, rfl, k1, rfl⟩
  have lt : l < s.heap.objs.size := Heap.lt_size at1
  unfold Builtin.«set.__init__» noKeywords Builtin.Frozenset.updateFrom
  generalize ePI : pyIter = PI
  wp_walk
  subst ePI
  refine wpAny_pyIter_list isl (wpAny_bind (wpAny_runValue ?_))
  have nh3 : A.in1.in1.handled = none := by simp [nh]
  have sz1 : (s.heap.push (bareSet w)).objs.size = s.heap.objs.size + 1 := Heap.size_push ..
  have apart : l ≠ (s.heap.push (bareSet w)).objs.size := by
    rw [sz1]
    exact Nat.ne_of_lt (Nat.lt_succ_of_lt lt)
  have fresh : s.heap.objs.size ∉ [(s.heap.push (bareSet w)).objs.size, l] := by
    rw [sz1]
    intro hm
    rcases List.mem_cons.mp hm with z | z
    · exact absurd z (Nat.ne_of_lt (Nat.lt_succ_self _))
    · exact absurd (List.mem_singleton.mp z) (Nat.ne_of_gt lt)
  have each : ∀ (i : Nat) (v : Value), zs[i]? = some v → ∃ k t, ns[i]? = some k ∧ v = .int k t := fun i v hv => by
    have hn : i < ns.length := sz ▸ (Array.getElem?_eq_some_iff.mp hv).1
    obtain ⟨t, e⟩ := IntsAre.int_at hi i v ((Array.getElem?_toList ..).trans hv)
    refine ⟨ns[i], t, List.getElem?_eq_getElem hn, e.trans ?_⟩
    simp [List.getD_eq_getElem?_getD, List.getElem?_eq_getElem hn]
  have got : ((s.heap.push (bareSet w)).push ⟨.type "list_iterator", none, .fields #[.ref l, .int 0 0], #[]⟩).get? s.heap.objs.size = some (bareSet w) :=
    Heap.get?_push_of_some _ here
  refine set_update_ints ((Walks.list nh3 _ l apart zs).toS) s.heap.objs.size fresh ns sz room each (zs.size - 0) 0 _ (by omega)
    (Nat.zero_le _) ?z1 ?z0 fun s2 c mv hc hR => ?_
  case z1 => exact ⟨⟨_, Heap.get?_push_size _ rfl, rfl, rfl⟩, isl.push _⟩
  case z0 => exact ⟨0, Nat.le_refl 0, setR_new_at got⟩
  obtain ⟨hp2, gg, dr, tk, os2⟩ := s2
  have e1 : gg = s.gens := mv.gens
  have e2 : dr = s.drawn := mv.drawn
  have e3 : os2 = s.os := mv.os
  subst e1 e2 e3
  rw [sz] at hc
  show wpAny _ _ _ _ _ _
  refine wpAny_pure ?_
  show wpAny _ _ (ret Value.none) _ _ _
  refine wpAny_pure ⟨rfl, hp2, tk, c, rfl, hR, hc, fun b o e => ?_⟩
  have lb : b < s.heap.objs.size := Heap.lt_size e
  refine mv.heap b o (fun hm => ?_) (Heap.get?_push_of_some _ (Heap.get?_push_of_some _ e))
  rcases List.mem_cons.mp hm with z | hm
  · exact absurd z (Nat.ne_of_lt lb)
  · have z := List.mem_singleton.mp hm
    rw [sz1] at z
    exact absurd z (Nat.ne_of_lt (Nat.lt_succ_of_lt lb))
theorem set_of_list {l : Addr} {zs : Array Value} {ns : List Int} {Q : Value → Shared → Prop} (nh : A.handled = none)
    (hl : s.heap.IsList l zs) (hi : IntsAre zs.toList ns) (room : ns.length + 1 < scanBound)
    (h : ∀ (hp : Heap) (tk c : Nat), SetR w hp s.heap.objs.size (fun j => decide (j ∈ ns)) c → c ≤ ns.length →
      (∀ b o, s.heap.get? b = some o → hp.get? b = some o) → Q (.ref s.heap.objs.size) { s with heap := hp, toks := tk }) :
    wpAny (model P w) A (call (.type "set") [.ref l]) Q E s := by
  obtain ⟨c, tl, hmro⟩ := F.called_set.mro
  have g1 := F.called_set.made
  have g2 := F.called_set.sub
  have g3 := F.called_set.notType
  have g4 := F.called_set.canCreate
  have g5 := F.typeCall_set_1 (.ref l)
  refine wpAny_call (codeAny_of_tree ?_)
  show wpAny _ _ (callAny (.type "set") _) _ _ _
  refine wpAny_pure ⟨Code.quiet_builtin _ (by decide +kernel), codeAny_builtin F.entry_type_call ?_⟩
  rw [Around.under_plain (weight_type_call_type "set" [.ref l] []) rfl]
  repeat any_goals (first | assumption | wp_step)
  refine codeAny_mono (code_set_led1 (.ref l) (E := E)
    (Q₁ := fun obj s₁ => obj = .ref s.heap.objs.size ∧ s₁ = { s with heap := s.heap.push (bareSet w) }) ⟨rfl, rfl⟩) fun r s₁ hr => ?_
  cases r with
  | error e => exact hr
  | ok fl =>
    cases fl with
    | ret obj =>
      obtain ⟨rfl, rfl⟩ := hr
      have here : (s.heap.push (bareSet w)).get? s.heap.objs.size = some (bareSet w) := Heap.get?_push_size _ rfl
      have ty : Shared.TypeIs { s with heap := s.heap.push (bareSet w) } (.ref s.heap.objs.size) "set" := ⟨_, here, rfl⟩
      have g6 := F.called_set.init.lookup
      have g7 := F.called_set.init.bind (.ref s.heap.objs.size)
      repeat any_goals (first | assumption | wp_step)
      refine codeAny_mono (set_filled (E := E) (by simp [nh]) hl hi room) fun r₂ s₂ hr₂ => ?_
      cases r₂ with
      | error e => exact hr₂
      | ok fl₂ =>
        cases fl₂ with
        | ret r =>
          obtain ⟨rfl, hp, tk, c', rfl, f1, f2, f3⟩ := hr₂
          repeat any_goals (first | assumption | wp_step)
          exact h hp tk c' f1 f2 f3
        | _ => exact hr₂.elim
    | _ => exact hr.elim
end
/-- set(xs), xs a list of ints -/
def rSetOfI (K : PySem.W.Frag) (w : World) : List V → Hp → VK → Prop := fun xs H Q => ∃ (l : Addr) (ns : List Int), xs = [V.ref l] ∧ SqL K H l (ns.map V.int) ∧ ns.length ≤ 1000 ∧
  ∀ p c, H p = none → c ≤ ns.length → Q (.ref p) (upd H p (SetO w p (fun j => decide (j ∈ ns)) c))
theorem cr_setOfI {X : Cx} (hc : X.calm = true) : CallR X (.type "set") (rSetOfI X.K X.w) := by
  intro pins s σ H xs us Q I r h
  obtain ⟨l, ns, rfl, hq, hn, q⟩ := h
  rw [Vals.ref1 r]
  obtain ⟨its, rv, pl, hz⟩ := I.list hq
  refine set_of_list (I.ok.hd hc) pl.isList (by simpa using intsAre_of rv) (by unfold scanBound; omega) fun hp tk c hR cl kp => ?_
  exact ⟨.ref s.heap.objs.size, _, I.laid (t' := tk) kp (Nat.le_refl _) (setO_new hR), rfl, q _ c (I.hok.fresh (Nat.le_refl _)) cl⟩
end My
namespace My
open PySem PySem.Spec PyProof.Rows L2
theorem ints_of {ys : List V} {bs : List Nat} (h : Paired (fun (v : V) (b : Nat) => v = .int (b : Nat)) ys bs) : ys = (bs.map fun b : Nat => (b : Int)).map V.int := by
  induction h with
  | nil => rfl
  | cons h t ih => rw [h, ih]; rfl
theorem room1 {k : Nat} {A : Around} (r : Room k A) : A.units + 1 < cLine := by
  have := r.un
  omega
/-- ascending lists with the same members are the same -/
theorem asc_eq : ∀ {l m : List Int}, l.Pairwise (· < ·) → m.Pairwise (· < ·) → (∀ k, k ∈ l ↔ k ∈ m) → l = m
  | [], [], _, _, _ => rfl
  | [], b :: m, _, _, h => by
    have := (h b).mpr (by simp)
    cases this
  | a :: l, [], _, _, h => by
    have := (h a).mp (by simp)
    cases this
  | a :: l, b :: m, h1, h2, h => by
    rw [List.pairwise_cons] at h1 h2
    have e : a = b := by
      have x := (h a).mp (by simp)
      have y := (h b).mpr (by simp)
      rcases List.mem_cons.mp x with x | x
      · exact x
      · rcases List.mem_cons.mp y with y | y
        · exact y.symm
        · have := h1.1 b y
          have := h2.1 a x
          omega
    subst e
    rw [asc_eq h1.2 h2.2 fun k => ?_]
    constructor
    · intro hk
      have x := (h k).mp (by simp [hk])
      rcases List.mem_cons.mp x with x | x
      · have := h1.1 k hk
        omega
      · exact x
    · intro hk
      have x := (h k).mpr (by simp [hk])
      rcases List.mem_cons.mp x with x | x
      · have := h2.1 k hk
        omega
      · exact x
/-- so many unlike numbers below n are all of them -/
theorem nodup_le : ∀ (n : Nat) (l : List Nat), l.Nodup → (∀ x ∈ l, x < n) → l.length ≤ n
  | 0, l, _, h => by
    cases l with
    | nil => exact Nat.le_refl 0
    | cons a l => exact absurd (h a (by simp)) (Nat.not_lt_zero _)
  | n + 1, l, nd, h => by
    have ih := nodup_le n (l.filter fun x => decide (x ≠ n)) (nd.filter _) fun x hx => by
      rw [List.mem_filter, decide_eq_true_eq] at hx
      have := h x hx.1
      omega
    have c := List.nodup_iff_count.mp nd n
    have e := List.length_eq_countP_add_countP (p := fun x => decide (x ≠ n)) (l := l)
    rw [List.countP_eq_length_filter] at e
    have e2 : l.countP (fun x => decide ¬ decide (x ≠ n) = true) = l.count n := by
      unfold List.count
      congr 1
      funext x
      by_cases z : x = n <;> simp [z]
    omega
theorem all_there {n : Nat} {l : List Nat} (nd : l.Nodup) (h : ∀ x ∈ l, x < n) (hl : n ≤ l.length) {x : Nat} (hx : x < n) : x ∈ l := by
  apply Classical.byContradiction
  intro c
  have := nodup_le n (x :: l) (List.nodup_cons.mpr ⟨c, nd⟩) fun y hy => by
    rcases List.mem_cons.mp hy with rfl | z
    · exact hx
    · exact h y z
  rw [List.length_cons] at this
  omega
end My
namespace My
open PySem PySem.Spec PyProof.Rows L2
/-! ### zip of two lists or of two tuples -/
def iZipP (K : PySem.W.Frag) (ta : TA) : TI := fun σ H R => ta σ H fun vs H1 => ∃ a b xs ys, vs = [.ref a, .ref b] ∧ ((SqL K H1 a xs ∧ SqL K H1 b ys ∧ R (Itz K a b) H1) ∨ (SqT K H1 a xs ∧ SqT K H1 b ys ∧ R (RZ.ItzT K a b) H1))
theorem pi_zipP {X : Cx} {e e2 : Expr} {ta : TA} {p pos tpos : Pos} {elts : List Expr} {kk : Nat} (hg : Gl X "zip") (hm : X.mg "zip" = none) (ha : PA X [e, e2] ta)
    (hs : starEach [e, e2] X.env = (false, eval e X.env) :: starEach [e2] X.env := by rfl) (hpl : (backTo pos (starEach [e2] X.env)).any (·.1) = false := by rfl) :
    PI X (.Tuple elts kk tpos) (.Call (.Name "zip" p) [e, e2] [] pos) (iZipP X.K ta) := by
  refine ⟨fun pins s σ H R I h => ?_⟩
  refine Call_ (ld_blt I hg hm PyProof.Rows.boot_zip (PyProof.Rows.callWith_type1 (thn (ha.run pos pins s σ H _ I h) fun us s1 ⟨vs, H1, I1, r1, q1⟩ => ?_) hs hpl))
  obtain ⟨a, b, xs, ys, ex, q1⟩ := q1
  subst ex
  cases r1 with
  | cons r rr =>
    cases rr with
    | cons r' rr =>
      cases rr
      cases r
      cases r'
      have fresh5 : ∀ c, c ∈ [s1.heap.objs.size + 4, s1.heap.objs.size + 2, s1.heap.objs.size + 3, s1.heap.objs.size, s1.heap.objs.size + 1] → FpOk X pins H1 c := fun c hcm => by
        have e' : c = s1.heap.objs.size + 4 ∨ c = s1.heap.objs.size + 2 ∨ c = s1.heap.objs.size + 3 ∨ c = s1.heap.objs.size ∨ c = s1.heap.objs.size + 1 := by simpa using hcm
        have hle : s1.heap.objs.size ≤ c := by
          rcases e' with z | z | z | z | z
          · rw [z]; exact Nat.le_add_right _ _
          · rw [z]; exact Nat.le_add_right _ _
          · rw [z]; exact Nat.le_add_right _ _
          · rw [z]; exact Nat.le_refl _
          · rw [z]; exact Nat.le_add_right _ _
        exact I1.fpOk hle (I1.hok.fresh hle)
      rcases q1 with ⟨hqx, hqy, q⟩ | ⟨hqx, hqy, q⟩
      · obtain ⟨its, rv, p1, _⟩ := I1.list hqx
        obtain ⟨its2, rv2, p2, _⟩ := I1.list hqy
        refine call_zip_2 p1.isList p2.isList fun h' hz hTI hTO h1 h2 hsz hk => wpAny_pyIter_zip hz ?_
        have I2 : Inv X pins σ H1 { s1 with heap := h' } := I1.kept (t' := s1.toks) hk
        exact ⟨s1.heap.objs.size + 4, [s1.heap.objs.size + 4, s1.heap.objs.size + 2, s1.heap.objs.size + 3, s1.heap.objs.size, s1.heap.objs.size + 1], _, _, H1, rfl, I2, turn_zip (PySem.W.ktu_apart s1.heap.objs.size a b p1.lt p2.lt), ⟨hz, hTI, ⟨_, _, hTO⟩, h1, h2⟩, fresh5, q⟩
      · obtain ⟨its, rv, p1, _⟩ := I1.tuple hqx
        obtain ⟨o1, ho1, _⟩ := id p1
        obtain ⟨its2, rv2, p2, _⟩ := I1.tuple hqy
        obtain ⟨o2, ho2, _⟩ := id p2
        refine RZ.call_zipT (show s1.heap.IsTuple a its.toArray from p1) (show s1.heap.IsTuple b its2.toArray from p2) fun h' hz hTI hTO h1 h2 hsz hk => wpAny_pyIter_zip hz ?_
        have I2 : Inv X pins σ H1 { s1 with heap := h' } := I1.kept (t' := s1.toks) hk
        exact ⟨s1.heap.objs.size + 4, [s1.heap.objs.size + 4, s1.heap.objs.size + 2, s1.heap.objs.size + 3, s1.heap.objs.size, s1.heap.objs.size + 1], _, _, H1, rfl, I2, RZ.turn_zipT (PySem.W.ktu_apart s1.heap.objs.size a b (Heap.lt_size ho1) (Heap.lt_size ho2)), ⟨hz, hTI, ⟨_, _, hTO⟩, h1, h2⟩, fresh5, q⟩
variable {K : PySem.W.Frag}
theorem rd_zipP {ta : TA} {σ : L2.St} {H : Hp} {R : It → Hp → Prop} (h : ta σ H fun vs H1 => ∃ a b xs ys, vs = [.ref a, .ref b] ∧ ((SqL K H1 a xs ∧ SqL K H1 b ys ∧ R (Itz K a b) H1) ∨ (SqT K H1 a xs ∧ SqT K H1 b ys ∧ R (RZ.ItzT K a b) H1))) : iZipP K ta σ H R := h
section
variable {α : Type} {R : Hp → V → α → Prop} {g : TG} {tt : TT} {te : TE} {vs : List Nat} {σ : L2.St} {H1 : Hp} {Qd : Addr → Hp → Prop} {f : Nat → Option α}
/-- a comprehension over zip of a tuple and a list or a tuple of the same length -/
theorem lc_zipP (hR : Mn R) {a b : Addr} {xs ys : List V} (hn : xs.length ≤ 1000) (hlen : xs.length = ys.length) (hab : (SqL K H1 a xs ∧ SqL K H1 b ys) ∨ (SqT K H1 a xs ∧ SqT K H1 b ys))
    (hs : ∀ i x y, xs[i]? = some x → ys[i]? = some y → Turn1 R H1 f i fun H' Q N => ∀ T, H' T = none → g (.ref T) (wipe σ vs) (upd H' T (.tup [x, y])) fun σ2 H2 => wipe σ2 vs = wipe σ vs ∧ tt σ2 H2 fun b H3 => if b = true then te σ2 H3 Q else N H3)
    (hd : ∀ D H', Lst R H1 D (upTo f xs.length) H' → Qd D H') {RR : It → Hp → Prop}
    (hRR : RR = fun J H1 => ∀ D, H1 D = none → ∃ W : Nat → Nat → Hp → Prop, (∃ m, W 0 m (upd H1 D (.lst []))) ∧ ∀ i m H, W i m H →
      (J.stop i H ∧ Qd D H) ∨ (J.go i H ∧ ∃ Nx : Hp → Prop, (∀ H', Nx H' → ∃ m', m' < m ∧ W (i + 1) m' H') ∧ ∀ x H', J.yld i H x H' → g x (wipe σ vs) H' fun σ2 H2 => wipe σ2 vs = wipe σ vs ∧ tt σ2 H2 fun b H3 =>
        if b = true then te σ2 H3 fun y H4 => ∃ acc, H4 D = some (.lst acc) ∧ acc.length < sizeLine ∧ Nx (upd H4 D (.lst (acc ++ [y]))) else Nx H3)) :
    (SqL K H1 a xs ∧ SqL K H1 b ys ∧ RR (Itz K a b) H1) ∨ (SqT K H1 a xs ∧ SqT K H1 b ys ∧ RR (RZ.ItzT K a b) H1) := by
  subst hRR
  rcases hab with ⟨ha, hb⟩ | ⟨ha, hb⟩
  · refine .inl ⟨ha, hb, fun D nD => ?_⟩
    refine ⟨fun i m H => m = xs.length - i ∧ i ≤ xs.length ∧ Lst R H1 D (upTo f i) H, ⟨xs.length, by simp, Nat.zero_le _, lst_new nD⟩, ?_⟩
    rintro i m H ⟨rfl, hi, l⟩
    have qa := l.1.seq ha
    have qb := l.1.seq hb
    by_cases hlt : i < xs.length
    · refine .inr ⟨⟨xs, ys, xs[i], ys[i], qa, qb, by simp [hlt], by simp⟩, Lst R H1 D (upTo f (i + 1)), fun H' p' => ⟨xs.length - (i + 1), by omega, rfl, hlt, p'⟩, fun x H' y => ?_⟩
      obtain ⟨T, x, y, rfl, nT, rfl, hx, hy⟩ := y
      exact Turn1.step (i := i) hR nD (by omega) (hs i x y (hx xs qa) (hy ys qb)) l T nT
    · have e : i = xs.length := by omega
      subst e
      exact .inl ⟨⟨xs, ys, qa, qb, .inl (Nat.le_refl _)⟩, hd D H l⟩
  · refine .inr ⟨ha, hb, fun D nD => ?_⟩
    refine ⟨fun i m H => m = xs.length - i ∧ i ≤ xs.length ∧ Lst R H1 D (upTo f i) H, ⟨xs.length, by simp, Nat.zero_le _, lst_new nD⟩, ?_⟩
    rintro i m H ⟨rfl, hi, l⟩
    have qa := sqT_same l.1 ha
    have qb := sqT_same l.1 hb
    by_cases hlt : i < xs.length
    · refine .inr ⟨⟨xs, ys, xs[i], ys[i], qa, qb, by simp [hlt], by simp⟩, Lst R H1 D (upTo f (i + 1)), fun H' p' => ⟨xs.length - (i + 1), by omega, rfl, hlt, p'⟩, fun x H' y => ?_⟩
      obtain ⟨T, x, y, rfl, nT, rfl, hx, hy⟩ := y
      exact Turn1.step (i := i) hR nD (by omega) (hs i x y (hx xs qa) (hy ys qb)) l T nT
    · have e : i = xs.length := by omega
      subst e
      exact .inl ⟨⟨xs, ys, qa, qb, .inl (Nat.le_refl _)⟩, hd D H l⟩
end
end My

namespace My
open PySem PySem.Spec PyProof.Rows L2
def topS (i : Nat) : Stmt := PySem.Challenge.pw_rootstalls_k67_whole_best_routes_by_all.main.body.getD i (.Pass ⟨0, 0, 0, 0⟩)
abbrev s_is_integer : Stmt := topS 9
abbrev N_is_integer : List Str := ["thing"]
theorem sc_is_integer : FnScope N_is_integer ["thing"] (defScope s_is_integer) := ⟨rfl, rfl, rfl, by decide +kernel, rfl, by decide +kernel, by decide +kernel⟩
abbrev s_is_row : Stmt := topS 10
abbrev N_is_row : List Str := ["thing"]
theorem sc_is_row : FnScope N_is_row ["thing"] (defScope s_is_row) := ⟨rfl, rfl, rfl, by decide +kernel, rfl, by decide +kernel, by decide +kernel⟩
abbrev s_is_fraction : Stmt := topS 11
abbrev N_is_fraction : List Str := ["thing", "top", "bottom"]
theorem sc_is_fraction : FnScope N_is_fraction ["thing"] (defScope s_is_fraction) := ⟨rfl, rfl, rfl, by decide +kernel, rfl, by decide +kernel, by decide +kernel⟩
abbrev s_is_some : Stmt := topS 12
abbrev N_is_some : List Str := ["thing"]
theorem sc_is_some : FnScope N_is_some ["thing"] (defScope s_is_some) := ⟨rfl, rfl, rfl, by decide +kernel, rfl, by decide +kernel, by decide +kernel⟩
abbrev s_lowest : Stmt := topS 13
abbrev N_lowest : List Str := ["top", "bottom", "common"]
theorem sc_lowest : FnScope N_lowest ["top", "bottom"] (defScope s_lowest) := ⟨rfl, rfl, rfl, by decide +kernel, rfl, by decide +kernel, by decide +kernel⟩
abbrev s_multiplied : Stmt := topS 14
abbrev N_multiplied : List Str := ["one", "other", "left", "right"]
theorem sc_multiplied : FnScope N_multiplied ["one", "other"] (defScope s_multiplied) := ⟨rfl, rfl, rfl, by decide +kernel, rfl, by decide +kernel, by decide +kernel⟩
abbrev s_squared : Stmt := topS 15
abbrev N_squared : List Str := ["one"]
theorem sc_squared : FnScope N_squared ["one"] (defScope s_squared) := ⟨rfl, rfl, rfl, by decide +kernel, rfl, by decide +kernel, by decide +kernel⟩
abbrev s_lies_below : Stmt := topS 16
abbrev N_lies_below : List Str := ["one", "other"]
theorem sc_lies_below : FnScope N_lies_below ["one", "other"] (defScope s_lies_below) := ⟨rfl, rfl, rfl, by decide +kernel, rfl, by decide +kernel, by decide +kernel⟩
abbrev s_is_stall : Stmt := topS 20
abbrev N_is_stall : List Str := ["wares", "thing", "one", "other", "kept", "other_kept", "root", "ware"]
theorem sc_is_stall : FnScope N_is_stall ["wares", "thing"] (defScope s_is_stall) := ⟨rfl, rfl, rfl, by decide +kernel, rfl, by decide +kernel, by decide +kernel⟩
abbrev s_is_ware : Stmt := topS 22
abbrev N_is_ware : List Str := ["web", "thing"]
theorem sc_is_ware : FnScope N_is_ware ["web", "thing"] (defScope s_is_ware) := ⟨rfl, rfl, rfl, by decide +kernel, rfl, by decide +kernel, by decide +kernel⟩
abbrev s_check_ware : Stmt := topS 23
abbrev N_check_ware : List Str := ["web", "ware"]
theorem sc_check_ware : FnScope N_check_ware ["web", "ware"] (defScope s_check_ware) := ⟨rfl, rfl, rfl, by decide +kernel, rfl, by decide +kernel, by decide +kernel⟩
abbrev s_check_two : Stmt := topS 24
abbrev N_check_two : List Str := ["web", "one", "other"]
theorem sc_check_two : FnScope N_check_two ["web", "one", "other"] (defScope s_check_two) := ⟨rfl, rfl, rfl, by decide +kernel, rfl, by decide +kernel, by decide +kernel⟩
abbrev s_across : Stmt := topS 25
abbrev N_across : List Str := ["stall", "ware"]
theorem sc_across : FnScope N_across ["stall", "ware"] (defScope s_across) := ⟨rfl, rfl, rfl, by decide +kernel, rfl, by decide +kernel, by decide +kernel⟩
abbrev s_hold_of : Stmt := topS 26
abbrev N_hold_of : List Str := ["stall", "ware"]
theorem sc_hold_of : FnScope N_hold_of ["stall", "ware"] (defScope s_hold_of) := ⟨rfl, rfl, rfl, by decide +kernel, rfl, by decide +kernel, by decide +kernel⟩
abbrev s_is_index : Stmt := topS 28
abbrev N_is_index : List Str := ["web", "thing"]
theorem sc_is_index : FnScope N_is_index ["web", "thing"] (defScope s_is_index) := ⟨rfl, rfl, rfl, by decide +kernel, rfl, by decide +kernel, by decide +kernel⟩
abbrev s_check_some : Stmt := topS 29
abbrev N_check_some : List Str := ["amount"]
theorem sc_check_some : FnScope N_check_some ["amount"] (defScope s_check_some) := ⟨rfl, rfl, rfl, by decide +kernel, rfl, by decide +kernel, by decide +kernel⟩
abbrev s_is_step : Stmt := topS 31
abbrev N_is_step : List Str := ["web", "thing", "index", "ware"]
theorem sc_is_step : FnScope N_is_step ["web", "thing"] (defScope s_is_step) := ⟨rfl, rfl, rfl, by decide +kernel, rfl, by decide +kernel, by decide +kernel⟩
abbrev s_end_of : Stmt := topS 32
abbrev N_end_of : List Str := ["web", "step", "index", "ware"]
theorem sc_end_of : FnScope N_end_of ["web", "step"] (defScope s_end_of) := ⟨rfl, rfl, rfl, by decide +kernel, rfl, by decide +kernel, by decide +kernel⟩
abbrev s_is_walk : Stmt := topS 33
abbrev N_is_walk : List Str := ["web", "thing", "step", "index", "ware", "after"]
theorem sc_is_walk : FnScope N_is_walk ["web", "thing"] (defScope s_is_walk) := ⟨rfl, rfl, rfl, by decide +kernel, rfl, by decide +kernel, by decide +kernel⟩
abbrev s_check_route : Stmt := topS 36
abbrev N_check_route : List Str := ["web", "thing"]
theorem sc_check_route : FnScope N_check_route ["web", "thing"] (defScope s_check_route) := ⟨rfl, rfl, rfl, by decide +kernel, rfl, by decide +kernel, by decide +kernel⟩
abbrev s_rule_behind : Stmt := topS 37
abbrev N_rule_behind : List Str := ["rule", "stall", "ware", "many", "base", "slow", "kept", "beyond"]
theorem sc_rule_behind : FnScope N_rule_behind ["rule", "stall", "ware"] (defScope s_rule_behind) := ⟨rfl, rfl, rfl, by decide +kernel, rfl, by decide +kernel, by decide +kernel⟩
abbrev s_rule_of : Stmt := topS 38
abbrev N_rule_of : List Str := ["web", "route", "rule", "index", "ware"]
theorem sc_rule_of : FnScope N_rule_of ["web", "route"] (defScope s_rule_of) := ⟨rfl, rfl, rfl, by decide +kernel, rfl, by decide +kernel, by decide +kernel⟩
abbrev s_out_by : Stmt := topS 39
abbrev N_out_by : List Str := ["rule", "amount", "many", "base", "slow"]
theorem sc_out_by : FnScope N_out_by ["rule", "amount"] (defScope s_out_by) := ⟨rfl, rfl, rfl, by decide +kernel, rfl, by decide +kernel, by decide +kernel⟩
abbrev s_route_out : Stmt := topS 40
abbrev N_route_out : List Str := ["web", "route", "amount", "rule", "top", "bottom"]
theorem sc_route_out : FnScope N_route_out ["web", "route", "amount"] (defScope s_route_out) := ⟨rfl, rfl, rfl, by decide +kernel, rfl, by decide +kernel, by decide +kernel⟩
abbrev s_routes_on : Stmt := topS 41
abbrev N_routes_on : List Str := ["web", "ware", "goal", "begun", "rule", "used", "index", "_", "found", "stall", "route", "behind", "beyond"]
theorem sc_routes_on : FnScope N_routes_on ["web", "ware", "goal", "begun", "rule"] (defScope s_routes_on) := ⟨rfl, rfl, rfl, by decide +kernel, rfl, by decide +kernel, by decide +kernel⟩
abbrev s_best_route : Stmt := topS 42
abbrev N_best_route : List Str := ["web", "one", "other", "amount", "most", "best", "route", "rule", "out"]
theorem sc_best_route : FnScope N_best_route ["web", "one", "other", "amount"] (defScope s_best_route) := ⟨rfl, rfl, rfl, by decide +kernel, rfl, by decide +kernel, by decide +kernel⟩
abbrev s_l_is_integer : Stmt := topS 44
abbrev N_l_is_integer : List Str := ["_law_thing"]
theorem sc_l_is_integer : FnScope N_l_is_integer ["_law_thing"] (defScope s_l_is_integer) := ⟨rfl, rfl, rfl, by decide +kernel, rfl, by decide +kernel, by decide +kernel⟩
abbrev s_l_source : Stmt := topS 45
abbrev N_l_source : List Str := ["_law_script", "_law_k", "_law_fold", "_law_item", "_law_cell"]
theorem sc_l_source : FnScope N_l_source ["_law_script", "_law_k"] (defScope s_l_source) := ⟨rfl, rfl, rfl, by decide +kernel, rfl, by decide +kernel, by decide +kernel⟩
abbrev s_l_draw : Stmt := topS 46
abbrev N_l_draw : List Str := ["_law_source_here", "_law_many", "_law_got", "_law_number"]
theorem sc_l_draw : FnScope N_l_draw ["_law_source_here", "_law_many"] (defScope s_l_draw) := ⟨rfl, rfl, rfl, by decide +kernel, rfl, by decide +kernel, by decide +kernel⟩
abbrev s_l_made : Stmt := topS 47
abbrev N_l_made : List Str := ["_law_top", "_law_bottom", "_law_one", "_law_other"]
theorem sc_l_made : FnScope N_l_made ["_law_top", "_law_bottom"] (defScope s_l_made) := ⟨rfl, rfl, rfl, by decide +kernel, rfl, by decide +kernel, by decide +kernel⟩
abbrev s_l_plus : Stmt := topS 48
abbrev N_l_plus : List Str := ["_law_one", "_law_other"]
theorem sc_l_plus : FnScope N_l_plus ["_law_one", "_law_other"] (defScope s_l_plus) := ⟨rfl, rfl, rfl, by decide +kernel, rfl, by decide +kernel, by decide +kernel⟩
abbrev s_l_times : Stmt := topS 49
abbrev N_l_times : List Str := ["_law_one", "_law_other"]
theorem sc_l_times : FnScope N_l_times ["_law_one", "_law_other"] (defScope s_l_times) := ⟨rfl, rfl, rfl, by decide +kernel, rfl, by decide +kernel, by decide +kernel⟩
abbrev s_l_over : Stmt := topS 50
abbrev N_l_over : List Str := ["_law_one", "_law_other"]
theorem sc_l_over : FnScope N_l_over ["_law_one", "_law_other"] (defScope s_l_over) := ⟨rfl, rfl, rfl, by decide +kernel, rfl, by decide +kernel, by decide +kernel⟩
abbrev s_l_below : Stmt := topS 51
abbrev N_l_below : List Str := ["_law_one", "_law_other"]
theorem sc_l_below : FnScope N_l_below ["_law_one", "_law_other"] (defScope s_l_below) := ⟨rfl, rfl, rfl, by decide +kernel, rfl, by decide +kernel, by decide +kernel⟩
abbrev s_l_some : Stmt := topS 52
abbrev N_l_some : List Str := ["_law_source_here", "_law_menu"]
theorem sc_l_some : FnScope N_l_some ["_law_source_here"] (defScope s_l_some) := ⟨rfl, rfl, rfl, by decide +kernel, rfl, by decide +kernel, by decide +kernel⟩
abbrev s_l_stall : Stmt := topS 53
abbrev N_l_stall : List Str := ["_law_source_here", "_law_one", "_law_other", "_law_ratio", "_law_root"]
theorem sc_l_stall : FnScope N_l_stall ["_law_source_here", "_law_one", "_law_other", "_law_ratio"] (defScope s_l_stall) := ⟨rfl, rfl, rfl, by decide +kernel, rfl, by decide +kernel, by decide +kernel⟩
abbrev s_l_stalls : Stmt := topS 54
abbrev N_l_stalls : List Str := ["_law_source_here", "_law_wares", "_law_most", "_law_scale", "_law_k", "_law_even", "_law_found", "_law_one", "_law_other", "_law_ratio"]
theorem sc_l_stalls : FnScope N_l_stalls ["_law_source_here", "_law_wares", "_law_most"] (defScope s_l_stalls) := ⟨rfl, rfl, rfl, by decide +kernel, rfl, by decide +kernel, by decide +kernel⟩
abbrev s_l_piece : Stmt := topS 55
abbrev N_l_piece : List Str := ["_law_stalls_here", "_law_wares", "_law_ware", "_law_found", "_law_turn", "_law_stall_here"]
theorem sc_l_piece : FnScope N_l_piece ["_law_stalls_here", "_law_wares", "_law_ware"] (defScope s_l_piece) := ⟨rfl, rfl, rfl, by decide +kernel, rfl, by decide +kernel, by decide +kernel⟩
abbrev s_l_pair : Stmt := topS 56
abbrev N_l_pair : List Str := ["_law_source_here", "_law_wares", "_law_one"]
theorem sc_l_pair : FnScope N_l_pair ["_law_source_here", "_law_wares"] (defScope s_l_pair) := ⟨rfl, rfl, rfl, by decide +kernel, rfl, by decide +kernel, by decide +kernel⟩
abbrev s_l_same : Stmt := topS 57
abbrev N_l_same : List Str := ["_law_told", "_law_due", "_law_one", "_law_other"]
theorem sc_l_same : FnScope N_l_same ["_law_told", "_law_due"] (defScope s_l_same) := ⟨rfl, rfl, rfl, by decide +kernel, rfl, by decide +kernel, by decide +kernel⟩
abbrev s_l_rule : Stmt := topS 58
abbrev N_l_rule : List Str := ["_law_stalls_here", "_law_route", "_law_rate", "_law_slow", "_law_index", "_law_ware", "_law_one", "_law_other", "_law_mine", "_law_yours", "_law_root", "_law_here", "_law_there"]
theorem sc_l_rule : FnScope N_l_rule ["_law_stalls_here", "_law_route"] (defScope s_l_rule) := ⟨rfl, rfl, rfl, by decide +kernel, rfl, by decide +kernel, by decide +kernel⟩
abbrev s_l_comes : Stmt := topS 59
abbrev N_l_comes : List Str := ["_law_rule_here", "_law_amount"]
theorem sc_l_comes : FnScope N_l_comes ["_law_rule_here", "_law_amount"] (defScope s_l_comes) := ⟨rfl, rfl, rfl, by decide +kernel, rfl, by decide +kernel, by decide +kernel⟩
abbrev s_l_routes : Stmt := topS 60
abbrev N_l_routes : List Str := ["_law_stalls_here", "_law_one", "_law_found", "_law_begun", "_law_turn", "_law_longer", "_law_route", "_law_ware", "_law_used", "_law_pair_here", "_law_index", "_law_stall_here"]
theorem sc_l_routes : FnScope N_l_routes ["_law_stalls_here", "_law_one"] (defScope s_l_routes) := ⟨rfl, rfl, rfl, by decide +kernel, rfl, by decide +kernel, by decide +kernel⟩
abbrev s_l_fair : Stmt := topS 61
abbrev N_l_fair : List Str := ["_law_source_here", "_law_pick", "_law_wares", "_law_most"]
theorem sc_l_fair : FnScope N_l_fair ["_law_source_here"] (defScope s_l_fair) := ⟨rfl, rfl, rfl, by decide +kernel, rfl, by decide +kernel, by decide +kernel⟩
abbrev s_l_web : Stmt := topS 62
abbrev N_l_web : List Str := ["_law_stalls_here", "_law_wares"]
theorem sc_l_web : FnScope N_l_web ["_law_stalls_here", "_law_wares"] (defScope s_l_web) := ⟨rfl, rfl, rfl, by decide +kernel, rfl, by decide +kernel, by decide +kernel⟩
abbrev s_l_best : Stmt := topS 63
abbrev N_l_best : List Str := ["_law_stalls_here", "_law_one", "_law_other", "_law_amount", "_law_best_here", "_law_route", "_law_last", "_law_out"]
theorem sc_l_best : FnScope N_l_best ["_law_stalls_here", "_law_one", "_law_other", "_law_amount"] (defScope s_l_best) := ⟨rfl, rfl, rfl, by decide +kernel, rfl, by decide +kernel, by decide +kernel⟩
abbrev s_law : Stmt := topS 64
abbrev N_law : List Str := ["_law_script", "_law_k", "_law_source_here", "_law_stalls_here", "_law_wares", "_law_web_here", "_law_turn", "_law_one", "_law_other", "_law_amount", "_law_due", "_law_told"]
theorem sc_law : FnScope N_law ["_law_script"] (defScope s_law) := ⟨rfl, rfl, rfl, by decide +kernel, rfl, by decide +kernel, by decide +kernel⟩
abbrev s_Web_init : Stmt := inClass (topS 21) 0
abbrev N_Web_init : List Str := ["self", "wares", "stalls", "index", "stall"]
theorem sc_Web_init : FnScope N_Web_init ["self", "wares", "stalls"] (defScope s_Web_init) := ⟨rfl, rfl, rfl, by decide +kernel, rfl, by decide +kernel, by decide +kernel⟩
abbrev s_Web_eq : Stmt := inClass (topS 21) 1
abbrev N_Web_eq : List Str := ["self", "other"]
theorem sc_Web_eq : FnScope N_Web_eq ["self", "other"] (defScope s_Web_eq) := ⟨rfl, rfl, rfl, by decide +kernel, rfl, by decide +kernel, by decide +kernel⟩
structure Txt (K : PySem.W.Frag) (mg : Str → Option Value) (f_is_integer f_is_row f_is_fraction f_is_some f_lowest f_multiplied f_squared f_lies_below f_is_stall f_is_ware f_check_ware f_check_two f_across f_hold_of f_is_index f_check_some f_is_step f_end_of f_is_walk f_check_route f_rule_behind f_rule_of f_out_by f_route_out f_routes_on f_best_route f_l_is_integer f_l_source f_l_draw f_l_made f_l_plus f_l_times f_l_over f_l_below f_l_some f_l_stall f_l_stalls f_l_piece f_l_pair f_l_same f_l_rule f_l_comes f_l_routes f_l_fair f_l_web f_l_best f_law f_Web_init f_Web_eq c_BadWare c_Web c_NO_STEPS : Addr) (d_is_integer d_is_row d_is_fraction d_is_some d_lowest d_multiplied d_squared d_lies_below d_is_stall d_is_ware d_check_ware d_check_two d_across d_hold_of d_is_index d_check_some d_is_step d_end_of d_is_walk d_check_route d_rule_behind d_rule_of d_out_by d_route_out d_routes_on d_best_route d_l_is_integer d_l_source d_l_draw d_l_made d_l_plus d_l_times d_l_over d_l_below d_l_some d_l_stall d_l_stalls d_l_piece d_l_pair d_l_same d_l_rule d_l_comes d_l_routes d_l_fair d_l_web d_l_best d_law d_Web_init d_Web_eq : FuncData) : Prop where
  z_abs : mg "abs" = none
  z_all : mg "all" = none
  z_bool : mg "bool" = none
  z_enumerate : mg "enumerate" = none
  z_int : mg "int" = none
  z_isinstance : mg "isinstance" = none
  z_len : mg "len" = none
  z_list : mg "list" = none
  z_max : mg "max" = none
  z_range : mg "range" = none
  z_set : mg "set" = none
  z_str : mg "str" = none
  z_tuple : mg "tuple" = none
  z_zip : mg "zip" = none
  m_gcd : mg "gcd" = some (.builtin "math.gcd")
  c_BadWare : ExC K mg "BadWare" c_BadWare
  w_Web : WebC K mg "Web" c_Web f_Web_init
  n_Web_wares : NoAttr K c_Web "wares"
  n_Web_stalls : NoAttr K c_Web "stalls"
  v_NO_STEPS : mg "NO_STEPS" = some (.ref c_NO_STEPS)
  t_NO_STEPS : SqT K (fun _ => none) c_NO_STEPS [.int 1, .int 1, .int 0]
  v_MOST_STALLS : ∃ u, mg "MOST_STALLS" = some u ∧ RelV (.int 16) u
  v_MOST_WARES : ∃ u, mg "MOST_WARES" = some u ∧ RelV (.int 8) u
  g_is_integer : mg "is_integer" = some (.ref f_is_integer)
  F_is_integer : Fun K "is_integer" "is_integer" s_is_integer f_is_integer d_is_integer
  k_is_integer : PySem.W.keepIn K (.ref f_is_integer) = true
  b_is_integer : Binds K d_is_integer ["thing"] []
  g_is_row : mg "is_row" = some (.ref f_is_row)
  F_is_row : Fun K "is_row" "is_row" s_is_row f_is_row d_is_row
  k_is_row : PySem.W.keepIn K (.ref f_is_row) = true
  b_is_row : Binds K d_is_row ["thing"] []
  g_is_fraction : mg "is_fraction" = some (.ref f_is_fraction)
  F_is_fraction : Fun K "is_fraction" "is_fraction" s_is_fraction f_is_fraction d_is_fraction
  k_is_fraction : PySem.W.keepIn K (.ref f_is_fraction) = true
  b_is_fraction : Binds K d_is_fraction ["thing"] []
  g_is_some : mg "is_some" = some (.ref f_is_some)
  F_is_some : Fun K "is_some" "is_some" s_is_some f_is_some d_is_some
  k_is_some : PySem.W.keepIn K (.ref f_is_some) = true
  b_is_some : Binds K d_is_some ["thing"] []
  g_lowest : mg "lowest" = some (.ref f_lowest)
  F_lowest : Fun K "lowest" "lowest" s_lowest f_lowest d_lowest
  k_lowest : PySem.W.keepIn K (.ref f_lowest) = true
  b_lowest : Binds K d_lowest ["top", "bottom"] []
  g_multiplied : mg "multiplied" = some (.ref f_multiplied)
  F_multiplied : Fun K "multiplied" "multiplied" s_multiplied f_multiplied d_multiplied
  k_multiplied : PySem.W.keepIn K (.ref f_multiplied) = true
  b_multiplied : Binds K d_multiplied ["one", "other"] []
  g_squared : mg "squared" = some (.ref f_squared)
  F_squared : Fun K "squared" "squared" s_squared f_squared d_squared
  k_squared : PySem.W.keepIn K (.ref f_squared) = true
  b_squared : Binds K d_squared ["one"] []
  g_lies_below : mg "lies_below" = some (.ref f_lies_below)
  F_lies_below : Fun K "lies_below" "lies_below" s_lies_below f_lies_below d_lies_below
  k_lies_below : PySem.W.keepIn K (.ref f_lies_below) = true
  b_lies_below : Binds K d_lies_below ["one", "other"] []
  g_is_stall : mg "is_stall" = some (.ref f_is_stall)
  F_is_stall : Fun K "is_stall" "is_stall" s_is_stall f_is_stall d_is_stall
  k_is_stall : PySem.W.keepIn K (.ref f_is_stall) = true
  b_is_stall : Binds K d_is_stall ["wares", "thing"] []
  g_is_ware : mg "is_ware" = some (.ref f_is_ware)
  F_is_ware : Fun K "is_ware" "is_ware" s_is_ware f_is_ware d_is_ware
  k_is_ware : PySem.W.keepIn K (.ref f_is_ware) = true
  b_is_ware : Binds K d_is_ware ["web", "thing"] []
  g_check_ware : mg "check_ware" = some (.ref f_check_ware)
  F_check_ware : Fun K "check_ware" "check_ware" s_check_ware f_check_ware d_check_ware
  k_check_ware : PySem.W.keepIn K (.ref f_check_ware) = true
  b_check_ware : Binds K d_check_ware ["web", "ware"] []
  g_check_two : mg "check_two" = some (.ref f_check_two)
  F_check_two : Fun K "check_two" "check_two" s_check_two f_check_two d_check_two
  k_check_two : PySem.W.keepIn K (.ref f_check_two) = true
  b_check_two : Binds K d_check_two ["web", "one", "other"] []
  g_across : mg "across" = some (.ref f_across)
  F_across : Fun K "across" "across" s_across f_across d_across
  k_across : PySem.W.keepIn K (.ref f_across) = true
  b_across : Binds K d_across ["stall", "ware"] []
  g_hold_of : mg "hold_of" = some (.ref f_hold_of)
  F_hold_of : Fun K "hold_of" "hold_of" s_hold_of f_hold_of d_hold_of
  k_hold_of : PySem.W.keepIn K (.ref f_hold_of) = true
  b_hold_of : Binds K d_hold_of ["stall", "ware"] []
  g_is_index : mg "is_index" = some (.ref f_is_index)
  F_is_index : Fun K "is_index" "is_index" s_is_index f_is_index d_is_index
  k_is_index : PySem.W.keepIn K (.ref f_is_index) = true
  b_is_index : Binds K d_is_index ["web", "thing"] []
  g_check_some : mg "check_some" = some (.ref f_check_some)
  F_check_some : Fun K "check_some" "check_some" s_check_some f_check_some d_check_some
  k_check_some : PySem.W.keepIn K (.ref f_check_some) = true
  b_check_some : Binds K d_check_some ["amount"] []
  g_is_step : mg "is_step" = some (.ref f_is_step)
  F_is_step : Fun K "is_step" "is_step" s_is_step f_is_step d_is_step
  k_is_step : PySem.W.keepIn K (.ref f_is_step) = true
  b_is_step : Binds K d_is_step ["web", "thing"] []
  g_end_of : mg "end_of" = some (.ref f_end_of)
  F_end_of : Fun K "end_of" "end_of" s_end_of f_end_of d_end_of
  k_end_of : PySem.W.keepIn K (.ref f_end_of) = true
  b_end_of : Binds K d_end_of ["web", "step"] []
  g_is_walk : mg "is_walk" = some (.ref f_is_walk)
  F_is_walk : Fun K "is_walk" "is_walk" s_is_walk f_is_walk d_is_walk
  k_is_walk : PySem.W.keepIn K (.ref f_is_walk) = true
  b_is_walk : Binds K d_is_walk ["web", "thing"] []
  g_check_route : mg "check_route" = some (.ref f_check_route)
  F_check_route : Fun K "check_route" "check_route" s_check_route f_check_route d_check_route
  k_check_route : PySem.W.keepIn K (.ref f_check_route) = true
  b_check_route : Binds K d_check_route ["web", "thing"] []
  g_rule_behind : mg "rule_behind" = some (.ref f_rule_behind)
  F_rule_behind : Fun K "rule_behind" "rule_behind" s_rule_behind f_rule_behind d_rule_behind
  k_rule_behind : PySem.W.keepIn K (.ref f_rule_behind) = true
  b_rule_behind : Binds K d_rule_behind ["rule", "stall", "ware"] []
  g_rule_of : mg "rule_of" = some (.ref f_rule_of)
  F_rule_of : Fun K "rule_of" "rule_of" s_rule_of f_rule_of d_rule_of
  k_rule_of : PySem.W.keepIn K (.ref f_rule_of) = true
  b_rule_of : Binds K d_rule_of ["web", "route"] []
  g_out_by : mg "out_by" = some (.ref f_out_by)
  F_out_by : Fun K "out_by" "out_by" s_out_by f_out_by d_out_by
  k_out_by : PySem.W.keepIn K (.ref f_out_by) = true
  b_out_by : Binds K d_out_by ["rule", "amount"] []
  g_route_out : mg "route_out" = some (.ref f_route_out)
  F_route_out : Fun K "route_out" "route_out" s_route_out f_route_out d_route_out
  k_route_out : PySem.W.keepIn K (.ref f_route_out) = true
  b_route_out : Binds K d_route_out ["web", "route", "amount"] []
  g_routes_on : mg "routes_on" = some (.ref f_routes_on)
  F_routes_on : Fun K "routes_on" "routes_on" s_routes_on f_routes_on d_routes_on
  k_routes_on : PySem.W.keepIn K (.ref f_routes_on) = true
  b_routes_on : Binds K d_routes_on ["web", "ware", "goal", "begun", "rule"] []
  g_best_route : mg "best_route" = some (.ref f_best_route)
  F_best_route : Fun K "best_route" "best_route" s_best_route f_best_route d_best_route
  k_best_route : PySem.W.keepIn K (.ref f_best_route) = true
  b_best_route : Binds K d_best_route ["web", "one", "other", "amount"] []
  g_l_is_integer : mg "_law_is_integer" = some (.ref f_l_is_integer)
  F_l_is_integer : Fun K "_law_is_integer" "_law_is_integer" s_l_is_integer f_l_is_integer d_l_is_integer
  k_l_is_integer : PySem.W.keepIn K (.ref f_l_is_integer) = true
  b_l_is_integer : Binds K d_l_is_integer ["_law_thing"] []
  g_l_source : mg "_law_source" = some (.ref f_l_source)
  F_l_source : Fun K "_law_source" "_law_source" s_l_source f_l_source d_l_source
  k_l_source : PySem.W.keepIn K (.ref f_l_source) = true
  b_l_source : Binds K d_l_source ["_law_script", "_law_k"] []
  g_l_draw : mg "_law_draw" = some (.ref f_l_draw)
  F_l_draw : Fun K "_law_draw" "_law_draw" s_l_draw f_l_draw d_l_draw
  k_l_draw : PySem.W.keepIn K (.ref f_l_draw) = true
  b_l_draw : Binds K d_l_draw ["_law_source_here", "_law_many"] []
  g_l_made : mg "_law_made" = some (.ref f_l_made)
  F_l_made : Fun K "_law_made" "_law_made" s_l_made f_l_made d_l_made
  k_l_made : PySem.W.keepIn K (.ref f_l_made) = true
  b_l_made : Binds K d_l_made ["_law_top", "_law_bottom"] []
  g_l_plus : mg "_law_plus" = some (.ref f_l_plus)
  F_l_plus : Fun K "_law_plus" "_law_plus" s_l_plus f_l_plus d_l_plus
  k_l_plus : PySem.W.keepIn K (.ref f_l_plus) = true
  b_l_plus : Binds K d_l_plus ["_law_one", "_law_other"] []
  g_l_times : mg "_law_times" = some (.ref f_l_times)
  F_l_times : Fun K "_law_times" "_law_times" s_l_times f_l_times d_l_times
  k_l_times : PySem.W.keepIn K (.ref f_l_times) = true
  b_l_times : Binds K d_l_times ["_law_one", "_law_other"] []
  g_l_over : mg "_law_over" = some (.ref f_l_over)
  F_l_over : Fun K "_law_over" "_law_over" s_l_over f_l_over d_l_over
  k_l_over : PySem.W.keepIn K (.ref f_l_over) = true
  b_l_over : Binds K d_l_over ["_law_one", "_law_other"] []
  g_l_below : mg "_law_below" = some (.ref f_l_below)
  F_l_below : Fun K "_law_below" "_law_below" s_l_below f_l_below d_l_below
  k_l_below : PySem.W.keepIn K (.ref f_l_below) = true
  b_l_below : Binds K d_l_below ["_law_one", "_law_other"] []
  g_l_some : mg "_law_some" = some (.ref f_l_some)
  F_l_some : Fun K "_law_some" "_law_some" s_l_some f_l_some d_l_some
  k_l_some : PySem.W.keepIn K (.ref f_l_some) = true
  b_l_some : Binds K d_l_some ["_law_source_here"] []
  g_l_stall : mg "_law_stall" = some (.ref f_l_stall)
  F_l_stall : Fun K "_law_stall" "_law_stall" s_l_stall f_l_stall d_l_stall
  k_l_stall : PySem.W.keepIn K (.ref f_l_stall) = true
  b_l_stall : Binds K d_l_stall ["_law_source_here", "_law_one", "_law_other", "_law_ratio"] []
  g_l_stalls : mg "_law_stalls" = some (.ref f_l_stalls)
  F_l_stalls : Fun K "_law_stalls" "_law_stalls" s_l_stalls f_l_stalls d_l_stalls
  k_l_stalls : PySem.W.keepIn K (.ref f_l_stalls) = true
  b_l_stalls : Binds K d_l_stalls ["_law_source_here", "_law_wares", "_law_most"] []
  g_l_piece : mg "_law_piece" = some (.ref f_l_piece)
  F_l_piece : Fun K "_law_piece" "_law_piece" s_l_piece f_l_piece d_l_piece
  k_l_piece : PySem.W.keepIn K (.ref f_l_piece) = true
  b_l_piece : Binds K d_l_piece ["_law_stalls_here", "_law_wares", "_law_ware"] []
  g_l_pair : mg "_law_pair" = some (.ref f_l_pair)
  F_l_pair : Fun K "_law_pair" "_law_pair" s_l_pair f_l_pair d_l_pair
  k_l_pair : PySem.W.keepIn K (.ref f_l_pair) = true
  b_l_pair : Binds K d_l_pair ["_law_source_here", "_law_wares"] []
  g_l_same : mg "_law_same" = some (.ref f_l_same)
  F_l_same : Fun K "_law_same" "_law_same" s_l_same f_l_same d_l_same
  k_l_same : PySem.W.keepIn K (.ref f_l_same) = true
  b_l_same : Binds K d_l_same ["_law_told", "_law_due"] []
  g_l_rule : mg "_law_rule" = some (.ref f_l_rule)
  F_l_rule : Fun K "_law_rule" "_law_rule" s_l_rule f_l_rule d_l_rule
  k_l_rule : PySem.W.keepIn K (.ref f_l_rule) = true
  b_l_rule : Binds K d_l_rule ["_law_stalls_here", "_law_route"] []
  g_l_comes : mg "_law_comes" = some (.ref f_l_comes)
  F_l_comes : Fun K "_law_comes" "_law_comes" s_l_comes f_l_comes d_l_comes
  k_l_comes : PySem.W.keepIn K (.ref f_l_comes) = true
  b_l_comes : Binds K d_l_comes ["_law_rule_here", "_law_amount"] []
  g_l_routes : mg "_law_routes" = some (.ref f_l_routes)
  F_l_routes : Fun K "_law_routes" "_law_routes" s_l_routes f_l_routes d_l_routes
  k_l_routes : PySem.W.keepIn K (.ref f_l_routes) = true
  b_l_routes : Binds K d_l_routes ["_law_stalls_here", "_law_one"] []
  g_l_fair : mg "_law_fair" = some (.ref f_l_fair)
  F_l_fair : Fun K "_law_fair" "_law_fair" s_l_fair f_l_fair d_l_fair
  k_l_fair : PySem.W.keepIn K (.ref f_l_fair) = true
  b_l_fair : Binds K d_l_fair ["_law_source_here"] []
  g_l_web : mg "_law_web" = some (.ref f_l_web)
  F_l_web : Fun K "_law_web" "_law_web" s_l_web f_l_web d_l_web
  k_l_web : PySem.W.keepIn K (.ref f_l_web) = true
  b_l_web : Binds K d_l_web ["_law_stalls_here", "_law_wares"] []
  g_l_best : mg "_law_best" = some (.ref f_l_best)
  F_l_best : Fun K "_law_best" "_law_best" s_l_best f_l_best d_l_best
  k_l_best : PySem.W.keepIn K (.ref f_l_best) = true
  b_l_best : Binds K d_l_best ["_law_stalls_here", "_law_one", "_law_other", "_law_amount"] []
  g_law : mg "law" = some (.ref f_law)
  F_law : Fun K "law" "law" s_law f_law d_law
  k_law : PySem.W.keepIn K (.ref f_law) = true
  b_law : Binds K d_law ["_law_script"] []
  F_Web_init : Fun K "__init__" "Web.__init__" s_Web_init f_Web_init d_Web_init
  b_Web_init : Binds K d_Web_init ["self", "wares", "stalls"] []
  F_Web_eq : Fun K "__eq__" "Web.__eq__" s_Web_eq f_Web_eq d_Web_eq
  b_Web_eq : Binds K d_Web_eq ["self", "other"] []
  i_Web_eq : PySem.W.findIn K (.ref c_Web) "__eq__" = some (some (.ref f_Web_eq))
  fn_Web_eq : PySem.W.isFn K (.ref f_Web_eq) = true
  ne_Web : PySem.W.findIn K (.ref c_Web) "__ne__" = some (some (.builtin "object.__ne__"))
end My
/-! the steps of a reading, one after another; side conditions come last -/
local macro_rules | `(tactic| walk_at "hp") => `(tactic| (repeat (first | (with_reducible assumption) | (with_reducible exact L2.upd_same) | (refine (L2.upd_ne (by first | assumption | (apply Ne.symm; assumption))).trans ?_))))
local macro_rules | `(tactic| walk_at "sd") => `(tactic| first | assumption | decide | omega | (exact My.cpow_of (by decide)) | (exact My.cdivx (b := 64) (by decide) (by decide) (by decide)) | (exact My.cdivx (by omega) (by assumption) (by decide)))
local macro_rules | `(tactic| walk_at "rX") => `(tactic| fail)
local macro_rules | `(tactic| walk_at "rV") => `(tactic| first
  | (with_reducible refine My.rd_C ?_)
  | ((with_reducible refine' My.rd_var ?k1 ?_); (case k1 => rfl))
  | (with_reducible refine My.rd_op ?_) | (with_reducible refine My.rd_cons ?_) | (with_reducible refine My.rd_nil ?_) | (with_reducible refine My.rd_CB ?_) | (with_reducible refine My.rd_call ?_)
  | (with_reducible refine My.rd_rI0 ?_)
  | (with_reducible refine My.rd_rI ?_ (by walk_at "sd"))
  | (with_reducible refine My.rd_rI ?_ ?_)
  | ((with_reducible refine' My.rd_ixL ?k1 ?k2 ?_); (case k1 => walk_at "hp"); (case k2 => rfl))
  | ((with_reducible refine' My.rd_ixT ?k1 ?k2 ?_); (case k1 => walk_at "hp"); (case k2 => rfl))
  | ((with_reducible refine' My.rd_ixTp ?k1 ?k3 ?k2 ?_); (case k1 => walk_at "tp"); (case k2 => rfl); (case k3 => rfl))
  | (with_reducible refine My.rd_un ?_) | (with_reducible refine My.rd_rU ?_)
  | (with_reducible refine My.rd_eqI ?_) | (with_reducible refine My.rd_neI ?_) | (with_reducible refine My.rd_eqB ?_) | (with_reducible refine My.rd_neB ?_) | (with_reducible refine My.rd_eqS ?_) | (with_reducible refine My.rd_neS ?_)
  | (with_reducible refine My.rd_gcd ?_) | (with_reducible refine My.rd_bits ?_)
  | ((with_reducible refine' My.rd_lenL ?_ ?k1); (case k1 => walk_at "hp"))
  | ((with_reducible refine' My.rd_lenT ?_ ?k1); (case k1 => walk_at "hp"))
  | ((with_reducible refine' My.rd_lenTp ?_ ?k1 ?k3); (case k1 => walk_at "tp"); (case k3 => rfl))
  | (with_reducible refine My.rd_int ?_) | (with_reducible refine My.rd_abs ?_) | (with_reducible refine My.rd_min ?_) | (with_reducible refine My.rd_intB ?_)
  | (with_reducible refine ⟨_, rfl, ?_⟩)
  | (with_reducible refine My.rd_len ?_ rfl)
  | (with_reducible refine My.rd_tup ?_) | (with_reducible refine My.rd_lst ?_)
  | (with_reducible refine My.isi_int_int ?_) | (with_reducible refine My.isi_int_bool ?_) | (with_reducible refine My.isi_bl_bool ?_)
  | ((with_reducible refine' My.isi_tup_tup ?k1 ?_); (case k1 => walk_at "hp"))
  | ((with_reducible refine' My.isi_tp ?k1 ?k3 ?_); (case k1 => walk_at "tp"); (case k3 => rfl))
  | (with_reducible refine My.rd_isBl ?_))
local macro_rules | `(tactic| walk_at "rS") => `(tactic| first
  | (with_reducible refine My.rd_seq ?_) | (with_reducible refine My.rd_next ?_) | (with_reducible refine My.rd_asg ?_) | (with_reducible refine My.rd_gName ?_) | (with_reducible refine My.rd_ret ?_)
  | (with_reducible refine My.rd_ifS ?_) | (with_reducible refine My.rd_test ?_) | (with_reducible refine My.rd_B ?_) | (with_reducible refine My.rd_not ?_) | (with_reducible refine My.rd_and ?_) | (with_reducible refine My.rd_or ?_)
  | (with_reducible refine My.rd_andV ?_) | (with_reducible refine My.rd_orV ?_) | (with_reducible refine My.rd_notV ?_) | (with_reducible refine My.rd_ifE ?_) | (with_reducible refine My.rd_chain ?_)
  | (with_reducible refine My.rd_gSub ?_) | ((with_reducible refine' My.rd_setL ?k1 ?k2 ?_); (case k1 => walk_at "hp"); (case k2 => rfl))
  | ((with_reducible refine' My.rd_gTup ?k1 ?k2 ?_); (case k1 => walk_at "hp"); (case k2 => rfl)) | ((with_reducible refine' My.rd_gTp ?k1 ?k3 ?k2 ?_); (case k1 => walk_at "tp"); (case k2 => rfl); (case k3 => rfl)) | (with_reducible refine My.rd_gCons ?_) | (with_reducible refine My.rd_gNil ?_)
  | (with_reducible refine My.rd_drop ?_) | (with_reducible refine My.rd_for ?_) | (with_reducible refine My.rd_rng1 ?_) | (with_reducible refine My.rd_itL ?_) | (with_reducible refine My.rd_itT ?_)
  | (with_reducible refine My.rd_sl ?_) | (with_reducible refine My.rd_part ?_) | (with_reducible refine My.rd_nopart ?_) | (with_reducible refine My.rd_bm ?_) | (with_reducible refine My.rd_yes ?_) | (with_reducible refine My.rd_lc ?_)
  | (with_reducible refine My.ite_nt ?_) | (with_reducible refine My.ite_nf ?_)
  | (with_reducible refine L2.iteF ?_) | (with_reducible refine L2.iteT ?_))
local macro_rules | `(tactic| walk_at "dc") => `(tactic| first | (with_reducible assumption) | ((with_reducible show _ = _); rfl) | omega | decide)
local macro_rules | `(tactic| walk_at "rI") => `(tactic| first
  | ((with_reducible refine' My.if_T ?k1 ?_); (case k1 => walk_at "dc"))
  | ((with_reducible refine' My.if_F ?k1 ?_); (case k1 => walk_at "dc"))
  | ((with_reducible refine' My.if_nF ?k1 ?_); (case k1 => walk_at "dc"))
  | ((with_reducible refine' My.if_nT ?k1 ?_); (case k1 => walk_at "dc")))
local macro_rules | `(tactic| walk_at "r") => `(tactic| (repeat (first | (walk_at "rV") | (walk_at "rS") | (walk_at "rI") | (walk_at "rX"))))
local macro_rules | `(tactic| walk_at "if") => `(tactic| first | (with_reducible refine My.if_dec (fun h => ?_) (fun h => ?_)) | (with_reducible refine My.if_ndec (fun h => ?_) (fun h => ?_)))
local macro_rules | `(tactic| walk_at "st") => `(tactic| (set_option pp.maxSteps 150 in trace_state))
local macro_rules | `(tactic| walk_at "rX") => `(tactic| first | (with_reducible refine My.rd_callS ?_) | (with_reducible refine My.rd_newK ?_) | (with_reducible refine My.rd_raise1 ?_) | (with_reducible refine My.rd_x1 ?_) | (with_reducible refine My.rd_fldS ?_) | (with_reducible refine My.rd_fld ?_) | (with_reducible refine My.rd_make ?_) | (with_reducible refine My.rd_enum ?_) | (with_reducible refine My.rd_enumX ?_) | (with_reducible refine My.rd_ost ?_) | (with_reducible refine My.rd_xf ?_) | (with_reducible refine My.isi_int_tup ?_))
local macro_rules | `(tactic| walk_at "sm") => `(tactic| first | (with_reducible assumption) | (with_reducible exact L2.Same.refl _) | ((with_reducible refine L2.Same.trans ?_ (by with_reducible assumption)); walk_at "sm"))
local macro_rules | `(tactic| walk_at "tp") => `(tactic| first | (with_reducible assumption) | ((with_reducible refine My.Tp.same ?_ (by with_reducible assumption)); walk_at "sm"))
local macro_rules | `(tactic| walk_at "hp") => `(tactic| ((with_reducible refine My.at_same ?_ (by with_reducible assumption)); walk_at "sm"))
local macro_rules | `(tactic| walk_at "kp") => `(tactic| first | (with_reducible assumption) | ((with_reducible refine My.IsF.same ?_ (by with_reducible assumption)); walk_at "sm") | ((with_reducible refine My.IsSt.same ?_ (by with_reducible assumption)); walk_at "sm") | ((with_reducible refine My.IsWeb.same ?_ (by with_reducible assumption)); walk_at "sm") | ((with_reducible refine My.IsMv.same ?_ (by with_reducible assumption)); walk_at "sm") | ((with_reducible refine My.Sts.same ?_ (by with_reducible assumption)); walk_at "sm") | ((with_reducible refine My.Tp.same ?_ (by with_reducible assumption)); walk_at "sm") | ((with_reducible refine My.at_same ?_ (by with_reducible assumption)); walk_at "sm"))
namespace My
open PySem PySem.Spec PyProof.Rows L2
variable {K : PySem.W.Frag}
section
variable {P : Program} {w : World} {K : PySem.W.Frag} {mg : Str → Option Value} {base : Heap} {f_is_integer f_is_row f_is_fraction f_is_some f_lowest f_multiplied f_squared f_lies_below f_is_stall f_is_ware f_check_ware f_check_two f_across f_hold_of f_is_index f_check_some f_is_step f_end_of f_is_walk f_check_route f_rule_behind f_rule_of f_out_by f_route_out f_routes_on f_best_route f_l_is_integer f_l_source f_l_draw f_l_made f_l_plus f_l_times f_l_over f_l_below f_l_some f_l_stall f_l_stalls f_l_piece f_l_pair f_l_same f_l_rule f_l_comes f_l_routes f_l_fair f_l_web f_l_best f_law f_Web_init f_Web_eq c_BadWare c_Web c_NO_STEPS : Addr} {d_is_integer d_is_row d_is_fraction d_is_some d_lowest d_multiplied d_squared d_lies_below d_is_stall d_is_ware d_check_ware d_check_two d_across d_hold_of d_is_index d_check_some d_is_step d_end_of d_is_walk d_check_route d_rule_behind d_rule_of d_out_by d_route_out d_routes_on d_best_route d_l_is_integer d_l_source d_l_draw d_l_made d_l_plus d_l_times d_l_over d_l_below d_l_some d_l_stall d_l_stalls d_l_piece d_l_pair d_l_same d_l_rule d_l_comes d_l_routes d_l_fair d_l_web d_l_best d_law d_Web_init d_Web_eq : FuncData}
/-- two fractions in, one out -/
def sp_two (K : PySem.W.Frag) (f : Rat → Rat → Rat) (C : Rat → Rat → Prop) : Sp := fun vs H Q _ => ∃ x y r s, vs = [x, y] ∧ IsF K H x r ∧ IsF K H y s ∧ Bd 8000 r ∧ Bd 8000 s ∧ C r s ∧ ∀ H' v, Same H H' → IsF K H' v (f r s) → Q v H'
def sp_added (K : PySem.W.Frag) : Sp := sp_two K (· + ·) fun _ _ => True
def sp_multiplied (K : PySem.W.Frag) : Sp := sp_two K (· * ·) fun _ _ => True
theorem ok_multiplied (T : Txt K mg f_is_integer f_is_row f_is_fraction f_is_some f_lowest f_multiplied f_squared f_lies_below f_is_stall f_is_ware f_check_ware f_check_two f_across f_hold_of f_is_index f_check_some f_is_step f_end_of f_is_walk f_check_route f_rule_behind f_rule_of f_out_by f_route_out f_routes_on f_best_route f_l_is_integer f_l_source f_l_draw f_l_made f_l_plus f_l_times f_l_over f_l_below f_l_some f_l_stall f_l_stalls f_l_piece f_l_pair f_l_same f_l_rule f_l_comes f_l_routes f_l_fair f_l_web f_l_best f_law f_Web_init f_Web_eq c_BadWare c_Web c_NO_STEPS d_is_integer d_is_row d_is_fraction d_is_some d_lowest d_multiplied d_squared d_lies_below d_is_stall d_is_ware d_check_ware d_check_two d_across d_hold_of d_is_index d_check_some d_is_step d_end_of d_is_walk d_check_route d_rule_behind d_rule_of d_out_by d_route_out d_routes_on d_best_route d_l_is_integer d_l_source d_l_draw d_l_made d_l_plus d_l_times d_l_over d_l_below d_l_some d_l_stall d_l_stalls d_l_piece d_l_pair d_l_same d_l_rule d_l_comes d_l_routes d_l_fair d_l_web d_l_best d_law d_Web_init d_Web_eq) : FnOk P w K mg base CX0 1 f_multiplied d_multiplied ["one", "other"] (sp_multiplied K) := by
  refine T.F_multiplied.ok sc_multiplied (fun vs H Q E h => ?_) (fun cdv A outer s H vs Q E hr h => ?_)
  · obtain ⟨x, y, r, s, rfl, _⟩ := h
    rfl
  · obtain ⟨x, y, r, s, rfl, ⟨p1, rfl, h1⟩, ⟨p2, rfl, h2⟩, b1, b2, -, q⟩ := h
    obtain ⟨m1, m2, m3, m4, m5, m6⟩ := mul_math b1 b2 _ _ rfl rfl
    refine ⟨_, (pss_cons (ps_set (i := 2) sc_multiplied.nd rfl (by first | exact Or.inl rfl | exact Or.inr rfl) (pe_callBfun cr_gcd (by rfl) T.m_gcd (pa_cons (pe_ix ix_tup (pv 0) pe_int (fun _ _ => rfl)) (pa_cons (pe_ix ix_tup (pv 1) pe_int (fun _ _ => rfl)) pa_nil))))
      (pss_cons (ps_set (i := 3) sc_multiplied.nd rfl (by first | exact Or.inl rfl | exact Or.inr rfl) (pe_callBfun cr_gcd (by rfl) T.m_gcd (pa_cons (pe_ix ix_tup (pv 1) pe_int (fun _ _ => rfl)) (pa_cons (pe_ix ix_tup (pv 0) pe_int (fun _ _ => rfl)) pa_nil))))
      (pss_one (ps_ret (pe_tup (pa_cons (pe_op op_mulX (pe_op op_fdivX (pe_ix ix_tup (pv 0) pe_int (fun _ _ => rfl)) (pv 2)) (pe_op op_fdivX (pe_ix ix_tup (pv 1) pe_int (fun _ _ => rfl)) (pv 3))) (pa_cons (pe_op op_mulX (pe_op op_fdivX (pe_ix ix_tup (pv 0) pe_int (fun _ _ => rfl)) (pv 3)) (pe_op op_fdivX (pe_ix ix_tup (pv 1) pe_int (fun _ _ => rfl)) (pv 2))) pa_nil))))))), ?_⟩
    walk_at "r"
    · intro p np
      exact q _ _ (same_upd np) (isF_new m5 m6)
    all_goals first | assumption | exact m1 _ | exact m2 _
def sp_negated (K : PySem.W.Frag) : Sp := fun vs H Q _ => ∃ x r, vs = [x] ∧ IsF K H x r ∧ ∀ H' v, Same H H' → IsF K H' v (-r) → Q v H'
def sp_lessened (K : PySem.W.Frag) : Sp := sp_two K (· - ·) fun _ _ => True
def sp_divided (K : PySem.W.Frag) : Sp := sp_two K (· / ·) fun _ s => s ≠ 0
end
end My
namespace My
open PySem PySem.Spec PyProof.Rows L2
variable {K : PySem.W.Frag}
section
variable {P : Program} {w : World} {K : PySem.W.Frag} {mg : Str → Option Value} {base : Heap} {f_is_integer f_is_row f_is_fraction f_is_some f_lowest f_multiplied f_squared f_lies_below f_is_stall f_is_ware f_check_ware f_check_two f_across f_hold_of f_is_index f_check_some f_is_step f_end_of f_is_walk f_check_route f_rule_behind f_rule_of f_out_by f_route_out f_routes_on f_best_route f_l_is_integer f_l_source f_l_draw f_l_made f_l_plus f_l_times f_l_over f_l_below f_l_some f_l_stall f_l_stalls f_l_piece f_l_pair f_l_same f_l_rule f_l_comes f_l_routes f_l_fair f_l_web f_l_best f_law f_Web_init f_Web_eq c_BadWare c_Web c_NO_STEPS : Addr} {d_is_integer d_is_row d_is_fraction d_is_some d_lowest d_multiplied d_squared d_lies_below d_is_stall d_is_ware d_check_ware d_check_two d_across d_hold_of d_is_index d_check_some d_is_step d_end_of d_is_walk d_check_route d_rule_behind d_rule_of d_out_by d_route_out d_routes_on d_best_route d_l_is_integer d_l_source d_l_draw d_l_made d_l_plus d_l_times d_l_over d_l_below d_l_some d_l_stall d_l_stalls d_l_piece d_l_pair d_l_same d_l_rule d_l_comes d_l_routes d_l_fair d_l_web d_l_best d_law d_Web_init d_Web_eq : FuncData}
def sp_is_integer : Sp := fun vs H Q _ => ∃ i : Int, vs = [.int i] ∧ Q (.bl true) H
theorem ok_is_integer (T : Txt K mg f_is_integer f_is_row f_is_fraction f_is_some f_lowest f_multiplied f_squared f_lies_below f_is_stall f_is_ware f_check_ware f_check_two f_across f_hold_of f_is_index f_check_some f_is_step f_end_of f_is_walk f_check_route f_rule_behind f_rule_of f_out_by f_route_out f_routes_on f_best_route f_l_is_integer f_l_source f_l_draw f_l_made f_l_plus f_l_times f_l_over f_l_below f_l_some f_l_stall f_l_stalls f_l_piece f_l_pair f_l_same f_l_rule f_l_comes f_l_routes f_l_fair f_l_web f_l_best f_law f_Web_init f_Web_eq c_BadWare c_Web c_NO_STEPS d_is_integer d_is_row d_is_fraction d_is_some d_lowest d_multiplied d_squared d_lies_below d_is_stall d_is_ware d_check_ware d_check_two d_across d_hold_of d_is_index d_check_some d_is_step d_end_of d_is_walk d_check_route d_rule_behind d_rule_of d_out_by d_route_out d_routes_on d_best_route d_l_is_integer d_l_source d_l_draw d_l_made d_l_plus d_l_times d_l_over d_l_below d_l_some d_l_stall d_l_stalls d_l_piece d_l_pair d_l_same d_l_rule d_l_comes d_l_routes d_l_fair d_l_web d_l_best d_law d_Web_init d_Web_eq) : FnOk P w K mg base CX0 1 f_is_integer d_is_integer ["thing"] sp_is_integer := by
  refine T.F_is_integer.ok sc_is_integer (fun vs H Q E h => ?_) (fun cdv A outer s H vs Q E hr h => ?_)
  · obtain ⟨i, rfl, _⟩ := h
    rfl
  · obtain ⟨i, rfl, q⟩ := h
    refine ⟨_, (pss_one (ps_ret (pe_and (pe_callB call_isi (by rfl) T.z_isinstance (by decide +kernel) (pa_cons (pv 0) (pa_cons (pe_bltn (v := .ty "int") (u := .type "int") (by rfl) T.z_int (by decide +kernel) rfl) pa_nil))) (pe_one (pe_not (pe_callB call_isi (by rfl) T.z_isinstance (by decide +kernel) (pa_cons (pv 0) (pa_cons (pe_bltn (v := .ty "bool") (u := .type "bool") (by rfl) T.z_bool (by decide +kernel) rfl) pa_nil)))))))), ?_⟩
    walk_at "r"
    exact q
def sp_is_fraction (K : PySem.W.Frag) : Sp := fun vs H Q _ => ∃ v r, vs = [v] ∧ IsF K H v r ∧ Q (.bl true) H
theorem ok_is_fraction (T : Txt K mg f_is_integer f_is_row f_is_fraction f_is_some f_lowest f_multiplied f_squared f_lies_below f_is_stall f_is_ware f_check_ware f_check_two f_across f_hold_of f_is_index f_check_some f_is_step f_end_of f_is_walk f_check_route f_rule_behind f_rule_of f_out_by f_route_out f_routes_on f_best_route f_l_is_integer f_l_source f_l_draw f_l_made f_l_plus f_l_times f_l_over f_l_below f_l_some f_l_stall f_l_stalls f_l_piece f_l_pair f_l_same f_l_rule f_l_comes f_l_routes f_l_fair f_l_web f_l_best f_law f_Web_init f_Web_eq c_BadWare c_Web c_NO_STEPS d_is_integer d_is_row d_is_fraction d_is_some d_lowest d_multiplied d_squared d_lies_below d_is_stall d_is_ware d_check_ware d_check_two d_across d_hold_of d_is_index d_check_some d_is_step d_end_of d_is_walk d_check_route d_rule_behind d_rule_of d_out_by d_route_out d_routes_on d_best_route d_l_is_integer d_l_source d_l_draw d_l_made d_l_plus d_l_times d_l_over d_l_below d_l_some d_l_stall d_l_stalls d_l_piece d_l_pair d_l_same d_l_rule d_l_comes d_l_routes d_l_fair d_l_web d_l_best d_law d_Web_init d_Web_eq) : FnOk P w K mg base CX0 2 f_is_fraction d_is_fraction ["thing"] (sp_is_fraction K) := by
  have G_is_integer : FnOk P w K mg base CX0 1 f_is_integer d_is_integer ["thing"] sp_is_integer := ok_is_integer T
  refine T.F_is_fraction.ok sc_is_fraction (fun vs H Q E h => ?_) (fun cdv A outer s H vs Q E hr h => ?_)
  · obtain ⟨v, r, rfl, _⟩ := h
    rfl
  · obtain ⟨v, r, rfl, ⟨p, rfl, hp⟩, q⟩ := h
    refine ⟨_, (pss_cons (ps_if (PW.pt (pw_or (pt_not (pt_val (pe_callB call_isi (by rfl) T.z_isinstance (by decide +kernel) (pa_cons (pv 0) (pa_cons (pe_bltn (v := .ty "tuple") (u := .type "tuple") (by rfl) T.z_tuple (by decide +kernel) rfl) pa_nil))))) (pw_or1 (pt_cmpR op_ne (pe_callB call_lenN (by rfl) T.z_len (by decide +kernel) (pa_cons (pv 0) pa_nil)) pe_int (nomark _)))))
        (pss_one (ps_ret pe_bl))
        pss_nil)
      (pss_cons (ps_asg (pv 0) (pg_tup rfl (pgs_cons (pg_name (i := 1) sc_is_fraction.nd rfl (by first | exact Or.inl rfl | exact Or.inr rfl)) (pgs_cons (pg_name (i := 2) sc_is_fraction.nd rfl (by first | exact Or.inl rfl | exact Or.inr rfl)) pgs_nil))))
      (pss_cons (ps_if (PW.pt (pw_or (pt_not (pt_val (pe_call G_is_integer (hr.mono (by decide)) (by rfl) T.g_is_integer T.k_is_integer T.b_is_integer .nil pass0 (pa_cons (pv 1) pa_nil)))) (pw_or1 (pt_not (pt_val (pe_call G_is_integer (hr.mono (by decide)) (by rfl) T.g_is_integer T.k_is_integer T.b_is_integer .nil pass0 (pa_cons (pv 2) pa_nil)))))))
        (pss_one (ps_ret pe_bl))
        pss_nil)
      (pss_one (ps_ret (pe_and (pe_cmpR op_ge (pv 2) pe_int (nomark _)) (pe_one (pe_cmpR op_eq (pe_callBfun cr_gcd (by rfl) T.m_gcd (pa_cons (pv 1) (pa_cons (pv 2) pa_nil))) pe_int (nomark _))))))))), ?_⟩
    walk_at "r"
    refine ⟨_, rfl, ?_⟩
    walk_at "r"
    refine ⟨_, rfl, ?_⟩
    walk_at "r"
    have h1 := den_pos r
    have h2 := gcd_den r
    walk_at "r"
    rw [Int.natAbs_natCast, h2]
    exact q
end
end My
namespace My
open PySem PySem.Spec PyProof.Rows L2
variable {K : PySem.W.Frag}
theorem num_pos' {r : Rat} (h : 0 < r) : 0 < r.num := by
  rw [Rat.lt_iff] at h
  simpa using h
theorem sq_num (s : Rat) : (s * s).num = s.num * s.num ∧ (s * s).den = s.den * s.den := by
  obtain ⟨h1, h2⟩ := mul_form s s 1 1 (gcd_den s).symm (gcd_den s).symm
  rw [h1, h2]
  simp
section
variable {P : Program} {w : World} {K : PySem.W.Frag} {mg : Str → Option Value} {base : Heap} {f_is_integer f_is_row f_is_fraction f_is_some f_lowest f_multiplied f_squared f_lies_below f_is_stall f_is_ware f_check_ware f_check_two f_across f_hold_of f_is_index f_check_some f_is_step f_end_of f_is_walk f_check_route f_rule_behind f_rule_of f_out_by f_route_out f_routes_on f_best_route f_l_is_integer f_l_source f_l_draw f_l_made f_l_plus f_l_times f_l_over f_l_below f_l_some f_l_stall f_l_stalls f_l_piece f_l_pair f_l_same f_l_rule f_l_comes f_l_routes f_l_fair f_l_web f_l_best f_law f_Web_init f_Web_eq c_BadWare c_Web c_NO_STEPS : Addr} {d_is_integer d_is_row d_is_fraction d_is_some d_lowest d_multiplied d_squared d_lies_below d_is_stall d_is_ware d_check_ware d_check_two d_across d_hold_of d_is_index d_check_some d_is_step d_end_of d_is_walk d_check_route d_rule_behind d_rule_of d_out_by d_route_out d_routes_on d_best_route d_l_is_integer d_l_source d_l_draw d_l_made d_l_plus d_l_times d_l_over d_l_below d_l_some d_l_stall d_l_stalls d_l_piece d_l_pair d_l_same d_l_rule d_l_comes d_l_routes d_l_fair d_l_web d_l_best d_law d_Web_init d_Web_eq : FuncData}
def sp_is_some (K : PySem.W.Frag) : Sp := fun vs H Q _ => ∃ v r, vs = [v] ∧ IsF K H v r ∧ 0 < r ∧ Q (.bl true) H
theorem ok_is_some (T : Txt K mg f_is_integer f_is_row f_is_fraction f_is_some f_lowest f_multiplied f_squared f_lies_below f_is_stall f_is_ware f_check_ware f_check_two f_across f_hold_of f_is_index f_check_some f_is_step f_end_of f_is_walk f_check_route f_rule_behind f_rule_of f_out_by f_route_out f_routes_on f_best_route f_l_is_integer f_l_source f_l_draw f_l_made f_l_plus f_l_times f_l_over f_l_below f_l_some f_l_stall f_l_stalls f_l_piece f_l_pair f_l_same f_l_rule f_l_comes f_l_routes f_l_fair f_l_web f_l_best f_law f_Web_init f_Web_eq c_BadWare c_Web c_NO_STEPS d_is_integer d_is_row d_is_fraction d_is_some d_lowest d_multiplied d_squared d_lies_below d_is_stall d_is_ware d_check_ware d_check_two d_across d_hold_of d_is_index d_check_some d_is_step d_end_of d_is_walk d_check_route d_rule_behind d_rule_of d_out_by d_route_out d_routes_on d_best_route d_l_is_integer d_l_source d_l_draw d_l_made d_l_plus d_l_times d_l_over d_l_below d_l_some d_l_stall d_l_stalls d_l_piece d_l_pair d_l_same d_l_rule d_l_comes d_l_routes d_l_fair d_l_web d_l_best d_law d_Web_init d_Web_eq) : FnOk P w K mg base CX0 3 f_is_some d_is_some ["thing"] (sp_is_some K) := by
  have G_is_fraction : FnOk P w K mg base CX0 2 f_is_fraction d_is_fraction ["thing"] (sp_is_fraction K) := ok_is_fraction T
  refine T.F_is_some.ok sc_is_some (fun vs H Q E h => ?_) (fun cdv A outer s H vs Q E hr h => ?_)
  · obtain ⟨v, r, rfl, _⟩ := h
    rfl
  · obtain ⟨v, r, rfl, h, r0, q⟩ := h
    obtain ⟨p, rfl, hp⟩ := id h
    have hn := num_pos' r0
    refine ⟨_, (pss_one (ps_ret (pe_and (pe_call G_is_fraction (hr.mono (by decide)) (by rfl) T.g_is_fraction T.k_is_fraction T.b_is_fraction .nil pass0 (pa_cons (pv 0) pa_nil)) (pe_one (pe_cmpR op_gt (pe_ix ix_tup (pv 0) pe_int (fun _ _ => rfl)) pe_int (nomark _)))))), ?_⟩
    walk_at "r"
    refine ⟨_, _, rfl, h, ?_⟩
    walk_at "r"
    rw [decide_eq_true hn]
    exact q
def sp_squared (K : PySem.W.Frag) : Sp := fun vs H Q _ => ∃ v r, vs = [v] ∧ IsF K H v r ∧ Bd 8000 r ∧ ∀ H' u, Same H H' → IsF K H' u (r * r) → Q u H'
theorem ok_squared (T : Txt K mg f_is_integer f_is_row f_is_fraction f_is_some f_lowest f_multiplied f_squared f_lies_below f_is_stall f_is_ware f_check_ware f_check_two f_across f_hold_of f_is_index f_check_some f_is_step f_end_of f_is_walk f_check_route f_rule_behind f_rule_of f_out_by f_route_out f_routes_on f_best_route f_l_is_integer f_l_source f_l_draw f_l_made f_l_plus f_l_times f_l_over f_l_below f_l_some f_l_stall f_l_stalls f_l_piece f_l_pair f_l_same f_l_rule f_l_comes f_l_routes f_l_fair f_l_web f_l_best f_law f_Web_init f_Web_eq c_BadWare c_Web c_NO_STEPS d_is_integer d_is_row d_is_fraction d_is_some d_lowest d_multiplied d_squared d_lies_below d_is_stall d_is_ware d_check_ware d_check_two d_across d_hold_of d_is_index d_check_some d_is_step d_end_of d_is_walk d_check_route d_rule_behind d_rule_of d_out_by d_route_out d_routes_on d_best_route d_l_is_integer d_l_source d_l_draw d_l_made d_l_plus d_l_times d_l_over d_l_below d_l_some d_l_stall d_l_stalls d_l_piece d_l_pair d_l_same d_l_rule d_l_comes d_l_routes d_l_fair d_l_web d_l_best d_law d_Web_init d_Web_eq) : FnOk P w K mg base CX0 1 f_squared d_squared ["one"] (sp_squared K) := by
  refine T.F_squared.ok sc_squared (fun vs H Q E h => ?_) (fun cdv A outer s H vs Q E hr h => ?_)
  · obtain ⟨v, r, rfl, _⟩ := h
    rfl
  · obtain ⟨v, r, rfl, ⟨p, rfl, hp⟩, b, q⟩ := h
    obtain ⟨e1, e2⟩ := sq_num r
    refine ⟨_, (pss_one (ps_ret (pe_tup (pa_cons (pe_op op_mulX (pe_ix ix_tup (pv 0) pe_int (fun _ _ => rfl)) (pe_ix ix_tup (pv 0) pe_int (fun _ _ => rfl))) (pa_cons (pe_op op_mulX (pe_ix ix_tup (pv 0) pe_int (fun _ _ => rfl)) (pe_ix ix_tup (pv 0) pe_int (fun _ _ => rfl))) pa_nil))))), ?_⟩
    walk_at "r"
    · intro p2 n2
      exact q _ _ (same_upd n2) (isF_new e1 (by rw [e2, Int.natCast_mul]))
    · exact cmx (by rw [Int.natAbs_natCast]; exact p46 b.2) (by rw [Int.natAbs_natCast]; exact p46 b.2)
    · exact cmx (p46 b.1) (p46 b.1)
def sp_is_stall (K : PySem.W.Frag) : Sp := fun vs H Q _ => ∃ (n : Nat) (x : V) (s : Stl), vs = [.int (n : Nat), x] ∧ IsSt K H x s ∧ OkSt n s ∧ BdSt 8000 s ∧ ∀ H', Same H H' → Q (.bl true) H'
theorem ok_is_stall (T : Txt K mg f_is_integer f_is_row f_is_fraction f_is_some f_lowest f_multiplied f_squared f_lies_below f_is_stall f_is_ware f_check_ware f_check_two f_across f_hold_of f_is_index f_check_some f_is_step f_end_of f_is_walk f_check_route f_rule_behind f_rule_of f_out_by f_route_out f_routes_on f_best_route f_l_is_integer f_l_source f_l_draw f_l_made f_l_plus f_l_times f_l_over f_l_below f_l_some f_l_stall f_l_stalls f_l_piece f_l_pair f_l_same f_l_rule f_l_comes f_l_routes f_l_fair f_l_web f_l_best f_law f_Web_init f_Web_eq c_BadWare c_Web c_NO_STEPS d_is_integer d_is_row d_is_fraction d_is_some d_lowest d_multiplied d_squared d_lies_below d_is_stall d_is_ware d_check_ware d_check_two d_across d_hold_of d_is_index d_check_some d_is_step d_end_of d_is_walk d_check_route d_rule_behind d_rule_of d_out_by d_route_out d_routes_on d_best_route d_l_is_integer d_l_source d_l_draw d_l_made d_l_plus d_l_times d_l_over d_l_below d_l_some d_l_stall d_l_stalls d_l_piece d_l_pair d_l_same d_l_rule d_l_comes d_l_routes d_l_fair d_l_web d_l_best d_law d_Web_init d_Web_eq) : FnOk P w K mg base CX0 4 f_is_stall d_is_stall ["wares", "thing"] (sp_is_stall K) := by
  have G_is_integer : FnOk P w K mg base CX0 1 f_is_integer d_is_integer ["thing"] sp_is_integer := ok_is_integer T
  have G_is_some : FnOk P w K mg base CX0 3 f_is_some d_is_some ["thing"] (sp_is_some K) := ok_is_some T
  have G_multiplied : FnOk P w K mg base CX0 1 f_multiplied d_multiplied ["one", "other"] (sp_multiplied K) := ok_multiplied T
  have G_squared : FnOk P w K mg base CX0 1 f_squared d_squared ["one"] (sp_squared K) := ok_squared T
  refine T.F_is_stall.ok sc_is_stall (fun vs H Q E h => ?_) (fun cdv A outer s H vs Q E hr h => ?_)
  · obtain ⟨n, x, s, rfl, _⟩ := h
    rfl
  · obtain ⟨n, x, s, rfl, ⟨p, va, vb, vr, rfl, hp, ha, hb, hr'⟩, ok, bd, q⟩ := h
    have hu := ok.u
    have hv := ok.v
    have hne := ok.ne
    refine ⟨_, (pss_cons (ps_if (PW.pt (pw_or (pt_not (pt_val (pe_callB call_isi (by rfl) T.z_isinstance (by decide +kernel) (pa_cons (pv 1) (pa_cons (pe_bltn (v := .ty "tuple") (u := .type "tuple") (by rfl) T.z_tuple (by decide +kernel) rfl) pa_nil))))) (pw_or1 (pt_cmpR op_ne (pe_callB call_lenN (by rfl) T.z_len (by decide +kernel) (pa_cons (pv 1) pa_nil)) pe_int (nomark _)))))
        (pss_one (ps_ret pe_bl))
        pss_nil)
      (pss_cons (ps_asg (pv 1) (pg_tup rfl (pgs_cons (pg_name (i := 2) sc_is_stall.nd rfl (by first | exact Or.inl rfl | exact Or.inr rfl)) (pgs_cons (pg_name (i := 3) sc_is_stall.nd rfl (by first | exact Or.inl rfl | exact Or.inr rfl)) (pgs_cons (pg_name (i := 4) sc_is_stall.nd rfl (by first | exact Or.inl rfl | exact Or.inr rfl)) (pgs_cons (pg_name (i := 5) sc_is_stall.nd rfl (by first | exact Or.inl rfl | exact Or.inr rfl)) (pgs_cons (pg_name (i := 6) sc_is_stall.nd rfl (by first | exact Or.inl rfl | exact Or.inr rfl)) pgs_nil)))))))
      (pss_cons (ps_for PassesOwn.never rfl (pi_tup (pe_tup (pa_cons (pv 2) (pa_cons (pv 3) pa_nil)))) (pg_name (i := 7) sc_is_stall.nd rfl (by first | exact Or.inl rfl | exact Or.inr rfl))
        (pss_one (ps_if (PW.pt (pw_or (pt_not (pt_val (pe_call G_is_integer (hr.mono (by decide)) (by rfl) T.g_is_integer T.k_is_integer T.b_is_integer .nil pass0 (pa_cons (pv 7) pa_nil)))) (pw_or1 (pt_not (pt_chain op_le op_lt pe_int (pv 7) (pv 0))))))
            (pss_one (ps_ret pe_bl))
            pss_nil)))
      (pss_cons (ps_if (PW.pt (pw_or (pt_cmpR op_eq (pv 2) (pv 3) (nomark _)) (pw_or1 (pt_not (PW.pt (pw_and (pt_val (pe_call G_is_some (hr.mono (by decide)) (by rfl) T.g_is_some T.k_is_some T.b_is_some .nil pass0 (pa_cons (pv 4) pa_nil))) (pw_and (pt_val (pe_call G_is_some (hr.mono (by decide)) (by rfl) T.g_is_some T.k_is_some T.b_is_some .nil pass0 (pa_cons (pv 5) pa_nil))) (pw_and1 (pt_val (pe_call G_is_some (hr.mono (by decide)) (by rfl) T.g_is_some T.k_is_some T.b_is_some .nil pass0 (pa_cons (pv 6) pa_nil)))))))))))
        (pss_one (ps_ret pe_bl))
        pss_nil)
      (pss_one (ps_ret (pe_cmpR (op_eqD hr.units) (pe_call G_multiplied (hr.mono (by decide)) (by rfl) T.g_multiplied T.k_multiplied T.b_multiplied .nil pass0 (pa_cons (pv 4) (pa_cons (pv 5) pa_nil))) (pe_call G_squared (hr.mono (by decide)) (by rfl) T.g_squared T.k_squared T.b_squared .nil pass0 (pa_cons (pv 6) pa_nil)) (nomark _)))))))), ?_⟩
    walk_at "r"
    intro t nt
    have sm := same_upd (o := .tup [V.int (s.u : Nat), .int (s.v : Nat)]) nt
    have ht : upd H t (.tup [V.int (s.u : Nat), .int (s.v : Nat)]) t = some (.tup [V.int (s.u : Nat), .int (s.v : Nat)]) := upd_same
    generalize upd H t (.tup [V.int (s.u : Nat), .int (s.v : Nat)]) = H1 at *
    have ha := ha.same sm
    have hb := hb.same sm
    have hr' := hr'.same sm
    refine ⟨_, rfl, ⟨_, .of ht⟩, ?_⟩
    refine for_tup (K := K) (a := t) (xs := [V.int (s.u : Nat), .int (s.v : Nat)]) (fun i σ H' => ∃ t7, σ = [some (.int (n : Nat)), some (.ref p), some (.int (s.u : Nat)), some (.int (s.v : Nat)), some va, some vb, some vr, t7] ∧ H' = H1) ⟨_, rfl, rfl⟩ ?_ ?_ ?_
    · rintro i σ H' _ ⟨t7, rfl, rfl⟩
      exact .of ht
    · rintro i z σ H' hz ⟨t7, rfl, rfl⟩
      obtain ⟨k, rfl, hk⟩ : ∃ k : Nat, z = .int (k : Nat) ∧ k < n := by
        match i, hz with
        | 0, hz => exact ⟨_, (Option.some.inj hz).symm, hu⟩
        | 1, hz => exact ⟨_, (Option.some.inj hz).symm, hv⟩
      walk_at "r"
      refine ⟨_, rfl, ?_⟩
      walk_at "r"
      exact rfl
    · rintro σ H' ⟨t7, rfl, rfl⟩
      walk_at "r"
      refine ⟨_, _, rfl, ha, ok.a, ?_⟩
      walk_at "r"
      refine ⟨_, _, rfl, hb, ok.b, ?_⟩
      walk_at "r"
      refine ⟨_, _, rfl, hr', ok.r, ?_⟩
      walk_at "r"
      refine ⟨_, _, _, _, rfl, ha, hb, bd.a, bd.b, trivial, fun H2 x1 s1 h1 => ?_⟩
      walk_at "r"
      refine ⟨_, _, rfl, hr'.same s1, bd.r, fun H3 x2 s2 h2 => ?_⟩
      walk_at "r"
      refine eqF (h1.same s2) h2 ?_
      rw [decide_eq_true ok.e]
      exact q _ ((sm.trans s1).trans s2)
def sp_is_row : Sp := fun vs H Q _ => ∃ L xs, vs = [.ref L] ∧ (H L = some (.lst xs) ∨ H L = some (.tup xs)) ∧ ∀ H', Same H H' → Q (.bl true) H'
theorem ok_is_row (T : Txt K mg f_is_integer f_is_row f_is_fraction f_is_some f_lowest f_multiplied f_squared f_lies_below f_is_stall f_is_ware f_check_ware f_check_two f_across f_hold_of f_is_index f_check_some f_is_step f_end_of f_is_walk f_check_route f_rule_behind f_rule_of f_out_by f_route_out f_routes_on f_best_route f_l_is_integer f_l_source f_l_draw f_l_made f_l_plus f_l_times f_l_over f_l_below f_l_some f_l_stall f_l_stalls f_l_piece f_l_pair f_l_same f_l_rule f_l_comes f_l_routes f_l_fair f_l_web f_l_best f_law f_Web_init f_Web_eq c_BadWare c_Web c_NO_STEPS d_is_integer d_is_row d_is_fraction d_is_some d_lowest d_multiplied d_squared d_lies_below d_is_stall d_is_ware d_check_ware d_check_two d_across d_hold_of d_is_index d_check_some d_is_step d_end_of d_is_walk d_check_route d_rule_behind d_rule_of d_out_by d_route_out d_routes_on d_best_route d_l_is_integer d_l_source d_l_draw d_l_made d_l_plus d_l_times d_l_over d_l_below d_l_some d_l_stall d_l_stalls d_l_piece d_l_pair d_l_same d_l_rule d_l_comes d_l_routes d_l_fair d_l_web d_l_best d_law d_Web_init d_Web_eq) : FnOk P w K mg base CX0 1 f_is_row d_is_row ["thing"] sp_is_row := by
  refine T.F_is_row.ok sc_is_row (fun vs H Q E h => ?_) (fun cdv A outer s H vs Q E hr h => ?_)
  · obtain ⟨L, xs, rfl, _⟩ := h
    rfl
  · obtain ⟨L, xs, rfl, h, q⟩ := h
    refine ⟨_, (pss_one (ps_ret (pe_callB call_isiT (by rfl) T.z_isinstance (by decide +kernel) (pa_cons (pv 0) (pa_cons (pe_tup (pa_cons (pe_bltn (v := .ty "list") (u := .type "list") (by rfl) T.z_list (by decide +kernel) rfl) (pa_cons (pe_bltn (v := .ty "tuple") (u := .type "tuple") (by rfl) T.z_tuple (by decide +kernel) rfl) pa_nil))) pa_nil))))), ?_⟩
    walk_at "r"
    intro p np
    walk_at "r"
    rcases h with h | h
    · refine ⟨_, _, _, _, _, true, rfl, upd_same, .cons (.ty _) (.cons (.ty _) .nil), .base (.lst (same_upd np _ _ h)), kitAny_cons (b := true) (kit_ty (by decide +kernel)) (fun z => Bool.noConfusion z) (fun _ => rfl), ?_⟩
      exact q _ (same_upd np)
    · refine ⟨_, _, _, _, _, true, rfl, upd_same, .cons (.ty _) (.cons (.ty _) .nil), .base (.tup (same_upd np _ _ h)), kitAny_cons (b := false) (kit_ty (by decide +kernel)) (fun _ => kitAny_cons (b := true) (kit_ty (by decide +kernel)) (fun z => Bool.noConfusion z) (fun _ => rfl)) (fun z => Bool.noConfusion z), ?_⟩
      exact q _ (same_upd np)
end
end My
namespace My
open PySem PySem.Spec PyProof.Rows L2
variable {K : PySem.W.Frag}
section
variable {P : Program} {w : World} {K : PySem.W.Frag} {mg : Str → Option Value} {base : Heap} {f_is_integer f_is_row f_is_fraction f_is_some f_lowest f_multiplied f_squared f_lies_below f_is_stall f_is_ware f_check_ware f_check_two f_across f_hold_of f_is_index f_check_some f_is_step f_end_of f_is_walk f_check_route f_rule_behind f_rule_of f_out_by f_route_out f_routes_on f_best_route f_l_is_integer f_l_source f_l_draw f_l_made f_l_plus f_l_times f_l_over f_l_below f_l_some f_l_stall f_l_stalls f_l_piece f_l_pair f_l_same f_l_rule f_l_comes f_l_routes f_l_fair f_l_web f_l_best f_law f_Web_init f_Web_eq c_BadWare c_Web c_NO_STEPS : Addr} {d_is_integer d_is_row d_is_fraction d_is_some d_lowest d_multiplied d_squared d_lies_below d_is_stall d_is_ware d_check_ware d_check_two d_across d_hold_of d_is_index d_check_some d_is_step d_end_of d_is_walk d_check_route d_rule_behind d_rule_of d_out_by d_route_out d_routes_on d_best_route d_l_is_integer d_l_source d_l_draw d_l_made d_l_plus d_l_times d_l_over d_l_below d_l_some d_l_stall d_l_stalls d_l_piece d_l_pair d_l_same d_l_rule d_l_comes d_l_routes d_l_fair d_l_web d_l_best d_law d_Web_init d_Web_eq : FuncData}
/-- what Web(n, stalls) makes of right stalls -/
def sp_web (K : PySem.W.Frag) (C : Addr) : Sp := fun vs H Q _ => ∃ (p dx L : Addr) (n : Nat) (xs : List V) (ss : List Stl), vs = [.ref p, .int (n : Nat), .ref L] ∧ H p = some (.ins C dx []) ∧ (H L = some (.lst xs) ∨ H L = some (.tup xs)) ∧ 1 ≤ n ∧ n ≤ 8 ∧ xs.length ≤ 16 ∧
  Sts K H xs ss ∧ (∀ s ∈ ss, OkSt n s ∧ BdSt 8000 s) ∧ ∀ H', IsWeb K C H' (.ref p) n ss → (∀ b o, H b = some o → b ≠ p → H' b = some o) → Q .non H'
theorem ok_Web_init (T : Txt K mg f_is_integer f_is_row f_is_fraction f_is_some f_lowest f_multiplied f_squared f_lies_below f_is_stall f_is_ware f_check_ware f_check_two f_across f_hold_of f_is_index f_check_some f_is_step f_end_of f_is_walk f_check_route f_rule_behind f_rule_of f_out_by f_route_out f_routes_on f_best_route f_l_is_integer f_l_source f_l_draw f_l_made f_l_plus f_l_times f_l_over f_l_below f_l_some f_l_stall f_l_stalls f_l_piece f_l_pair f_l_same f_l_rule f_l_comes f_l_routes f_l_fair f_l_web f_l_best f_law f_Web_init f_Web_eq c_BadWare c_Web c_NO_STEPS d_is_integer d_is_row d_is_fraction d_is_some d_lowest d_multiplied d_squared d_lies_below d_is_stall d_is_ware d_check_ware d_check_two d_across d_hold_of d_is_index d_check_some d_is_step d_end_of d_is_walk d_check_route d_rule_behind d_rule_of d_out_by d_route_out d_routes_on d_best_route d_l_is_integer d_l_source d_l_draw d_l_made d_l_plus d_l_times d_l_over d_l_below d_l_some d_l_stall d_l_stalls d_l_piece d_l_pair d_l_same d_l_rule d_l_comes d_l_routes d_l_fair d_l_web d_l_best d_law d_Web_init d_Web_eq) : FnOk P w K mg base CX0 5 f_Web_init d_Web_init ["self", "wares", "stalls"] (sp_web K c_Web) := by
  have G_is_integer : FnOk P w K mg base CX0 1 f_is_integer d_is_integer ["thing"] sp_is_integer := ok_is_integer T
  have G_is_row : FnOk P w K mg base CX0 1 f_is_row d_is_row ["thing"] sp_is_row := ok_is_row T
  have G_is_stall : FnOk P w K mg base CX0 4 f_is_stall d_is_stall ["wares", "thing"] (sp_is_stall K) := ok_is_stall T
  refine T.F_Web_init.ok sc_Web_init (fun vs H Q E h => ?_) (fun cdv A outer s H vs Q E hr h => ?_)
  · obtain ⟨p, dx, L, n, xs, ss, rfl, _⟩ := h
    rfl
  · obtain ⟨p, dx, L, n, xs, ss, rfl, hp, hL, hn1, hn8, hlen, hss, hok, q⟩ := h
    refine ⟨_, (pss_cons (ps_if (PW.pt (pw_or (pt_not (pt_val (pe_call G_is_integer (hr.mono (by decide)) (by rfl) T.g_is_integer T.k_is_integer T.b_is_integer .nil pass0 (pa_cons (pv 1) pa_nil)))) (pw_or1 (pt_not (pt_chain op_le op_le pe_int (pv 1) (C8.pe_gc (by rfl) T.v_MOST_WARES))))))
        (pss_one ps_never)
        pss_nil)
      (pss_cons (ps_if (PW.pt (pw_or (pt_not (pt_val (pe_call G_is_row (hr.mono (by decide)) (by rfl) T.g_is_row T.k_is_row T.b_is_row .nil pass0 (pa_cons (pv 2) pa_nil)))) (pw_or1 (pt_cmpR op_gt (pe_callB call_lenN (by rfl) T.z_len (by decide +kernel) (pa_cons (pv 2) pa_nil)) (C8.pe_gc (by rfl) T.v_MOST_STALLS) (nomark _)))))
        (pss_one ps_never)
        pss_nil)
      (pss_cons (ps_for PassesOwn.never rfl (pi_enumX (by rfl) T.z_enumerate (pa_cons (pv 2) pa_nil)) (pg_tup rfl (pgs_cons (pg_name (i := 3) sc_Web_init.nd rfl (by first | exact Or.inl rfl | exact Or.inr rfl)) (pgs_cons (pg_name (i := 4) sc_Web_init.nd rfl (by first | exact Or.inl rfl | exact Or.inr rfl)) pgs_nil)))
        (pss_one (ps_if (pt_not (pt_val (pe_call G_is_stall (hr.mono (by decide)) (by rfl) T.g_is_stall T.k_is_stall T.b_is_stall .nil pass0 (pa_cons (pv 1) (pa_cons (pv 4) pa_nil)))))
            (pss_one ps_never)
            pss_nil)))
      (pss_cons (ps_fld (pv 0) (pv 1) rfl)
      (pss_one (ps_fld (pv 0) (pe_callTy call_tuple_of (by rfl) T.z_tuple (by decide +kernel) (pa_cons (pv 2) pa_nil)) rfl)))))), ?_⟩
    walk_at "r"
    refine ⟨_, rfl, ?_⟩
    walk_at "r"
    refine ⟨_, _, rfl, hL, fun H1 s1 => ?_⟩
    have hL1 : H1 L = some (.lst xs) ∨ H1 L = some (.tup xs) := hL.imp (fun h => s1 _ _ h) fun h => s1 _ _ h
    have hSq : ∀ {H2 : Hp}, Same H1 H2 → SqL K H2 L xs ∨ SqT K H2 L xs := fun f => hL1.imp (fun h => .of (f _ _ h)) fun h => .of (f _ _ h)
    walk_at "r"
    refine ⟨L, xs, rfl, hSq (Same.refl _), ?_⟩
    walk_at "r"
    refine ⟨L, xs, rfl, ?_⟩
    have nL : L ≠ p := fun z => by
      rw [z, hp] at hL
      rcases hL with z | z <;> cases z
    rcases hL1 with h | h
    · refine .inl ⟨.of h, ?_⟩
      refine for_enum (K := K) (a := L) (xs := xs) (fun i σ H' => ∃ t3 t4, σ = [some (.ref p), some (.int (n : Nat)), some (.ref L), t3, t4] ∧ Same H1 H') ⟨_, _, rfl, Same.refl _⟩ ?_ ?_ ?_
      · rintro i σ H' _ ⟨t3, t4, rfl, s'⟩
        exact .of (s' _ _ h)
      · rintro i x T2 σ H' hx ⟨t3, t4, rfl, s'⟩ nT
        obtain ⟨s0, hs0, hst⟩ := hss.at hx
        have sm := same_upd (o := .tup [.int (i : Nat), x]) nT
        obtain ⟨ok0, bd0⟩ := hok _ (List.mem_of_getElem? hs0)
        walk_at "r"
        refine ⟨n, x, s0, rfl, hst.same ((s1.trans s').trans sm), ok0, bd0, fun H3 s3 => ?_⟩
        walk_at "r"
        exact ⟨_, _, rfl, (s'.trans sm).trans s3⟩
      · rintro σ H2 ⟨t3, t4, rfl, s'⟩
        have hp2 := s' _ _ (s1 _ _ hp)
        have hL2 := s' _ _ h
        have k2 := s1.trans s'
        walk_at "r"
        refine ⟨_, _, _, _, rfl, hp2, T.w_Web.it.cl, T.n_Web_wares, (by decide), ?_⟩
        walk_at "r"
        refine ⟨_, _, rfl, .inl ⟨.of ((upd_ne nL).trans hL2), fun l nl => ?_⟩⟩
        have hlp : l ≠ p := fun z => by
          rw [z, upd_same] at nl
          cases nl
        have nl2 : H2 l = none := by
          rw [upd_ne hlp] at nl
          exact nl
        walk_at "r"
        refine ⟨_, _, _, _, rfl, (upd_ne (Ne.symm hlp)).trans upd_same, T.w_Web.it.cl, T.n_Web_stalls, (by show 1 < 1000; decide), ?_⟩
        have keep : ∀ b o, H b = some o → b ≠ p → upd (upd (upd H2 p (.ins c_Web dx (putF "wares" (.int (n : Nat)) []))) l (.tup xs)) p (.ins c_Web dx (putF "stalls" (.ref l) (putF "wares" (.int (n : Nat)) []))) b = some o := fun b o hb hbp => by
          have hbl : b ≠ l := fun z => by
            rw [← z, k2 _ _ hb] at nl2
            cases nl2
          rw [upd_ne hbp, upd_ne hbl, upd_ne hbp]
          exact k2 _ _ hb
        refine q _ ⟨p, dx, l, xs, rfl, by rw [upd_same, wF_new], (upd_ne hlp).trans upd_same, hss.ts fun b ys hb => keep b _ hb ?_⟩ keep
        intro z
        rw [z, hp] at hb
        cases hb
    · refine .inr ⟨.of h, ?_⟩
      refine for_enumT (K := K) (a := L) (xs := xs) (fun i σ H' => ∃ t3 t4, σ = [some (.ref p), some (.int (n : Nat)), some (.ref L), t3, t4] ∧ Same H1 H') ⟨_, _, rfl, Same.refl _⟩ ?_ ?_ ?_
      · rintro i σ H' _ ⟨t3, t4, rfl, s'⟩
        exact .of (s' _ _ h)
      · rintro i x T2 σ H' hx ⟨t3, t4, rfl, s'⟩ nT
        obtain ⟨s0, hs0, hst⟩ := hss.at hx
        have sm := same_upd (o := .tup [.int (i : Nat), x]) nT
        obtain ⟨ok0, bd0⟩ := hok _ (List.mem_of_getElem? hs0)
        walk_at "r"
        refine ⟨n, x, s0, rfl, hst.same ((s1.trans s').trans sm), ok0, bd0, fun H3 s3 => ?_⟩
        walk_at "r"
        exact ⟨_, _, rfl, (s'.trans sm).trans s3⟩
      · rintro σ H2 ⟨t3, t4, rfl, s'⟩
        have hp2 := s' _ _ (s1 _ _ hp)
        have hL2 := s' _ _ h
        have k2 := s1.trans s'
        walk_at "r"
        refine ⟨_, _, _, _, rfl, hp2, T.w_Web.it.cl, T.n_Web_wares, (by decide), ?_⟩
        walk_at "r"
        refine ⟨_, _, rfl, .inr ⟨.of ((upd_ne nL).trans hL2), ?_⟩⟩
        walk_at "r"
        refine ⟨_, _, _, _, rfl, upd_same, T.w_Web.it.cl, T.n_Web_stalls, (by show 1 < 1000; decide), ?_⟩
        have keep : ∀ b o, H b = some o → b ≠ p → upd (upd H2 p (.ins c_Web dx (putF "wares" (.int (n : Nat)) []))) p (.ins c_Web dx (putF "stalls" (.ref L) (putF "wares" (.int (n : Nat)) []))) b = some o := fun b o hb hbp => by
          rw [upd_ne hbp, upd_ne hbp]
          exact k2 _ _ hb
        refine q _ ⟨p, dx, L, xs, rfl, by rw [upd_same, wF_new], (upd_ne nL).trans ((upd_ne nL).trans hL2), hss.ts fun b ys hb => keep b _ hb ?_⟩ keep
        intro z
        rw [z, hp] at hb
        cases hb
end
end My
namespace My
open PySem PySem.Spec PyProof.Rows L2
variable {K : PySem.W.Frag}
theorem sq_pos {r : Rat} (h : 0 < r) : 0 < r * r := Rat.mul_pos h h
theorem ne_of_pos {r : Rat} (h : 0 < r) : r ≠ 0 := fun z => by
  rw [z] at h
  exact absurd h (by decide)
section
variable {P : Program} {w : World} {K : PySem.W.Frag} {mg : Str → Option Value} {base : Heap} {f_is_integer f_is_row f_is_fraction f_is_some f_lowest f_multiplied f_squared f_lies_below f_is_stall f_is_ware f_check_ware f_check_two f_across f_hold_of f_is_index f_check_some f_is_step f_end_of f_is_walk f_check_route f_rule_behind f_rule_of f_out_by f_route_out f_routes_on f_best_route f_l_is_integer f_l_source f_l_draw f_l_made f_l_plus f_l_times f_l_over f_l_below f_l_some f_l_stall f_l_stalls f_l_piece f_l_pair f_l_same f_l_rule f_l_comes f_l_routes f_l_fair f_l_web f_l_best f_law f_Web_init f_Web_eq c_BadWare c_Web c_NO_STEPS : Addr} {d_is_integer d_is_row d_is_fraction d_is_some d_lowest d_multiplied d_squared d_lies_below d_is_stall d_is_ware d_check_ware d_check_two d_across d_hold_of d_is_index d_check_some d_is_step d_end_of d_is_walk d_check_route d_rule_behind d_rule_of d_out_by d_route_out d_routes_on d_best_route d_l_is_integer d_l_source d_l_draw d_l_made d_l_plus d_l_times d_l_over d_l_below d_l_some d_l_stall d_l_stalls d_l_piece d_l_pair d_l_same d_l_rule d_l_comes d_l_routes d_l_fair d_l_web d_l_best d_law d_Web_init d_Web_eq : FuncData}
def sp_stall_led (K : PySem.W.Frag) : Sp := fun vs H Q _ => ∃ v s vx x, vs = [v, vx] ∧ IsSt K H v s ∧ IsF K H vx x ∧ Bd 1900 s.r ∧ Bd 3900 x ∧ 0 < x ∧ ∀ H' u, Same H H' → IsSt K H' u (s.first x) → Q u H'
def sp_behind (K : PySem.W.Frag) : Sp := fun vs H Q _ => ∃ (v : V) (s : Stl) (wn : Nat) (vx : V) (x : Rat), vs = [v, .int (wn : Nat), vx] ∧ IsSt K H v s ∧ IsF K H vx x ∧ BdSt 1900 s ∧ Bd 1900 x ∧ 0 < s.a ∧ 0 < s.b ∧ 0 < x ∧ ∀ H' u, Same H H' → IsSt K H' u (s.behind wn x) → Q u H'
end
end My
namespace My
open PySem PySem.Spec PyProof.Rows L2
variable {K : PySem.W.Frag}
theorem at_some {xs : List V} {i : Nat} {x : V} (h : xs[i]? = some x) : atI xs (i : Int) = some x := atI_nat h
theorem in_pair {u v w : Nat} (h : w = u ∨ w = v) : inV (.int (w : Nat)) [V.int (u : Nat), .int (v : Nat)] = true := by
  rcases h with rfl | rfl <;> simp [inV, eqV]
section
variable {P : Program} {w : World} {K : PySem.W.Frag} {mg : Str → Option Value} {base : Heap} {f_is_integer f_is_row f_is_fraction f_is_some f_lowest f_multiplied f_squared f_lies_below f_is_stall f_is_ware f_check_ware f_check_two f_across f_hold_of f_is_index f_check_some f_is_step f_end_of f_is_walk f_check_route f_rule_behind f_rule_of f_out_by f_route_out f_routes_on f_best_route f_l_is_integer f_l_source f_l_draw f_l_made f_l_plus f_l_times f_l_over f_l_below f_l_some f_l_stall f_l_stalls f_l_piece f_l_pair f_l_same f_l_rule f_l_comes f_l_routes f_l_fair f_l_web f_l_best f_law f_Web_init f_Web_eq c_BadWare c_Web c_NO_STEPS : Addr} {d_is_integer d_is_row d_is_fraction d_is_some d_lowest d_multiplied d_squared d_lies_below d_is_stall d_is_ware d_check_ware d_check_two d_across d_hold_of d_is_index d_check_some d_is_step d_end_of d_is_walk d_check_route d_rule_behind d_rule_of d_out_by d_route_out d_routes_on d_best_route d_l_is_integer d_l_source d_l_draw d_l_made d_l_plus d_l_times d_l_over d_l_below d_l_some d_l_stall d_l_stalls d_l_piece d_l_pair d_l_same d_l_rule d_l_comes d_l_routes d_l_fair d_l_web d_l_best d_law d_Web_init d_Web_eq : FuncData}
def sp_is_index (K : PySem.W.Frag) (C : Addr) : Sp := fun vs H Q _ => ∃ (x : V) (n : Nat) (ss : List Stl) (i : Nat), vs = [x, .int (i : Nat)] ∧ IsWeb K C H x n ss ∧ i < ss.length ∧ Q (.bl true) H
theorem ok_is_index (T : Txt K mg f_is_integer f_is_row f_is_fraction f_is_some f_lowest f_multiplied f_squared f_lies_below f_is_stall f_is_ware f_check_ware f_check_two f_across f_hold_of f_is_index f_check_some f_is_step f_end_of f_is_walk f_check_route f_rule_behind f_rule_of f_out_by f_route_out f_routes_on f_best_route f_l_is_integer f_l_source f_l_draw f_l_made f_l_plus f_l_times f_l_over f_l_below f_l_some f_l_stall f_l_stalls f_l_piece f_l_pair f_l_same f_l_rule f_l_comes f_l_routes f_l_fair f_l_web f_l_best f_law f_Web_init f_Web_eq c_BadWare c_Web c_NO_STEPS d_is_integer d_is_row d_is_fraction d_is_some d_lowest d_multiplied d_squared d_lies_below d_is_stall d_is_ware d_check_ware d_check_two d_across d_hold_of d_is_index d_check_some d_is_step d_end_of d_is_walk d_check_route d_rule_behind d_rule_of d_out_by d_route_out d_routes_on d_best_route d_l_is_integer d_l_source d_l_draw d_l_made d_l_plus d_l_times d_l_over d_l_below d_l_some d_l_stall d_l_stalls d_l_piece d_l_pair d_l_same d_l_rule d_l_comes d_l_routes d_l_fair d_l_web d_l_best d_law d_Web_init d_Web_eq) : FnOk P w K mg base CX0 2 f_is_index d_is_index ["web", "thing"] (sp_is_index K c_Web) := by
  have G_is_integer : FnOk P w K mg base CX0 1 f_is_integer d_is_integer ["thing"] sp_is_integer := ok_is_integer T
  refine T.F_is_index.ok sc_is_index (fun vs H Q E h => ?_) (fun cdv A outer s H vs Q E hr h => ?_)
  · obtain ⟨x, n, ss, i, rfl, _⟩ := h
    rfl
  · obtain ⟨x, n, ss, i, rfl, ⟨p, dx, t, xs, rfl, hp, ht, hss⟩, hi, q⟩ := h
    have hl := hss.len
    refine ⟨_, (pss_one (ps_ret (pe_and (pe_call G_is_integer (hr.mono (by decide)) (by rfl) T.g_is_integer T.k_is_integer T.b_is_integer .nil pass0 (pa_cons (pv 1) pa_nil)) (pe_one (pe_chain op_le op_lt pe_int (pv 1) (pe_callB call_lenN (by rfl) T.z_len (by decide +kernel) (pa_cons (pe_fld (pv 0) rfl) pa_nil))))))), ?_⟩
    walk_at "r"
    refine ⟨_, rfl, ?_⟩
    walk_at "r"
    refine ⟨_, _, _, _, _, rfl, hp, T.w_Web.it.cl, T.n_Web_stalls, wF_stalls _ _, ?_⟩
    walk_at "r"
    rw [decide_eq_true (by omega)]
    exact q
def sp_is_move (K : PySem.W.Frag) (C : Addr) : Sp := fun vs H Q _ => ∃ (x mv : V) (n : Nat) (ss : List Stl) (i wn : Nat) (s : Stl) (y : Rat), vs = [x, mv] ∧ IsWeb K C H x n ss ∧ IsMv K H mv i wn y ∧ ss[i]? = some s ∧ (wn = s.u ∨ wn = s.v) ∧ 0 < y ∧ ∀ H', Same H H' → Q (.bl true) H'
end
end My
namespace My
open PySem PySem.Spec PyProof.Rows L2
variable {K : PySem.W.Frag}
theorem mul_div_self {k x : Rat} (h : x ≠ 0) : x * (k / x) = k := by
  rw [Rat.div_def, ← Rat.mul_assoc, Rat.mul_comm x k, Rat.mul_assoc, Rat.mul_inv_cancel x h, Rat.mul_one]
theorem div_pos' {k x : Rat} (h : 0 < k) (hx : 0 < x) : 0 < k / x := by
  rw [Rat.div_def]
  exact Rat.mul_pos h (Rat.inv_pos.mpr hx)
theorem behind_ok {n : Nat} {s : Stl} (h : OkSt n s) (wn : Nat) {y : Rat} (y0 : 0 < y) : OkSt n (s.behind wn y) := by
  have a0 := h.a
  have b0 := h.b
  have rr := sq_pos h.r
  unfold Stl.behind
  split
  · have p : 0 < s.a + y := by grind
    exact ⟨h.u, h.v, h.ne, p, div_pos' rr p, h.r, mul_div_self (ne_of_pos p)⟩
  · have p : 0 < s.b + y := by grind
    exact ⟨h.u, h.v, h.ne, div_pos' rr p, p, h.r, (Rat.mul_comm _ _).trans (mul_div_self (ne_of_pos p))⟩
theorem behind_bd {k l : Nat} {n : Nat} {s : Stl} (hs : OkSt n s) (h : BdSt k s) (wn : Nat) {y : Rat} (y0 : 0 < y) (b : Bd l y) : BdSt (3 * k + l + 1) (s.behind wn y) := by
  have a0 := hs.a
  have b0 := hs.b
  unfold Stl.behind
  split
  · have p : 0 < s.a + y := by grind
    exact ⟨(h.a.add b).mono (by omega), ((h.r.mul h.r).div (ne_of_pos p) (h.a.add b)).mono (by omega), h.r.mono (by omega)⟩
  · have p : 0 < s.b + y := by grind
    exact ⟨((h.r.mul h.r).div (ne_of_pos p) (h.b.add b)).mono (by omega), (h.b.add b).mono (by omega), h.r.mono (by omega)⟩
theorem Sts.set {H : Hp} {xs : List V} {ss : List Stl} {v : V} {s : Stl} (h : Sts K H xs ss) (hv : IsSt K H v s) (i : Nat) : Sts K H (xs.set i v) (ss.set i s) := by
  unfold Sts at *
  induction h generalizing i with
  | nil => exact .nil
  | cons h t ih =>
    cases i with
    | zero => exact .cons hv t
    | succ i => exact .cons h (ih i)
theorem set_parts {xs : List V} {i : Nat} {v : V} (h : i < xs.length) : cutV xs none (some (i : Int)) ++ [v] ++ cutV xs (some ((i : Int) + 1)) none = xs.set i v := by
  have e : ((i : Int) + 1) = ((i + 1 : Nat) : Int) := by omega
  rw [e]
  unfold cutV
  rw [HT.sIx_none, HT.sIx_none, HT.sIx_nat, HT.sIx_nat, List.set_eq_take_append_cons_drop, if_pos h]
  have m1 : min i xs.length = i := by omega
  have m2 : min (i + 1) xs.length = i + 1 := by omega
  rw [m1, m2]
  simp
  exact List.take_of_length_le (by simp)
theorem rd_catA {K : PySem.W.Frag} {H : Hp} {a b : Addr} {xs ys : List V} {Q : VK} (ha : H a = some (.tup xs)) (hb : H b = some (.tup ys)) (hl : xs.length + ys.length ≤ sizeLine)
    (q : ∀ p H', Same H H' → H' p = some (.tup (xs ++ ys)) → Q (.ref p) H') : rCatA K (.ref a) (.ref b) H Q := by
  refine ⟨a, b, xs, ys, rfl, rfl, .of ha, .of hb, hl, fun e => ?_, fun _ e => ?_, fun _ _ p np => q p _ (same_upd np) upd_same⟩
  · subst e
    exact q b H (Same.refl _) hb
  · subst e
    exact q a H (Same.refl _) (by rw [List.append_nil]; exact ha)
theorem rd_slT {K : PySem.W.Frag} {H : Hp} {a : Addr} {xs : List V} {lo hi : Option Int} {Q : VK} (ha : H a = some (.tup xs)) (hw : ¬ (HT.sIx xs.length 0 lo = 0 ∧ HT.sIx xs.length xs.length hi = xs.length))
    (q : ∀ p H', Same H H' → H' p = some (.tup (cutV xs lo hi)) → Q (.ref p) H') : rSlT K (.ref a) lo hi H Q := ⟨a, xs, rfl, .of ha, hw, fun p np => q p _ (same_upd np) upd_same⟩
/-- a web within its bounds -/
structure OkW (n k : Nat) (ss : List Stl) : Prop where
  n1 : 1 ≤ n
  n8 : n ≤ 8
  len : ss.length ≤ 16
  ok : ∀ s ∈ ss, OkSt n s ∧ BdSt k s
theorem OkW.set {n k : Nat} {ss : List Stl} (h : OkW n k ss) {s : Stl} (h1 : OkSt n s) (h2 : BdSt k s) (i : Nat) : OkW n k (ss.set i s) :=
  ⟨h.n1, h.n8, by rw [List.length_set]; exact h.len, fun t ht => by
    rcases List.mem_or_eq_of_mem_set ht with z | z
    · exact h.ok t z
    · subst z
      exact ⟨h1, h2⟩⟩
theorem BdSt.mono {k l : Nat} {s : Stl} (h : BdSt k s) (hl : k ≤ l) : BdSt l s := ⟨h.a.mono hl, h.b.mono hl, h.r.mono hl⟩
theorem OkW.mono {n k l : Nat} {ss : List Stl} (h : OkW n k ss) (hl : k ≤ l) : OkW n l ss := ⟨h.n1, h.n8, h.len, fun s hs => ⟨(h.ok s hs).1, (h.ok s hs).2.mono hl⟩⟩
end My
namespace My
open PySem PySem.Spec PyProof.Rows L2
variable {K : PySem.W.Frag}
def Stl.hold (s : Stl) (w : Nat) : Rat := if w = s.u then s.a else s.b
def Stl.at (s : Stl) (w : Nat) : Bool := decide (w = s.u) || decide (w = s.v)
def at_ (ss : List Stl) (w : Nat) : List Stl := ss.filter (·.at w)
def sumR (l : List Rat) : Rat := l.foldl (· + ·) 0
def heldAt (ss : List Stl) (w : Nat) : Rat := sumR ((at_ ss w).map (·.hold w))
def heldAll (n : Nat) (ss : List Stl) : List Rat := (List.range n).map (heldAt ss)
def Fs (K : PySem.W.Frag) (H : Hp) (ys : List V) (rs : List Rat) : Prop := Paired (IsF K H) ys rs
def IsFs (K : PySem.W.Frag) (H : Hp) (x : V) (rs : List Rat) : Prop := ∃ t ys, x = .ref t ∧ H t = some (.tup ys) ∧ Fs K H ys rs
theorem Fs.same {H H' : Hp} {ys : List V} {rs : List Rat} (s : Same H H') (h : Fs K H ys rs) : Fs K H' ys rs := Paired.mapP h fun _ _ h => h.same s
theorem IsFs.same {H H' : Hp} {x : V} {rs : List Rat} (s : Same H H') (h : IsFs K H x rs) : IsFs K H' x rs := by
  obtain ⟨t, ys, e, h1, h2⟩ := h
  exact ⟨t, ys, e, s _ _ h1, h2.same s⟩
theorem Fs.len {H : Hp} {ys : List V} {rs : List Rat} (h : Fs K H ys rs) : ys.length = rs.length := Paired.length h
theorem Paired.at {α : Type} {F : V → α → Prop} {xs : List V} {as : List α} (h : Paired F xs as) : ∀ {i : Nat} {x : V}, xs[i]? = some x → ∃ a, as[i]? = some a ∧ F x a := by
  induction h with
  | nil =>
    intro i x e
    simp at e
  | cons h t ih =>
    intro i x e
    match i with
    | 0 =>
      simp at e
      subst e
      exact ⟨_, rfl, h⟩
    | i + 1 => exact ih (by simpa using e)
theorem Paired.get' {α : Type} {F : V → α → Prop} {xs : List V} {as : List α} (h : Paired F xs as) : ∀ {i : Nat} {a : α}, as[i]? = some a → ∃ x, xs[i]? = some x ∧ F x a := by
  induction h with
  | nil =>
    intro i x e
    simp at e
  | cons h t ih =>
    intro i x e
    match i with
    | 0 =>
      simp at e
      subst e
      exact ⟨_, rfl, h⟩
    | i + 1 => exact ih (by simpa using e)
theorem stl_at_in (s : Stl) (w : Nat) : inV (.int (w : Nat)) [V.int (s.u : Nat), .int (s.v : Nat)] = s.at w := by
  have e : ∀ k : Nat, eqV (.int (k : Nat)) (.int (w : Nat)) = decide (w = k) := fun k => by
    rw [Bool.eq_iff_iff]
    simp [eqV]
    omega
  show (eqV _ _ || (eqV _ _ || false)) = _
  rw [e, e, Bool.or_false]
  rfl
/-- bounds of sums -/
theorem sumR_snoc (l : List Rat) (r : Rat) : sumR (l ++ [r]) = sumR l + r := by
  unfold sumR
  rw [List.foldl_append]
  rfl
theorem bd_zero {k : Nat} (h : 0 < k) : Bd k 0 := ⟨Nat.two_pow_pos k, Nat.one_lt_two_pow (by omega)⟩
/-- sizes of sums, each item with its own bits -/
def BR (rs : List Rat) (M : Nat) : Prop := ∃ ks : List Nat, Paired (fun r k => Bd k r) rs ks ∧ 1 + (ks.map (· + 1)).sum ≤ M
theorem fold_bd {rs : List Rat} {ks : List Nat} (h : Paired (fun r k => Bd k r) rs ks) : ∀ (a : Rat) (A : Nat), Bd A a → Bd (A + (ks.map (· + 1)).sum) (rs.foldl (· + ·) a) := by
  induction h with
  | nil =>
    intro a A ha
    exact ha
  | cons h t ih =>
    intro a A ha
    refine (ih _ _ (ha.add h)).mono ?_
    rw [List.map_cons, List.sum_cons]
    omega
theorem BR.sum {rs : List Rat} {M : Nat} (h : BR rs M) : Bd M (sumR rs) := by
  obtain ⟨ks, h, hm⟩ := h
  exact (fold_bd h 0 1 (bd_zero (by decide))).mono hm
theorem BR.take {rs : List Rat} {M : Nat} (h : BR rs M) (i : Nat) : BR (rs.take i) M := by
  obtain ⟨ks, h, hm⟩ := h
  refine ⟨ks.take i, ?_, Nat.le_trans (Nat.add_le_add_left ?_ 1) hm⟩
  · clear hm
    induction h generalizing i with
    | nil => cases i <;> exact .nil
    | cons h t ih =>
      cases i with
      | zero => exact .nil
      | succ i => exact .cons h (ih i)
  · clear hm h
    induction ks generalizing i with
    | nil => simp
    | cons k ks ih =>
      cases i with
      | zero => simp
      | succ i =>
        rw [List.take_succ_cons, List.map_cons, List.map_cons, List.sum_cons, List.sum_cons]
        have := ih i
        omega
theorem BR.mem {rs : List Rat} {M : Nat} (h : BR rs M) {r : Rat} (hr : r ∈ rs) : Bd M r := by
  obtain ⟨ks, h, hm⟩ := h
  induction h generalizing M with
  | nil => simp at hr
  | cons h t ih =>
    rw [List.map_cons, List.sum_cons] at hm
    rcases List.mem_cons.mp hr with rfl | hr
    · exact h.mono (by omega)
    · exact ih hr (by omega)
theorem take_at {α : Type} {l : List α} {i : Nat} {a : α} (h : l[i]? = some a) : l.take (i + 1) = l.take i ++ [a] := by
  rw [List.take_add_one, h]
  rfl
theorem IsF.c0 {p : Addr} {H : Hp} (h : SqT K (fun _ => none) p [.int 0, .int 1]) : IsF K H (.ref p) 0 := ⟨p, rfl, .inr h⟩
theorem hold_bd {k : Nat} {s : Stl} (h : BdSt k s) (w : Nat) : Bd k (s.hold w) := by
  unfold Stl.hold
  split
  · exact h.a
  · exact h.b
/-- sizes of stalls, each with its own bits -/
def BL (ss : List Stl) (M : Nat) : Prop := ∃ ks : List Nat, Paired (fun s k => BdSt k s) ss ks ∧ 1 + (ks.map (· + 1)).sum ≤ M
theorem BL.mono {ss : List Stl} {M N : Nat} (h : BL ss M) (l : M ≤ N) : BL ss N := h.imp fun _ h => ⟨h.1, Nat.le_trans h.2 l⟩
theorem bl_of {k : Nat} {ss : List Stl} (h16 : ss.length ≤ 16) (h : ∀ s ∈ ss, BdSt k s) : BL ss (16 * (k + 1) + 1) := by
  refine ⟨ss.map fun _ => k, ?_, ?_⟩
  · clear h16
    induction ss with
    | nil => exact .nil
    | cons s ss ih => exact .cons (h s (by simp)) (ih fun t ht => h t (by simp [ht]))
  · have e : ((ss.map fun _ => k).map (· + 1)).sum = ss.length * (k + 1) := by
      clear h h16
      induction ss with
      | nil => simp
      | cons s ss ih =>
        rw [List.map_cons, List.map_cons, List.sum_cons, ih, List.length_cons, Nat.add_mul]
        omega
    rw [e]
    have := Nat.mul_le_mul_right (k + 1) h16
    omega
theorem BL.at {ss : List Stl} {M : Nat} (h : BL ss M) (w : Nat) : BR ((at_ ss w).map (·.hold w)) M := by
  obtain ⟨ks, h, hm⟩ := h
  have key : ∃ js : List Nat, Paired (fun r k => Bd k r) ((at_ ss w).map (·.hold w)) js ∧ (js.map (· + 1)).sum ≤ (ks.map (· + 1)).sum := by
    clear hm
    induction h with
    | nil => exact ⟨[], .nil, Nat.le_refl _⟩
    | @cons s k ss ks h t ih =>
      obtain ⟨js, h1, h2⟩ := ih
      unfold at_ at *
      rw [List.filter_cons]
      split
      · refine ⟨k :: js, .cons (hold_bd h w) h1, ?_⟩
        rw [List.map_cons, List.map_cons, List.sum_cons, List.sum_cons]
        omega
      · refine ⟨js, h1, ?_⟩
        rw [List.map_cons, List.sum_cons]
        omega
  obtain ⟨js, h1, h2⟩ := key
  exact ⟨js, h1, by omega⟩
theorem BL.held {ss : List Stl} {M : Nat} (h : BL ss M) (w : Nat) : Bd M (heldAt ss w) := (h.at w).sum
theorem upTo_bind {α β : Type} (g : α → Option β) : ∀ l : List α, upTo (fun i => (l[i]?).bind g) l.length = l.filterMap g
  | [] => rfl
  | a :: l => by
    have ih := upTo_bind g l
    unfold upTo at *
    rw [List.length_cons, List.range_succ_eq_map, List.filterMap_cons, List.filterMap_map]
    have e : ((fun i => ((a :: l)[i]?).bind g) ∘ Nat.succ) = fun i => (l[i]?).bind g := rfl
    rw [e, ih, List.filterMap_cons]
    rfl
theorem upTo_filter (p : Stl → Bool) (ss : List Stl) : upTo (fun i => (ss[i]?).filter p) ss.length = ss.filter p := by
  have e : (fun i : Nat => (ss[i]?).filter p) = fun i : Nat => (ss[i]?).bind (Option.guard p) := by
    funext i
    cases ss[i]? <;> simp [Option.filter, Option.guard]
  rw [e, upTo_bind, List.filterMap_eq_filter]
theorem upTo_map {α : Type} {n : Nat} (g : Nat → α) : upTo (fun i => some (g i)) n = (List.range n).map g := by
  unfold upTo
  induction List.range n with
  | nil => rfl
  | cons x l ih => simp [ih]
theorem upTo_list {α β : Type} (l : List α) (g : α → β) : upTo (fun i => (l[i]?).map g) l.length = l.map g := by
  have e : (fun i : Nat => (l[i]?).map g) = fun i : Nat => (l[i]?).bind (fun a => some (g a)) := by
    funext i
    cases l[i]? <;> rfl
  rw [e, upTo_bind]
  exact congrFun (List.filterMap_eq_map (f := g)) l
section
variable {P : Program} {w : World} {K : PySem.W.Frag} {mg : Str → Option Value} {base : Heap} {f_is_integer f_is_row f_is_fraction f_is_some f_lowest f_multiplied f_squared f_lies_below f_is_stall f_is_ware f_check_ware f_check_two f_across f_hold_of f_is_index f_check_some f_is_step f_end_of f_is_walk f_check_route f_rule_behind f_rule_of f_out_by f_route_out f_routes_on f_best_route f_l_is_integer f_l_source f_l_draw f_l_made f_l_plus f_l_times f_l_over f_l_below f_l_some f_l_stall f_l_stalls f_l_piece f_l_pair f_l_same f_l_rule f_l_comes f_l_routes f_l_fair f_l_web f_l_best f_law f_Web_init f_Web_eq c_BadWare c_Web c_NO_STEPS : Addr} {d_is_integer d_is_row d_is_fraction d_is_some d_lowest d_multiplied d_squared d_lies_below d_is_stall d_is_ware d_check_ware d_check_two d_across d_hold_of d_is_index d_check_some d_is_step d_end_of d_is_walk d_check_route d_rule_behind d_rule_of d_out_by d_route_out d_routes_on d_best_route d_l_is_integer d_l_source d_l_draw d_l_made d_l_plus d_l_times d_l_over d_l_below d_l_some d_l_stall d_l_stalls d_l_piece d_l_pair d_l_same d_l_rule d_l_comes d_l_routes d_l_fair d_l_web d_l_best d_law d_Web_init d_Web_eq : FuncData}
def sp_summed (K : PySem.W.Frag) : Sp := fun vs H Q _ => ∃ (L : Addr) (ys : List V) (rs : List Rat) (M : Nat), vs = [.ref L] ∧ H L = some (.lst ys) ∧ Fs K H ys rs ∧ BR rs M ∧ M ≤ 8000 ∧ ∀ H' v, Same H H' → IsF K H' v (sumR rs) → Q v H'
def sp_hold_of (K : PySem.W.Frag) : Sp := fun vs H Q _ => ∃ (v : V) (s : Stl) (wn : Nat), vs = [v, .int (wn : Nat)] ∧ IsSt K H v s ∧ ∀ x, IsF K H x (s.hold wn) → Q x H
theorem ok_hold_of (T : Txt K mg f_is_integer f_is_row f_is_fraction f_is_some f_lowest f_multiplied f_squared f_lies_below f_is_stall f_is_ware f_check_ware f_check_two f_across f_hold_of f_is_index f_check_some f_is_step f_end_of f_is_walk f_check_route f_rule_behind f_rule_of f_out_by f_route_out f_routes_on f_best_route f_l_is_integer f_l_source f_l_draw f_l_made f_l_plus f_l_times f_l_over f_l_below f_l_some f_l_stall f_l_stalls f_l_piece f_l_pair f_l_same f_l_rule f_l_comes f_l_routes f_l_fair f_l_web f_l_best f_law f_Web_init f_Web_eq c_BadWare c_Web c_NO_STEPS d_is_integer d_is_row d_is_fraction d_is_some d_lowest d_multiplied d_squared d_lies_below d_is_stall d_is_ware d_check_ware d_check_two d_across d_hold_of d_is_index d_check_some d_is_step d_end_of d_is_walk d_check_route d_rule_behind d_rule_of d_out_by d_route_out d_routes_on d_best_route d_l_is_integer d_l_source d_l_draw d_l_made d_l_plus d_l_times d_l_over d_l_below d_l_some d_l_stall d_l_stalls d_l_piece d_l_pair d_l_same d_l_rule d_l_comes d_l_routes d_l_fair d_l_web d_l_best d_law d_Web_init d_Web_eq) : FnOk P w K mg base CX0 1 f_hold_of d_hold_of ["stall", "ware"] (sp_hold_of K) := by
  refine T.F_hold_of.ok sc_hold_of (fun vs H Q E h => ?_) (fun cdv A outer s H vs Q E hr h => ?_)
  · obtain ⟨v, s, wn, rfl, _⟩ := h
    rfl
  · obtain ⟨v, s, wn, rfl, ⟨p, va, vb, vr, rfl, hp, ha, hb, hr'⟩, q⟩ := h
    refine ⟨_, (pss_cons (ps_if (pt_cmpR op_eq (pv 1) (pe_ix ix_tup (pv 0) pe_int (fun _ _ => rfl)) (nomark _))
        (pss_one (ps_ret (pe_ix ix_tup (pv 0) pe_int (fun _ _ => rfl))))
        pss_nil)
      (pss_one (ps_ret (pe_ix ix_tup (pv 0) pe_int (fun _ _ => rfl))))), ?_⟩
    walk_at "r"
    walk_at "if"
    · rename_i e
      rw [show s.hold wn = s.a from if_pos (by omega)] at q
      walk_at "r"
      exact q _ ha
    · rename_i e
      rw [show s.hold wn = s.b from if_neg (by omega)] at q
      walk_at "r"
      exact q _ hb
def sp_stalls_of (K : PySem.W.Frag) : Sp := fun vs H Q _ => ∃ (t : Addr) (xs : List V) (ss : List Stl) (wn : Nat), vs = [.int (wn : Nat), .ref t] ∧ H t = some (.tup xs) ∧ Sts K H xs ss ∧ ss.length ≤ 16 ∧
  ∀ H' L ys, Same H H' → H' L = some (.lst ys) → Sts K H' ys (at_ ss wn) → Q (.ref L) H'
def sp_kept_of (K : PySem.W.Frag) : Sp := fun vs H Q _ => ∃ (t : Addr) (xs : List V) (ss : List Stl) (wn M : Nat), vs = [.int (wn : Nat), .ref t] ∧ H t = some (.tup xs) ∧ Sts K H xs ss ∧ ss.length ≤ 16 ∧ BL ss M ∧ M ≤ 8000 ∧
  ∀ H' v, Same H H' → IsF K H' v (heldAt ss wn) → Q v H'
def sp_held (K : PySem.W.Frag) (C : Addr) : Sp := fun vs H Q _ => ∃ (x : V) (n : Nat) (ss : List Stl) (M : Nat), vs = [x] ∧ IsWeb K C H x n ss ∧ n ≤ 8 ∧ ss.length ≤ 16 ∧ BL ss M ∧ M ≤ 8000 ∧ ∀ H' v, Same H H' → IsFs K H' v (heldAll n ss) → Q v H'
end
end My
namespace My
open PySem PySem.Spec PyProof.Rows L2
variable {K : PySem.W.Frag}
/-! ### webs compared -/
instance decStl : DecidableEq Stl := fun s t => decidable_of_decidable_of_iff (p := s.u = t.u ∧ s.v = t.v ∧ s.a = t.a ∧ s.b = t.b ∧ s.r = t.r) (by
  obtain ⟨u, v, a, b, r⟩ := s
  obtain ⟨u', v', a', b', r'⟩ := t
  simp only [Stl.mk.injEq])
def stD (s : Stl) : PyData := .tuple [.int (s.u : Nat), .int (s.v : Nat), frD s.a, frD s.b, frD s.r]
theorem stD_eqv (s t : Stl) : PyData.eqv (stD s) (stD t) = decide (s = t) := by
  have e : PyData.eqv (stD s) (stD t) = (decide ((s.u : Int) = t.u) && (decide ((s.v : Int) = t.v) && (decide (s.a = t.a) && (decide (s.b = t.b) && decide (s.r = t.r))))) := by
    unfold stD
    rw [PyData.eqv, PyData.eqvAll, PyData.eqvAll, PyData.eqvAll, PyData.eqvAll, PyData.eqvAll, PyData.eqvAll, frD_eqv, frD_eqv, frD_eqv]
    simp only [PyData.eqv, Bool.and_true, Bool.beq_eq_decide_eq]
  rw [e, Bool.eq_iff_iff]
  simp only [Bool.and_eq_true, decide_eq_true_eq]
  obtain ⟨u, v, a, b, r⟩ := s
  obtain ⟨u', v', a', b', r'⟩ := t
  simp only [Stl.mk.injEq]
  constructor <;> rintro ⟨h1, h2, h3, h4, h5⟩ <;> exact ⟨by omega, by omega, h3, h4, h5⟩
theorem sts_eqv : ∀ ss tt : List Stl, PyData.eqvAll (ss.map stD) (tt.map stD) = decide (ss = tt)
  | [], [] => rfl
  | [], _ :: _ => rfl
  | _ :: _, [] => rfl
  | s :: ss, t :: tt => by
    show (PyData.eqv (stD s) (stD t) && PyData.eqvAll (ss.map stD) (tt.map stD)) = _
    rw [stD_eqv, sts_eqv ss tt, Bool.eq_iff_iff]
    simp
theorem sts_lay : ∀ ss : List Stl, PyData.canLayAll0 (ss.map stD) = true ∧ PyData.depthAll (ss.map stD) ≤ 2
  | [] => ⟨rfl, by decide⟩
  | s :: ss => by
    obtain ⟨h1, h2⟩ := sts_lay ss
    refine ⟨?_, ?_⟩
    · show (PyData.canLay0 (stD s) && PyData.canLayAll0 (ss.map stD)) = true
      rw [h1]
      rfl
    · show max (PyData.depth (stD s)) (PyData.depthAll (ss.map stD)) ≤ 2
      have : PyData.depth (stD s) = 2 := rfl
      omega
theorem sts_shaped (ss : List Stl) : SeqAt.shaped (.tuple (ss.map stD)) = true := by
  obtain ⟨h1, h2⟩ := sts_lay ss
  unfold SeqAt.shaped
  rw [Bool.and_eq_true]
  refine ⟨h1, decide_eq_true ?_⟩
  show PyData.depthAll (ss.map stD) + 1 ≤ 64
  omega
theorem IsSt.dp {K : PySem.W.Frag} {H : Hp} {x : V} {s : Stl} (h : IsSt K H x s) : Dp K H x (stD s) := by
  obtain ⟨p, va, vb, vr, rfl, h, a, b, r⟩ := h
  exact .tup (.of h) (.cons (.int _) (.cons (.int _) (.cons a.dp (.cons b.dp (.cons r.dp .nil)))))
theorem Sts.dp {K : PySem.W.Frag} {H : Hp} {t : Addr} {xs : List V} {ss : List Stl} (h : Sts K H xs ss) (ht : H t = some (.tup xs)) : Dp K H (.ref t) (.tuple (ss.map stD)) := by
  refine .tup (.of ht) ?_
  clear ht
  unfold Sts at h
  induction h with
  | nil => exact .nil
  | cons h t ih => exact .cons h.dp ih
end My
namespace My
open PySem PySem.Spec PyProof.Rows L2
/-! ### x != y of instances with an own == and no own != -/
section
variable {prog : Program} {w : World} {A : Around} {E : Value → Shared → Prop} {s : Shared} {K : PySem.W.Frag} {x y C f : Addr} {ox : Obj} {od : Option Obj}
theorem boundB {name : Str} {id B : String} {args : List Value} {Q : Option Value → Shared → Prop} (X : K.In s.heap) (I : PySem.W.InstAt s.heap x ox C od) (hs : PySem.W.findIn K (.ref C) name = some (some (.builtin id))) (S : Slot B name id)
    (h : wpAny (model prog w) A (call (.builtin id) (.ref x :: args)) (fun v => Q (some v)) E s) : wpAny (model prog w) A (callSpecialIfBound? (.ref x) name args) Q E s := by
  have fin : wpAny (model prog w) A (do let v ← call (.builtin id) ([.ref x] ++ args); pure (some v)) Q E s := wpAny_bind (wpAny_mono h (fun v s' q => wpAny_pure q) fun _ _ q => q)
  simp only [callSpecialIfBound?, bindSpecialIfBound?]
  refine wpAny_holding (wpAny_bind (wpAny_bind (wpAny_bind (I.type.here ((PySem.W.looks_findIn X hs).here ?_)))))
  simp only [S.bind]
  refine wpAny_bind (wpAny_askSetting (wpAny_ite ?_))
  split
  · exact wpAny_bind (wpAny_pure (wpAny_pure fin))
  · exact wpAny_tryCatch (wpAny_bind (wpAny_pure (wpAny_pure fin)))
theorem neBody {Q : Fin → Shared → Prop} (hu : A.units < cLine) (X : K.In s.heap) (I : PySem.W.InstAt s.heap x ox C od) (hs : PySem.W.findIn K (.ref C) "__eq__" = some (some (.ref f))) (hf : PySem.W.isFn K (.ref f) = true)
    (h : wpAny (model prog w) A (call (.ref f) [.ref x, .ref y]) (fun v s' => ∃ b, v = .bool b ∧ Q (.done (.ret (.bool (!b)))) s') E s) : wpAny (model prog w) A (Builtin.«object.__ne__» ⟨[.ref x, .ref y], []⟩) Q E s := by
  unfold Builtin.«object.__ne__»
  have step : wpAny (model prog w) A (callSpecialIfBound? (.ref x) (Str.ofString "__eq__") [.ref y]) (fun r s' => ∃ b, r = some (.bool b) ∧ Q (.done (.ret (.bool (!b)))) s') E s :=
    PySem.W.ifBound_K X I hs hf (wpAny_mono h (fun v s' q => by obtain ⟨b, rfl, q⟩ := q; exact ⟨b, rfl, q⟩) fun _ _ q => q)
  repeat (first
    | with_reducible refine wpAny_cRoomFor hu ?_
    | (refine wpAny_bind (m := callSpecialIfBound? (.ref x) (Str.ofString "__eq__") [.ref y]) (wpAny_mono step (fun r s' q => ?_) fun _ _ q => q); obtain ⟨b, rfl, q⟩ := q)
    | exact q
    | (refine wpAny_bind (m := truthy (.bool _)) (wpAny_truthy_bool ?_))
    | wp_step)
theorem tryNe {Q : Option Value → Shared → Prop} (hu : A.units + 1 < cLine) (X : K.In s.heap) (I : PySem.W.InstAt s.heap x ox C od) (hne : PySem.W.findIn K (.ref C) "__ne__" = some (some (.builtin "object.__ne__"))) (hm : PySem.W.mroIn K C (.type "object") = some true)
    (hs : PySem.W.findIn K (.ref C) "__eq__" = some (some (.ref f))) (hf : PySem.W.isFn K (.ref f) = true)
    (h : wpAny (model prog w) A.in1 (call (.ref f) [.ref x, .ref y]) (fun v s' => ∃ b, v = .bool b ∧ Q (some (.bool (!b))) s') E s) : wpAny (model prog w) A (tryCompare (.ref x) "__ne__" (.ref y)) Q E s := by
  simp only [tryCompare]
  refine wpAny_bind (boundB X I hne F.cmp_object.ne (wpAny_call (codeAny_call_builtin F.cmp_object.ne.plain F.cmpEntry_ne (PySem.W.check_slot F.cmpKind_ne F.cmpSplit_ne (I.type.andThen (PySem.W.looks_mroIn X hm)) (F.cmpArgs_ne _ _) (neBody (A := A.in1) (by
    show A.units + 1 < cLine
    exact hu) X I hs hf (wpAny_mono h (fun v s' q => ?_) fun _ _ q => q))))))
  obtain ⟨b, rfl, q⟩ := q
  first
    | exact ⟨b, rfl, ⟨_, rfl, wpAny_pure q⟩⟩
    | exact ⟨b, rfl, wpAny_pure q⟩
    | exact ⟨b, rfl, wpAny_pure (wpAny_pure q)⟩
theorem richNe {oy : Obj} {ody : Option Obj} {Q : Value → Shared → Prop} (hu : A.units + 1 < cLine) (X : K.In s.heap) (I : PySem.W.InstAt s.heap x ox C od) (J : PySem.W.InstAt s.heap y oy C ody) (hne : PySem.W.findIn K (.ref C) "__ne__" = some (some (.builtin "object.__ne__"))) (hm : PySem.W.mroIn K C (.type "object") = some true)
    (hs : PySem.W.findIn K (.ref C) "__eq__" = some (some (.ref f))) (hf : PySem.W.isFn K (.ref f) = true)
    (h : wpAny (model prog w) A.in1 (call (.ref f) [.ref x, .ref y]) (fun v s' => ∃ b, v = .bool b ∧ Q (.bool (!b)) s') E s) : wpAny (model prog w) A (richCompare .NotEq (.ref x) (.ref y)) Q E s := by
  unfold richCompare
  simp only [oneThing_ref]
  refine wpAny_holding (wpAny_bind (wpAny_cRoomFor (Nat.lt_of_succ_lt hu) ?_))
  rw [cmpInfo_NotEq]
  refine wpAny_bind (I.type.here (wpAny_bind (J.type.here ?_)))
  rw [show (Value.ref C != Value.ref C) = false by simp]
  simp only [Bool.false_eq_true, if_false]
  refine wpAny_bind (wpAny_pure ?_)
  refine wpAny_bind (tryNe hu X I hne hm hs hf (wpAny_mono h (fun v s' q => ?_) fun _ _ q => q))
  obtain ⟨b, rfl, q⟩ := q
  exact ⟨b, rfl, wpAny_pure q⟩
end
/-- x != y, both instances of C; R what the two must be, for any answer of the own == -/
def spEqB (R : Addr → Addr → Hp → Bool → Prop) : Sp := fun vs H Q _ => ∃ a b r, vs = [.ref a, .ref b] ∧ R a b H r ∧ Q (.bl r) H
def rNeI (C : Addr) (R : Addr → Addr → Hp → Bool → Prop) : R2 := fun x y H Q => ∃ a b dx dy fs gs r, x = .ref a ∧ y = .ref b ∧ H a = some (.ins C dx fs) ∧ H b = some (.ins C dy gs) ∧ R a b H r ∧ Q (.bl (!r)) H
theorem op_neI {X : Cx} {n : Nat} {C f : Addr} {fd : FuncData} {ps : List Str} {R : Addr → Addr → Hp → Bool → Prop} (F : FnOk X.prog X.w X.K X.mg X.base CX0 n f fd ps (spEqB R)) (hr : Room (n + 1) X.A)
    (hne : PySem.W.findIn X.K (.ref C) "__ne__" = some (some (.builtin "object.__ne__"))) (hm : PySem.W.mroIn X.K C (.type "object") = some true) (hs : PySem.W.findIn X.K (.ref C) "__eq__" = some (some (.ref f))) (hf : PySem.W.isFn X.K (.ref f) = true) (hb : Binds X.K fd ps []) :
    OpR X (compareOp .NotEq) (rNeI C R) := by
  intro pins s σ H x y v u Q I rx ry hq
  obtain ⟨a, b, dx, dy, fs, gs, r, rfl, rfl, ha, hb', hR, q⟩ := hq
  cases rx
  cases ry
  obtain ⟨mA, J, _⟩ := ins_get I.hok ha
  obtain ⟨mB, J', _⟩ := ins_get I.hok hb'
  obtain ⟨od, J, _⟩ := J.look
  obtain ⟨od', J', _⟩ := J'.look
  show wpAny (model X.prog X.w) X.A (richCompare .NotEq (.ref a) (.ref b)) (EP X pins σ Q) X.xe s
  refine richNe ?_ I.kIn J J' hne hm hs hf ?_
  · have := hr.un
    omega
  have hsp : spEqB R [.ref a, .ref b] H (fun v H' => v = .bl r ∧ H' = H) E0 := ⟨a, b, r, rfl, hR, rfl, rfl⟩
  have e0 : Env0 X.prog X.w X.K X.mg X.base X.A.in1 X.stack s H := I.env0.in1
  have hl := F.len _ _ _ _ hsp
  have r2 : Vals [V.ref a, V.ref b] [Value.ref a, Value.ref b] := .cons rfl (.cons rfl .nil)
  refine wpAny_call (codeAny_mono (F.run X.A.in1 X.stack s H ⟨[.ref a, .ref b], []⟩ [.ref a, .ref b] [.ref a, .ref b] _ E0 hr.in1 e0 (by
    have := hb s [.ref a, .ref b] I.kIn (by simpa using hl)
    simpa using this) r2 hsp) fun z s' hz => ?_)
  cases z with
  | error e => exact False.elim hz
  | ok fl =>
    cases fl with
    | ret w' =>
      obtain ⟨z, H', I', rz, ez, ex⟩ := I.after hz
      subst ez
      subst ex
      cases rz
      exact ⟨r, rfl, .bl (!r), H', I', rfl, q⟩
    | next => exact False.elim hz
    | brk => exact False.elim hz
    | cont => exact False.elim hz
/-- x == y of such instances, for any answer of the own == -/
def rEqI (C : Addr) (R : Addr → Addr → Hp → Bool → Prop) : R2 := fun x y H Q => ∃ a b dx dy fs gs r, x = .ref a ∧ y = .ref b ∧ H a = some (.ins C dx fs) ∧ H b = some (.ins C dy gs) ∧ R a b H r ∧ Q (.bl r) H
theorem op_eqI {X : Cx} {n : Nat} {C f : Addr} {fd : FuncData} {ps : List Str} {R : Addr → Addr → Hp → Bool → Prop} (F : FnOk X.prog X.w X.K X.mg X.base CX0 n f fd ps (spEqB R)) (hr : Room (n + 1) X.A)
    (hs : PySem.W.findIn X.K (.ref C) "__eq__" = some (some (.ref f))) (hf : PySem.W.isFn X.K (.ref f) = true) (hb : Binds X.K fd ps []) : OpR X (compareOp .Eq) (rEqI C R) := by
  intro pins s σ H x y v u Q I rx ry hq
  obtain ⟨a, b, dx, dy, fs, gs, r, rfl, rfl, ha, hb', hR, q⟩ := hq
  cases rx
  cases ry
  obtain ⟨mA, J, _⟩ := ins_get I.hok ha
  obtain ⟨mB, J', _⟩ := ins_get I.hok hb'
  obtain ⟨od, J, _⟩ := J.look
  obtain ⟨od', J', _⟩ := J'.look
  obtain ⟨m, hF⟩ := I.fr
  show wpAny (model X.prog X.w) X.A (richCompare .Eq (.ref a) (.ref b)) (EP X pins σ Q) X.xe s
  refine PySem.W.cmp_K (op := .Eq) (tb := .ref C) hr.units0 hF I.ok.mod.kin J J'.type (by simp [PySem.W.notFirst]) hs hf ?_
  have hsp : spEqB R [.ref a, .ref b] H (fun v H' => v = .bl r ∧ H' = H) E0 := ⟨a, b, r, rfl, hR, rfl, rfl⟩
  have hl := F.len _ _ _ _ hsp
  have r2 : Vals [V.ref a, V.ref b] [Value.ref a, Value.ref b] := .cons rfl (.cons rfl .nil)
  refine wpAny_call (codeAny_mono (F.run X.A X.stack s H ⟨[.ref a, .ref b], []⟩ [.ref a, .ref b] [.ref a, .ref b] _ E0 (hr.mono (Nat.le_succ n)) I.env0 (by
    have := hb s [.ref a, .ref b] I.kIn (by simpa using hl)
    simpa using this) r2 hsp) fun z s' hz => ?_)
  cases z with
  | error e => exact False.elim hz
  | ok fl =>
    cases fl with
    | ret w' =>
      obtain ⟨z, H', I', rz, ez, ex⟩ := I.after hz
      subst ez
      subst ex
      cases rz
      exact ⟨.bl r, H', I', rfl, q⟩
    | next => exact False.elim hz
    | brk => exact False.elim hz
    | cont => exact False.elim hz
end My
namespace My
open PySem PySem.Spec PyProof.Rows L2
variable {K : PySem.W.Frag}
theorem kit_self {K : PySem.W.Frag} {t : Value} : PySem.W.kitOne K t t = some true := by
  unfold PySem.W.kitOne
  simp
section
variable {P : Program} {w : World} {K : PySem.W.Frag} {mg : Str → Option Value} {base : Heap} {f_is_integer f_is_row f_is_fraction f_is_some f_lowest f_multiplied f_squared f_lies_below f_is_stall f_is_ware f_check_ware f_check_two f_across f_hold_of f_is_index f_check_some f_is_step f_end_of f_is_walk f_check_route f_rule_behind f_rule_of f_out_by f_route_out f_routes_on f_best_route f_l_is_integer f_l_source f_l_draw f_l_made f_l_plus f_l_times f_l_over f_l_below f_l_some f_l_stall f_l_stalls f_l_piece f_l_pair f_l_same f_l_rule f_l_comes f_l_routes f_l_fair f_l_web f_l_best f_law f_Web_init f_Web_eq c_BadWare c_Web c_NO_STEPS : Addr} {d_is_integer d_is_row d_is_fraction d_is_some d_lowest d_multiplied d_squared d_lies_below d_is_stall d_is_ware d_check_ware d_check_two d_across d_hold_of d_is_index d_check_some d_is_step d_end_of d_is_walk d_check_route d_rule_behind d_rule_of d_out_by d_route_out d_routes_on d_best_route d_l_is_integer d_l_source d_l_draw d_l_made d_l_plus d_l_times d_l_over d_l_below d_l_some d_l_stall d_l_stalls d_l_piece d_l_pair d_l_same d_l_rule d_l_comes d_l_routes d_l_fair d_l_web d_l_best d_law d_Web_init d_Web_eq : FuncData}
def sp_weq (K : PySem.W.Frag) (C : Addr) : Sp := fun vs H Q _ => ∃ (x y : V) (n m : Nat) (ss tt : List Stl), vs = [x, y] ∧ IsWeb K C H x n ss ∧ IsWeb K C H y m tt ∧ Q (.bl (decide (n = m) && decide (ss = tt))) H
theorem ok_Web_eq (T : Txt K mg f_is_integer f_is_row f_is_fraction f_is_some f_lowest f_multiplied f_squared f_lies_below f_is_stall f_is_ware f_check_ware f_check_two f_across f_hold_of f_is_index f_check_some f_is_step f_end_of f_is_walk f_check_route f_rule_behind f_rule_of f_out_by f_route_out f_routes_on f_best_route f_l_is_integer f_l_source f_l_draw f_l_made f_l_plus f_l_times f_l_over f_l_below f_l_some f_l_stall f_l_stalls f_l_piece f_l_pair f_l_same f_l_rule f_l_comes f_l_routes f_l_fair f_l_web f_l_best f_law f_Web_init f_Web_eq c_BadWare c_Web c_NO_STEPS d_is_integer d_is_row d_is_fraction d_is_some d_lowest d_multiplied d_squared d_lies_below d_is_stall d_is_ware d_check_ware d_check_two d_across d_hold_of d_is_index d_check_some d_is_step d_end_of d_is_walk d_check_route d_rule_behind d_rule_of d_out_by d_route_out d_routes_on d_best_route d_l_is_integer d_l_source d_l_draw d_l_made d_l_plus d_l_times d_l_over d_l_below d_l_some d_l_stall d_l_stalls d_l_piece d_l_pair d_l_same d_l_rule d_l_comes d_l_routes d_l_fair d_l_web d_l_best d_law d_Web_init d_Web_eq) : FnOk P w K mg base CX0 1 f_Web_eq d_Web_eq ["self", "other"] (sp_weq K c_Web) := by
  refine T.F_Web_eq.ok sc_Web_eq (fun vs H Q E h => ?_) (fun cdv A outer s H vs Q E hr h => ?_)
  · obtain ⟨x, y, n, m, ss, tt, rfl, _⟩ := h
    rfl
  · obtain ⟨x, y, n, m, ss, tt, rfl, ⟨p, dx, t, xs, rfl, hp, ht, hss⟩, ⟨p2, dx2, t2, xs2, rfl, hp2, ht2, hss2⟩, q⟩ := h
    refine ⟨_, (pss_one (ps_ret (pe_and (pe_callB call_isi (by rfl) T.z_isinstance (by decide +kernel) (pa_cons (pv 1) (pa_cons (pe_glob (v := .ref c_Web) (by rfl) T.w_Web.g rfl) pa_nil))) (pe_and (pe_cmpR op_eq (pe_fld (pv 0) rfl) (pe_fld (pv 1) rfl) (nomark _)) (pe_one (pe_cmpR (op_eqD hr.units) (pe_fld (pv 0) rfl) (pe_fld (pv 1) rfl) (nomark _))))))), ?_⟩
    walk_at "r"
    refine ⟨_, _, _, _, _, rfl, .own _, .base (.ins hp2 T.w_Web.it.cl T.w_Web.it.ha T.w_Web.it.hn T.w_Web.it.ht T.w_Web.it.mo), kit_self, ?_⟩
    walk_at "r"
    refine ⟨_, _, _, _, _, rfl, hp, T.w_Web.it.cl, T.n_Web_wares, wF_wares _ _, ?_⟩
    walk_at "r"
    refine ⟨_, _, _, _, _, rfl, hp2, T.w_Web.it.cl, T.n_Web_wares, wF_wares _ _, ?_⟩
    walk_at "r"
    have e1 : decide (((n : Nat) : Int) = (m : Nat)) = decide (n = m) := by
      rw [Bool.eq_iff_iff, decide_eq_true_eq, decide_eq_true_eq]
      omega
    by_cases e : n = m
    · have e2 : ((n : Nat) : Int) = (m : Nat) := by omega
      rw [decide_eq_true e, Bool.true_and] at q
      rw [decide_eq_true e2]
      walk_at "r"
      refine ⟨_, _, _, _, _, rfl, hp, T.w_Web.it.cl, T.n_Web_stalls, wF_stalls _ _, ?_⟩
      walk_at "r"
      refine ⟨_, _, _, _, _, rfl, hp2, T.w_Web.it.cl, T.n_Web_stalls, wF_stalls _ _, ?_⟩
      refine ⟨_, _, hss.dp ht, hss2.dp ht2, sts_shaped _, sts_shaped _, ?_⟩
      rw [show PyData.eqv (.tuple (ss.map stD)) (.tuple (tt.map stD)) = decide (ss = tt) from sts_eqv ss tt]
      exact q
    · have e2 : ¬ ((n : Nat) : Int) = (m : Nat) := by omega
      rw [decide_eq_false e, Bool.false_and] at q
      rw [decide_eq_false e2]
      walk_at "r"
      exact q
/-- two webs that are equal -/
def RWeb (K : PySem.W.Frag) (C : Addr) : Addr → Addr → Hp → Prop := fun a b H => ∃ n ss, IsWeb K C H (.ref a) n ss ∧ IsWeb K C H (.ref b) n ss
theorem ok_Web_eqR (T : Txt K mg f_is_integer f_is_row f_is_fraction f_is_some f_lowest f_multiplied f_squared f_lies_below f_is_stall f_is_ware f_check_ware f_check_two f_across f_hold_of f_is_index f_check_some f_is_step f_end_of f_is_walk f_check_route f_rule_behind f_rule_of f_out_by f_route_out f_routes_on f_best_route f_l_is_integer f_l_source f_l_draw f_l_made f_l_plus f_l_times f_l_over f_l_below f_l_some f_l_stall f_l_stalls f_l_piece f_l_pair f_l_same f_l_rule f_l_comes f_l_routes f_l_fair f_l_web f_l_best f_law f_Web_init f_Web_eq c_BadWare c_Web c_NO_STEPS d_is_integer d_is_row d_is_fraction d_is_some d_lowest d_multiplied d_squared d_lies_below d_is_stall d_is_ware d_check_ware d_check_two d_across d_hold_of d_is_index d_check_some d_is_step d_end_of d_is_walk d_check_route d_rule_behind d_rule_of d_out_by d_route_out d_routes_on d_best_route d_l_is_integer d_l_source d_l_draw d_l_made d_l_plus d_l_times d_l_over d_l_below d_l_some d_l_stall d_l_stalls d_l_piece d_l_pair d_l_same d_l_rule d_l_comes d_l_routes d_l_fair d_l_web d_l_best d_law d_Web_init d_Web_eq) : FnOk P w K mg base CX0 1 f_Web_eq d_Web_eq ["self", "other"] (spEq (RWeb K c_Web)) :=
  (ok_Web_eq T).imp fun vs H Q E h => by
    obtain ⟨a, b, rfl, ⟨n, ss, h1, h2⟩, q⟩ := h
    refine ⟨_, _, n, n, ss, ss, rfl, h1, h2, ?_⟩
    rw [decide_eq_true rfl, decide_eq_true rfl]
    exact q H Ext.rfl'
theorem rc_web {X : Cx} (T : Txt X.K X.mg f_is_integer f_is_row f_is_fraction f_is_some f_lowest f_multiplied f_squared f_lies_below f_is_stall f_is_ware f_check_ware f_check_two f_across f_hold_of f_is_index f_check_some f_is_step f_end_of f_is_walk f_check_route f_rule_behind f_rule_of f_out_by f_route_out f_routes_on f_best_route f_l_is_integer f_l_source f_l_draw f_l_made f_l_plus f_l_times f_l_over f_l_below f_l_some f_l_stall f_l_stalls f_l_piece f_l_pair f_l_same f_l_rule f_l_comes f_l_routes f_l_fair f_l_web f_l_best f_law f_Web_init f_Web_eq c_BadWare c_Web c_NO_STEPS d_is_integer d_is_row d_is_fraction d_is_some d_lowest d_multiplied d_squared d_lies_below d_is_stall d_is_ware d_check_ware d_check_two d_across d_hold_of d_is_index d_check_some d_is_step d_end_of d_is_walk d_check_route d_rule_behind d_rule_of d_out_by d_route_out d_routes_on d_best_route d_l_is_integer d_l_source d_l_draw d_l_made d_l_plus d_l_times d_l_over d_l_below d_l_some d_l_stall d_l_stalls d_l_piece d_l_pair d_l_same d_l_rule d_l_comes d_l_routes d_l_fair d_l_web d_l_best d_law d_Web_init d_Web_eq) : RcG X 1 (DIns c_Web (RWeb X.K c_Web)) :=
  rcG_ins (E := E0) (ok_Web_eqR T) T.i_Web_eq T.fn_Web_eq T.b_Web_eq pass0
/-- what the own == answers of two webs -/
def BWeb (K : PySem.W.Frag) (C : Addr) : Addr → Addr → Hp → Bool → Prop := fun a b H r => ∃ n m ss tt, IsWeb K C H (.ref a) n ss ∧ IsWeb K C H (.ref b) m tt ∧ r = (decide (n = m) && decide (ss = tt))
theorem ok_Web_eq_B (T : Txt K mg f_is_integer f_is_row f_is_fraction f_is_some f_lowest f_multiplied f_squared f_lies_below f_is_stall f_is_ware f_check_ware f_check_two f_across f_hold_of f_is_index f_check_some f_is_step f_end_of f_is_walk f_check_route f_rule_behind f_rule_of f_out_by f_route_out f_routes_on f_best_route f_l_is_integer f_l_source f_l_draw f_l_made f_l_plus f_l_times f_l_over f_l_below f_l_some f_l_stall f_l_stalls f_l_piece f_l_pair f_l_same f_l_rule f_l_comes f_l_routes f_l_fair f_l_web f_l_best f_law f_Web_init f_Web_eq c_BadWare c_Web c_NO_STEPS d_is_integer d_is_row d_is_fraction d_is_some d_lowest d_multiplied d_squared d_lies_below d_is_stall d_is_ware d_check_ware d_check_two d_across d_hold_of d_is_index d_check_some d_is_step d_end_of d_is_walk d_check_route d_rule_behind d_rule_of d_out_by d_route_out d_routes_on d_best_route d_l_is_integer d_l_source d_l_draw d_l_made d_l_plus d_l_times d_l_over d_l_below d_l_some d_l_stall d_l_stalls d_l_piece d_l_pair d_l_same d_l_rule d_l_comes d_l_routes d_l_fair d_l_web d_l_best d_law d_Web_init d_Web_eq) : FnOk P w K mg base CX0 1 f_Web_eq d_Web_eq ["self", "other"] (spEqB (BWeb K c_Web)) :=
  (ok_Web_eq T).imp fun vs H Q E h => by
    obtain ⟨a, b, r, rfl, ⟨n, m, ss, tt, h1, h2, rfl⟩, q⟩ := h
    exact ⟨_, _, n, m, ss, tt, rfl, h1, h2, q⟩
end
end My
namespace My
open PySem PySem.Spec PyProof.Rows L2
variable {K : PySem.W.Frag}
theorem rd_zipA {ta : TA} {σ : L2.St} {H : Hp} {R : It → Hp → Prop} (h : ta σ H fun vs H1 => ∃ a b xs ys, vs = [.ref a, .ref b] ∧ ((SqL K H1 a xs ∧ SqL K H1 b ys ∧ R (Itz K a b) H1) ∨ (SqT K H1 a xs ∧ SqT K H1 b ys ∧ R (RZ.ItzT K a b) H1))) : RZ.iZipA K ta σ H R := h
theorem lt_num (r t : Rat) : (r.num * (t.den : Int) < t.num * (r.den : Int)) ↔ r < t := by
  rw [Rat.lt_iff]
structure Mv where
  i : Nat
  w : Nat
  x : Rat
def IsM (K : PySem.W.Frag) (H : Hp) (v : V) (m : Mv) : Prop := IsMv K H v m.i m.w m.x
theorem IsMv.ts {H H' : Hp} {v : V} {i w : Nat} {x : Rat} (f : Tps H H') (h : IsMv K H v i w x) : IsMv K H' v i w x := by
  obtain ⟨p, vx, e, h, a⟩ := h
  exact ⟨p, vx, e, f _ _ h, a.ts f⟩
def IsMs (K : PySem.W.Frag) (H : Hp) (x : V) (ms : List Mv) : Prop := ∃ L ys, x = .ref L ∧ H L = some (.lst ys) ∧ Paired (IsM K H) ys ms
structure Alk (ss tt : List Stl) : Prop where
  len : ss.length = tt.length
  at_ : ∀ {i : Nat} {s t : Stl}, ss[i]? = some s → tt[i]? = some t → s.u = t.u ∧ s.v = t.v ∧ s.r = t.r
def mvTo (i : Nat) (s : Stl) (x : Rat) : Mv := if s.a < x then ⟨i, s.u, x - s.a⟩ else ⟨i, s.v, (s.first x).b - s.b⟩
def btw (ss tt : List Stl) (i : Nat) : Option Mv := match ss[i]?, tt[i]? with
  | some s, some t => if s = t then none else some (mvTo i s t.a)
  | _, _ => none
def diff (n : Nat) (ss tt : List Stl) : List Rat := (List.range n).map fun w => heldAt ss w - heldAt tt w
theorem first_ok {n : Nat} {s : Stl} (h : OkSt n s) {y : Rat} (y0 : 0 < y) : OkSt n (s.first y) :=
  ⟨h.u, h.v, h.ne, y0, div_pos' (sq_pos h.r) y0, h.r, mul_div_self (ne_of_pos y0)⟩
theorem first_bd {k l : Nat} {s : Stl} (h : BdSt k s) {y : Rat} (y0 : 0 < y) (b : Bd l y) : BdSt (2 * k + l) (s.first y) :=
  ⟨b.mono (by omega), ((h.r.mul h.r).div (ne_of_pos y0) b).mono (by omega), h.r.mono (by omega)⟩
def pairD (u v : Nat) : PyData := .tuple [.int (u : Nat), .int (v : Nat)]
theorem pairD_dp {H : Hp} {p : Addr} {u v : Nat} (h : H p = some (.tup [V.int (u : Nat), .int (v : Nat)])) : Dp K H (.ref p) (pairD u v) := .tup (.of h) (.cons (.int _) (.cons (.int _) .nil))
theorem pairD_eqv (u v : Nat) : PyData.eqv (pairD u v) (pairD u v) = true := by simp [pairD, PyData.eqv, PyData.eqvAll]
section
variable {P : Program} {w : World} {K : PySem.W.Frag} {mg : Str → Option Value} {base : Heap} {f_is_integer f_is_row f_is_fraction f_is_some f_lowest f_multiplied f_squared f_lies_below f_is_stall f_is_ware f_check_ware f_check_two f_across f_hold_of f_is_index f_check_some f_is_step f_end_of f_is_walk f_check_route f_rule_behind f_rule_of f_out_by f_route_out f_routes_on f_best_route f_l_is_integer f_l_source f_l_draw f_l_made f_l_plus f_l_times f_l_over f_l_below f_l_some f_l_stall f_l_stalls f_l_piece f_l_pair f_l_same f_l_rule f_l_comes f_l_routes f_l_fair f_l_web f_l_best f_law f_Web_init f_Web_eq c_BadWare c_Web c_NO_STEPS : Addr} {d_is_integer d_is_row d_is_fraction d_is_some d_lowest d_multiplied d_squared d_lies_below d_is_stall d_is_ware d_check_ware d_check_two d_across d_hold_of d_is_index d_check_some d_is_step d_end_of d_is_walk d_check_route d_rule_behind d_rule_of d_out_by d_route_out d_routes_on d_best_route d_l_is_integer d_l_source d_l_draw d_l_made d_l_plus d_l_times d_l_over d_l_below d_l_some d_l_stall d_l_stalls d_l_piece d_l_pair d_l_same d_l_rule d_l_comes d_l_routes d_l_fair d_l_web d_l_best d_law d_Web_init d_Web_eq : FuncData}
def sp_stands (K : PySem.W.Frag) : Sp := fun vs H Q _ => ∃ (v u : V) (s t : Stl), vs = [v, u] ∧ IsSt K H v s ∧ IsSt K H u t ∧ (s.u = t.u ∧ s.v = t.v ∧ s.r = t.r) ∧ ∀ H', Same H H' → Q (.bl true) H'
def sp_check_alike (K : PySem.W.Frag) (C : Addr) : Sp := fun vs H Q _ => ∃ (x y : V) (n : Nat) (ss tt : List Stl), vs = [x, y] ∧ IsWeb K C H x n ss ∧ IsWeb K C H y n tt ∧ Alk ss tt ∧ ∀ H', Same H H' → Q .non H'
def sp_change_of (K : PySem.W.Frag) (C : Addr) : Sp := fun vs H Q _ => ∃ (x y : V) (n : Nat) (ss tt : List Stl) (M N : Nat), vs = [x, y] ∧ IsWeb K C H x n ss ∧ IsWeb K C H y n tt ∧ Alk ss tt ∧ n ≤ 8 ∧ ss.length ≤ 16 ∧ BL ss M ∧ BL tt N ∧ M ≤ 8000 ∧ N ≤ 8000 ∧ ∀ H' v, Same H H' → IsFs K H' v (diff n ss tt) → Q v H'
end
end My
namespace My
open PySem PySem.Spec PyProof.Rows L2
variable {K : PySem.W.Frag}
section
variable {P : Program} {w : World} {K : PySem.W.Frag} {mg : Str → Option Value} {base : Heap} {f_is_integer f_is_row f_is_fraction f_is_some f_lowest f_multiplied f_squared f_lies_below f_is_stall f_is_ware f_check_ware f_check_two f_across f_hold_of f_is_index f_check_some f_is_step f_end_of f_is_walk f_check_route f_rule_behind f_rule_of f_out_by f_route_out f_routes_on f_best_route f_l_is_integer f_l_source f_l_draw f_l_made f_l_plus f_l_times f_l_over f_l_below f_l_some f_l_stall f_l_stalls f_l_piece f_l_pair f_l_same f_l_rule f_l_comes f_l_routes f_l_fair f_l_web f_l_best f_law f_Web_init f_Web_eq c_BadWare c_Web c_NO_STEPS : Addr} {d_is_integer d_is_row d_is_fraction d_is_some d_lowest d_multiplied d_squared d_lies_below d_is_stall d_is_ware d_check_ware d_check_two d_across d_hold_of d_is_index d_check_some d_is_step d_end_of d_is_walk d_check_route d_rule_behind d_rule_of d_out_by d_route_out d_routes_on d_best_route d_l_is_integer d_l_source d_l_draw d_l_made d_l_plus d_l_times d_l_over d_l_below d_l_some d_l_stall d_l_stalls d_l_piece d_l_pair d_l_same d_l_rule d_l_comes d_l_routes d_l_fair d_l_web d_l_best d_law d_Web_init d_Web_eq : FuncData}
def sp_below (K : PySem.W.Frag) : Sp := fun vs H Q _ => ∃ x y r t, vs = [x, y] ∧ IsF K H x r ∧ IsF K H y t ∧ Bd 8000 r ∧ Bd 8000 t ∧ Q (.bl (decide (r < t))) H
theorem ok_lies_below (T : Txt K mg f_is_integer f_is_row f_is_fraction f_is_some f_lowest f_multiplied f_squared f_lies_below f_is_stall f_is_ware f_check_ware f_check_two f_across f_hold_of f_is_index f_check_some f_is_step f_end_of f_is_walk f_check_route f_rule_behind f_rule_of f_out_by f_route_out f_routes_on f_best_route f_l_is_integer f_l_source f_l_draw f_l_made f_l_plus f_l_times f_l_over f_l_below f_l_some f_l_stall f_l_stalls f_l_piece f_l_pair f_l_same f_l_rule f_l_comes f_l_routes f_l_fair f_l_web f_l_best f_law f_Web_init f_Web_eq c_BadWare c_Web c_NO_STEPS d_is_integer d_is_row d_is_fraction d_is_some d_lowest d_multiplied d_squared d_lies_below d_is_stall d_is_ware d_check_ware d_check_two d_across d_hold_of d_is_index d_check_some d_is_step d_end_of d_is_walk d_check_route d_rule_behind d_rule_of d_out_by d_route_out d_routes_on d_best_route d_l_is_integer d_l_source d_l_draw d_l_made d_l_plus d_l_times d_l_over d_l_below d_l_some d_l_stall d_l_stalls d_l_piece d_l_pair d_l_same d_l_rule d_l_comes d_l_routes d_l_fair d_l_web d_l_best d_law d_Web_init d_Web_eq) : FnOk P w K mg base CX0 1 f_lies_below d_lies_below ["one", "other"] (sp_below K) := by
  refine T.F_lies_below.ok sc_lies_below (fun vs H Q E h => ?_) (fun cdv A outer s H vs Q E hr h => ?_)
  · obtain ⟨x, y, r, t, rfl, _⟩ := h
    rfl
  · obtain ⟨x, y, r, t, rfl, ⟨p1, rfl, h1⟩, ⟨p2, rfl, h2⟩, b1, b2, q⟩ := h
    refine ⟨_, (pss_one (ps_ret (pe_cmpR op_lt (pe_op op_mulX (pe_ix ix_tup (pv 0) pe_int (fun _ _ => rfl)) (pe_ix ix_tup (pv 1) pe_int (fun _ _ => rfl))) (pe_op op_mulX (pe_ix ix_tup (pv 1) pe_int (fun _ _ => rfl)) (pe_ix ix_tup (pv 0) pe_int (fun _ _ => rfl))) (nomark _)))), ?_⟩
    walk_at "r"
    · rw [show decide (r.num * (t.den : Int) < t.num * (r.den : Int)) = decide (r < t) by rw [Bool.eq_iff_iff]; simp only [decide_eq_true_eq]; exact lt_num r t]
      exact q
    · exact cmx (p46 b2.1) (by rw [Int.natAbs_natCast]; exact p46 b1.2)
    · exact cmx (p46 b1.1) (by rw [Int.natAbs_natCast]; exact p46 b2.2)
end
end My
namespace My
open PySem PySem.Spec PyProof.Rows L2
variable {K : PySem.W.Frag}
section
variable {P : Program} {w : World} {K : PySem.W.Frag} {mg : Str → Option Value} {base : Heap} {f_is_integer f_is_row f_is_fraction f_is_some f_lowest f_multiplied f_squared f_lies_below f_is_stall f_is_ware f_check_ware f_check_two f_across f_hold_of f_is_index f_check_some f_is_step f_end_of f_is_walk f_check_route f_rule_behind f_rule_of f_out_by f_route_out f_routes_on f_best_route f_l_is_integer f_l_source f_l_draw f_l_made f_l_plus f_l_times f_l_over f_l_below f_l_some f_l_stall f_l_stalls f_l_piece f_l_pair f_l_same f_l_rule f_l_comes f_l_routes f_l_fair f_l_web f_l_best f_law f_Web_init f_Web_eq c_BadWare c_Web c_NO_STEPS : Addr} {d_is_integer d_is_row d_is_fraction d_is_some d_lowest d_multiplied d_squared d_lies_below d_is_stall d_is_ware d_check_ware d_check_two d_across d_hold_of d_is_index d_check_some d_is_step d_end_of d_is_walk d_check_route d_rule_behind d_rule_of d_out_by d_route_out d_routes_on d_best_route d_l_is_integer d_l_source d_l_draw d_l_made d_l_plus d_l_times d_l_over d_l_below d_l_some d_l_stall d_l_stalls d_l_piece d_l_pair d_l_same d_l_rule d_l_comes d_l_routes d_l_fair d_l_web d_l_best d_law d_Web_init d_Web_eq : FuncData}
def sp_stalls_behind (K : PySem.W.Frag) : Sp := fun vs H Q _ => ∃ (t : Addr) (mv : V) (xs : List V) (ss : List Stl) (i wn : Nat) (s : Stl) (y : Rat), vs = [.ref t, mv] ∧ H t = some (.tup xs) ∧ Sts K H xs ss ∧ IsMv K H mv i wn y ∧ ss[i]? = some s ∧ ss.length ≤ 16 ∧ 0 < s.a ∧ 0 < s.b ∧ 0 < y ∧ BdSt 1900 s ∧ Bd 1900 y ∧
  ∀ H' t' xs', Same H H' → H' t' = some (.tup xs') → Sts K H' xs' (ss.set i (s.behind wn y)) → Q (.ref t') H'
end
end My
namespace My
open PySem PySem.Spec PyProof.Rows L2
variable {K : PySem.W.Frag}
theorem behind_u (s : Stl) (wn : Nat) (y : Rat) : (s.behind wn y).u = s.u := by
  unfold Stl.behind
  split <;> rfl
theorem behind_v (s : Stl) (wn : Nat) (y : Rat) : (s.behind wn y).v = s.v := by
  unfold Stl.behind
  split <;> rfl
theorem behind_two (s : Stl) (wn : Nat) (y z : Rat) : (s.behind wn y).behind wn z = s.behind wn (y + z) := by
  unfold Stl.behind
  by_cases e : wn = s.u
  · simp only [e, if_true, Stl.first, Rat.add_assoc]
  · simp only [e, if_false, Stl.secnd, Rat.add_assoc]
theorem out_two (s : Stl) (wn : Nat) (y z : Rat) : s.out (s.behind wn y) wn + (s.behind wn y).out ((s.behind wn y).behind wn z) wn = s.out (s.behind wn (y + z)) wn := by
  rw [behind_two]
  by_cases e : wn = s.u
  · unfold Stl.out
    rw [behind_u, if_pos e, if_pos e, if_pos e]
    grind
  · unfold Stl.out
    rw [behind_u, if_neg e, if_neg e, if_neg e]
    grind
theorem out_bd {k l wn : Nat} {s t : Stl} (h1 : BdSt k s) (h2 : BdSt l t) : Bd (k + l + 1) (s.out t wn) := by
  unfold Stl.out
  split
  · exact h1.b.sub h2.b
  · exact h1.a.sub h2.a
theorem set_at {ss : List Stl} {i : Nat} {s b : Stl} (h : ss[i]? = some s) : (ss.set i b)[i]? = some b := by
  rw [List.getElem?_set_self (List.getElem?_eq_some_iff.mp h).1]
theorem set_back {ss : List Stl} {i : Nat} {s : Stl} (h : ss[i]? = some s) : ss.set i s = ss := by
  refine List.ext_getElem? fun j => ?_
  rw [List.getElem?_set]
  split
  · rename_i e
    subst e
    rw [h, if_pos (List.getElem?_eq_some_iff.mp h).1]
  · rfl
/-- a move that may be made -/
def Vm (ss : List Stl) (m : Mv) : Prop := ∃ s, ss[m.i]? = some s ∧ (m.w = s.u ∨ m.w = s.v) ∧ 0 < m.x
/-- moves played one behind another, within bounds -/
inductive Plays (n : Nat) : List Stl → List Mv → List Stl → Prop
  | nil {ss : List Stl} : Plays n ss [] ss
  | cons {ss tt : List Stl} {m : Mv} {ms : List Mv} {s : Stl} (h : ss[m.i]? = some s) (hw : m.w = s.u ∨ m.w = s.v) (x0 : 0 < m.x) (bs : BdSt 1900 s) (bx : Bd 1900 m.x) (hb : BdSt 8000 (s.behind m.w m.x))
      (t : Plays n (ss.set m.i (s.behind m.w m.x)) ms tt) : Plays n ss (m :: ms) tt
theorem alk_refl (ss : List Stl) : Alk ss ss := ⟨rfl, fun h1 h2 => by
  rw [h1] at h2
  cases h2
  exact ⟨rfl, rfl, rfl⟩⟩
theorem behind_r (s : Stl) (wn : Nat) (y : Rat) : (s.behind wn y).r = s.r := by
  unfold Stl.behind
  split <;> rfl
theorem alk_trans {ss tt uu : List Stl} (a : Alk ss tt) (b : Alk tt uu) : Alk ss uu := ⟨a.len.trans b.len, fun {i s u} h1 h2 => by
  have l := a.len
  have hi := (List.getElem?_eq_some_iff.mp h1).1
  have h3 : tt[i]? = some (tt[i]'(by omega)) := List.getElem?_eq_getElem (by omega)
  obtain ⟨a1, a2, a3⟩ := a.at_ h1 h3
  obtain ⟨b1, b2, b3⟩ := b.at_ h3 h2
  exact ⟨a1.trans b1, a2.trans b2, a3.trans b3⟩⟩
theorem alk_set {ss : List Stl} {i : Nat} {s t : Stl} (h : ss[i]? = some s) (e : s.u = t.u ∧ s.v = t.v ∧ s.r = t.r) : Alk ss (ss.set i t) := ⟨by rw [List.length_set], fun {j a b} h1 h2 => by
  rw [List.getElem?_set] at h2
  split at h2
  · rename_i c
    subst c
    rw [h] at h1
    cases h1
    split at h2
    · cases h2
      exact e
    · cases h2
  · rw [h1] at h2
    cases h2
    exact ⟨rfl, rfl, rfl⟩⟩
theorem alk_behind (s : Stl) (w : Nat) (x : Rat) : s.u = (s.behind w x).u ∧ s.v = (s.behind w x).v ∧ s.r = (s.behind w x).r := ⟨by rw [behind_u], by rw [behind_v], by rw [behind_r]⟩
theorem Plays.alk {n : Nat} {ss tt : List Stl} {ms : List Mv} (h : Plays n ss ms tt) : Alk ss tt := by
  induction h with
  | nil => exact alk_refl _
  | cons h hw x0 bs bx hb t ih => exact alk_trans (alk_set h (alk_behind _ _ _)) ih
theorem vm_alk {ss tt : List Stl} (a : Alk ss tt) {m : Mv} (h : Vm tt m) : Vm ss m := by
  obtain ⟨t, h1, h2, h3⟩ := h
  have l := a.len
  have hi := (List.getElem?_eq_some_iff.mp h1).1
  have h4 : ss[m.i]? = some (ss[m.i]'(by omega)) := List.getElem?_eq_getElem (by omega)
  obtain ⟨a1, a2, _⟩ := a.at_ h4 h1
  exact ⟨_, h4, by rw [a1, a2]; exact h2, h3⟩
theorem Plays.vm {n : Nat} {ss tt : List Stl} {ms : List Mv} (h : Plays n ss ms tt) : ∀ m ∈ ms, Vm ss m := by
  induction h with
  | nil =>
    intro m hm
    simp at hm
  | cons h hw x0 bs bx hb t ih =>
    intro m hm
    rcases List.mem_cons.mp hm with rfl | hm
    · exact ⟨_, h, hw, x0⟩
    · exact vm_alk (alk_set h (alk_behind _ _ _)) (ih m hm)
theorem Plays.ok {n : Nat} {ss tt : List Stl} {ms : List Mv} (h : Plays n ss ms tt) : (∀ s ∈ ss, OkSt n s) → ∀ s ∈ tt, OkSt n s := by
  induction h with
  | nil => exact id
  | cons h hw x0 bs bx hb t ih =>
    intro ok
    refine ih fun s hs => ?_
    rcases List.mem_or_eq_of_mem_set hs with z | z
    · exact ok s z
    · rw [z]
      exact behind_ok (ok _ (List.mem_of_getElem? h)) _ x0
theorem Plays.bd {n : Nat} {ss tt : List Stl} {ms : List Mv} (h : Plays n ss ms tt) : (∀ s ∈ ss, BdSt 8000 s) → ∀ s ∈ tt, BdSt 8000 s := by
  induction h with
  | nil => exact id
  | cons h hw x0 bs bx hb t ih =>
    intro ok
    refine ih fun s hs => ?_
    rcases List.mem_or_eq_of_mem_set hs with z | z
    · exact ok s z
    · rw [z]
      exact hb
/-- what the customer has behind it -/
def hasAt (n : Nat) (rs : List Rat) (ss tt : List Stl) : List Rat := (List.range n).map fun w => rs.getD w 0 + (heldAt ss w - heldAt tt w)
theorem bools_of {bs : List V} {l : List Bool} (h : Paired (fun (v : V) (b : Bool) => v = .bl b) bs l) : bs = l.map V.bl := by
  induction h with
  | nil => rfl
  | cons h t ih => rw [h, ih]; rfl
theorem all_true (l : List Bool) (h : ∀ b ∈ l, b = true) : l.all id = true := by
  rw [List.all_eq_true]
  exact h
section
variable {P : Program} {w : World} {K : PySem.W.Frag} {mg : Str → Option Value} {base : Heap} {f_is_integer f_is_row f_is_fraction f_is_some f_lowest f_multiplied f_squared f_lies_below f_is_stall f_is_ware f_check_ware f_check_two f_across f_hold_of f_is_index f_check_some f_is_step f_end_of f_is_walk f_check_route f_rule_behind f_rule_of f_out_by f_route_out f_routes_on f_best_route f_l_is_integer f_l_source f_l_draw f_l_made f_l_plus f_l_times f_l_over f_l_below f_l_some f_l_stall f_l_stalls f_l_piece f_l_pair f_l_same f_l_rule f_l_comes f_l_routes f_l_fair f_l_web f_l_best f_law f_Web_init f_Web_eq c_BadWare c_Web c_NO_STEPS : Addr} {d_is_integer d_is_row d_is_fraction d_is_some d_lowest d_multiplied d_squared d_lies_below d_is_stall d_is_ware d_check_ware d_check_two d_across d_hold_of d_is_index d_check_some d_is_step d_end_of d_is_walk d_check_route d_rule_behind d_rule_of d_out_by d_route_out d_routes_on d_best_route d_l_is_integer d_l_source d_l_draw d_l_made d_l_plus d_l_times d_l_over d_l_below d_l_some d_l_stall d_l_stalls d_l_piece d_l_pair d_l_same d_l_rule d_l_comes d_l_routes d_l_fair d_l_web d_l_best d_law d_Web_init d_Web_eq : FuncData}
def sp_is_amount (K : PySem.W.Frag) : Sp := fun vs H Q _ => ∃ v r, vs = [v] ∧ IsF K H v r ∧ 0 ≤ r ∧ Q (.bl true) H
def sp_are_amounts (K : PySem.W.Frag) : Sp := fun vs H Q _ => ∃ (L : Addr) (ys : List V) (rs : List Rat), vs = [.ref L, .int (rs.length : Nat)] ∧ Sq K H L ys ∧ Fs K H ys rs ∧ (∀ r ∈ rs, 0 ≤ r) ∧ rs.length ≤ 16 ∧ ∀ H', Same H H' → Q (.bl true) H'
def IsRow (K : PySem.W.Frag) (H : Hp) (x : V) (rs : List Rat) : Prop := ∃ L ys, x = .ref L ∧ (H L = some (.lst ys) ∨ H L = some (.tup ys)) ∧ Fs K H ys rs
theorem IsRow.same {H H' : Hp} {x : V} {rs : List Rat} (s : Same H H') (h : IsRow K H x rs) : IsRow K H' x rs := by
  obtain ⟨L, ys, e, h1, h2⟩ := h
  exact ⟨L, ys, e, h1.imp (fun h => s _ _ h) (fun h => s _ _ h), h2.same s⟩
theorem sq_or {H : Hp} {L : Addr} {ys : List V} (h : H L = some (.lst ys) ∨ H L = some (.tup ys)) : Sq K H L ys := h.imp .of .of
def sp_check_purse (K : PySem.W.Frag) (C : Addr) : Sp := fun vs H Q _ => ∃ (x p : V) (n : Nat) (ss : List Stl) (rs : List Rat), vs = [x, p] ∧ IsWeb K C H x n ss ∧ IsRow K H p rs ∧ rs.length = n ∧ n ≤ 8 ∧ (∀ r ∈ rs, 0 ≤ r) ∧ ∀ H', Same H H' → Q .non H'
def IsDl (K : PySem.W.Frag) (H : Hp) (x : V) (ms : List Mv) : Prop := ∃ L ys, x = .ref L ∧ (H L = some (.lst ys) ∨ H L = some (.tup ys)) ∧ Paired (IsM K H) ys ms
theorem IsM.same {H H' : Hp} {v : V} {m : Mv} (s : Same H H') (h : IsM K H v m) : IsM K H' v m := IsMv.same s h
theorem IsDl.same {H H' : Hp} {x : V} {ms : List Mv} (s : Same H H') (h : IsDl K H x ms) : IsDl K H' x ms := by
  obtain ⟨L, ys, e, h1, h2⟩ := h
  exact ⟨L, ys, e, h1.imp (fun h => s _ _ h) (fun h => s _ _ h), Paired.mapP h2 fun _ _ h => h.same s⟩
def sp_deal_fault (K : PySem.W.Frag) (C : Addr) : Sp := fun vs H Q _ => ∃ (x d : V) (n : Nat) (ss : List Stl) (ms : List Mv), vs = [x, d] ∧ IsWeb K C H x n ss ∧ IsDl K H d ms ∧ ms.length ≤ 200 ∧ (∀ m ∈ ms, Vm ss m) ∧ ∀ H', Same H H' → Q .non H'
def sp_check_deal (K : PySem.W.Frag) (C : Addr) : Sp := fun vs H Q _ => ∃ (x p d : V) (n : Nat) (ss : List Stl) (rs : List Rat) (ms : List Mv), vs = [x, p, d] ∧ IsWeb K C H x n ss ∧ IsRow K H p rs ∧ rs.length = n ∧ n ≤ 8 ∧ (∀ r ∈ rs, 0 ≤ r) ∧ IsDl K H d ms ∧ ms.length ≤ 200 ∧ (∀ m ∈ ms, Vm ss m) ∧ ∀ H', Same H H' → Q .non H'
def sp_web_behind (K : PySem.W.Frag) (C : Addr) : Sp := fun vs H Q _ => ∃ (x d : V) (n : Nat) (ss tt : List Stl) (ms : List Mv), vs = [x, d] ∧ IsWeb K C H x n ss ∧ IsDl K H d ms ∧ Plays n ss ms tt ∧ OkW n 8000 ss ∧ ∀ H' u, Same H H' → IsWeb K C H' u n tt → Q u H'
theorem rd_ixAny {H : Hp} {Q : VK} {p : Addr} {xs : List V} {i : Int} {v : V} (h : H p = some (.lst xs) ∨ H p = some (.tup xs)) (e : atI xs i = some v) (q : Q v H) : rIxA K (.ref p) (.int i) H Q := ⟨p, xs, i, v, rfl, rfl, h.imp .of .of, e, q⟩
theorem ixN_at {n i : Nat} (h : i < n) : ixN n (i : Int) = some i := by
  unfold ixN
  split <;> first | omega | (simp; omega) | simp_all
theorem drop_at {α : Type} {l : List α} {i : Nat} {a : α} (h : l[i]? = some a) : l.drop i = a :: l.drop (i + 1) := by
  obtain ⟨hi, e⟩ := List.getElem?_eq_some_iff.mp h
  rw [← e]
  exact List.drop_eq_getElem_cons hi
def sp_left_with (K : PySem.W.Frag) (C : Addr) : Sp := fun vs H Q _ => ∃ (x p u : V) (n : Nat) (ss tt : List Stl) (rs : List Rat) (M N : Nat), vs = [x, p, u] ∧ IsWeb K C H x n ss ∧ IsRow K H p rs ∧ IsWeb K C H u n tt ∧ rs.length = n ∧ (∀ r ∈ rs, Bd 8000 r) ∧ Alk ss tt ∧ n ≤ 8 ∧ ss.length ≤ 16 ∧ BL ss M ∧ BL tt N ∧ M + N + 1 ≤ 8000 ∧
  ∀ H' v, Same H H' → IsFs K H' v (hasAt n rs ss tt) → Q v H'
def IsEnd (K : PySem.W.Frag) (C : Addr) (H : Hp) (v : V) (n : Nat) (tt : List Stl) (rs : List Rat) : Prop := ∃ p u t, v = .ref p ∧ H p = some (.tup [u, t]) ∧ IsWeb K C H u n tt ∧ IsFs K H t rs
def sp_played (K : PySem.W.Frag) (C : Addr) : Sp := fun vs H Q _ => ∃ (x p d : V) (n : Nat) (ss tt : List Stl) (rs : List Rat) (ms : List Mv) (M N : Nat), vs = [x, p, d] ∧ IsWeb K C H x n ss ∧ IsRow K H p rs ∧ rs.length = n ∧ (∀ r ∈ rs, 0 ≤ r ∧ Bd 8000 r) ∧ IsDl K H d ms ∧ ms.length ≤ 200 ∧ Plays n ss ms tt ∧ OkW n 8000 ss ∧ BL ss M ∧ BL tt N ∧ M + N + 1 ≤ 8000 ∧
  ∀ H' v, Same H H' → IsEnd K C H' v n tt (hasAt n rs ss tt) → Q v H'
end
end My
namespace My
open PySem PySem.Spec PyProof.Rows L2
section
variable {P : Program} {w : World} {K : PySem.W.Frag} {mg : Str → Option Value} {base : Heap} {f_is_integer f_is_row f_is_fraction f_is_some f_lowest f_multiplied f_squared f_lies_below f_is_stall f_is_ware f_check_ware f_check_two f_across f_hold_of f_is_index f_check_some f_is_step f_end_of f_is_walk f_check_route f_rule_behind f_rule_of f_out_by f_route_out f_routes_on f_best_route f_l_is_integer f_l_source f_l_draw f_l_made f_l_plus f_l_times f_l_over f_l_below f_l_some f_l_stall f_l_stalls f_l_piece f_l_pair f_l_same f_l_rule f_l_comes f_l_routes f_l_fair f_l_web f_l_best f_law f_Web_init f_Web_eq c_BadWare c_Web c_NO_STEPS : Addr} {d_is_integer d_is_row d_is_fraction d_is_some d_lowest d_multiplied d_squared d_lies_below d_is_stall d_is_ware d_check_ware d_check_two d_across d_hold_of d_is_index d_check_some d_is_step d_end_of d_is_walk d_check_route d_rule_behind d_rule_of d_out_by d_route_out d_routes_on d_best_route d_l_is_integer d_l_source d_l_draw d_l_made d_l_plus d_l_times d_l_over d_l_below d_l_some d_l_stall d_l_stalls d_l_piece d_l_pair d_l_same d_l_rule d_l_comes d_l_routes d_l_fair d_l_web d_l_best d_law d_Web_init d_Web_eq : FuncData}
def sp_taken (K : PySem.W.Frag) : Sp := fun vs H Q _ => ∃ (v u : V) (s t : Stl) (wn : Nat), vs = [v, u, .int (wn : Nat)] ∧ IsSt K H v s ∧ IsSt K H u t ∧ BdSt 8000 s ∧ BdSt 8000 t ∧ ∀ H' y, Same H H' → IsF K H' y (s.out t wn) → Q y H'
end
end My
namespace My
open PySem PySem.Spec PyProof.Rows L2
variable {K : PySem.W.Frag}
section
variable {P : Program} {w : World} {K : PySem.W.Frag} {mg : Str → Option Value} {base : Heap} {f_is_integer f_is_row f_is_fraction f_is_some f_lowest f_multiplied f_squared f_lies_below f_is_stall f_is_ware f_check_ware f_check_two f_across f_hold_of f_is_index f_check_some f_is_step f_end_of f_is_walk f_check_route f_rule_behind f_rule_of f_out_by f_route_out f_routes_on f_best_route f_l_is_integer f_l_source f_l_draw f_l_made f_l_plus f_l_times f_l_over f_l_below f_l_some f_l_stall f_l_stalls f_l_piece f_l_pair f_l_same f_l_rule f_l_comes f_l_routes f_l_fair f_l_web f_l_best f_law f_Web_init f_Web_eq c_BadWare c_Web c_NO_STEPS : Addr} {d_is_integer d_is_row d_is_fraction d_is_some d_lowest d_multiplied d_squared d_lies_below d_is_stall d_is_ware d_check_ware d_check_two d_across d_hold_of d_is_index d_check_some d_is_step d_end_of d_is_walk d_check_route d_rule_behind d_rule_of d_out_by d_route_out d_routes_on d_best_route d_l_is_integer d_l_source d_l_draw d_l_made d_l_plus d_l_times d_l_over d_l_below d_l_some d_l_stall d_l_stalls d_l_piece d_l_pair d_l_same d_l_rule d_l_comes d_l_routes d_l_fair d_l_web d_l_best d_law d_Web_init d_Web_eq : FuncData}
def sp_out_of (K : PySem.W.Frag) (C : Addr) : Sp := fun vs H Q _ => ∃ (x mv : V) (n : Nat) (ss : List Stl) (i wn : Nat) (s : Stl) (y : Rat), vs = [x, mv] ∧ IsWeb K C H x n ss ∧ IsMv K H mv i wn y ∧ ss[i]? = some s ∧ (wn = s.u ∨ wn = s.v) ∧ 0 < y ∧ OkW n 900 ss ∧ Bd 900 y ∧
  ∀ H' u, Same H H' → IsF K H' u (s.out (s.behind wn y) wn) → Q u H'
end
end My
namespace My
open PySem PySem.Spec PyProof.Rows L2
variable {K : PySem.W.Frag}
section
variable {α : Type} {R : Hp → V → α → Prop} {g : TG} {tt : TT} {te : TE} {vs : List Nat} {σ : L2.St} {H1 : Hp} {Qd : Addr → Hp → Prop} {f : Nat → Option α}
theorem lc_zipS (hR : Mn R) {a b : Addr} {xs ys : List V} (hn : ys.length ≤ 1000) (hlen : ys.length ≤ xs.length) (ha : SqT K H1 a xs) (hb : SqT K H1 b ys)
    (hs : ∀ i x y, xs[i]? = some x → ys[i]? = some y → Turn1 R H1 f i fun H' Q N => ∀ T, H' T = none → g (.ref T) (wipe σ vs) (upd H' T (.tup [x, y])) fun σ2 H2 => wipe σ2 vs = wipe σ vs ∧ tt σ2 H2 fun b H3 => if b = true then te σ2 H3 Q else N H3)
    (hd : ∀ D H', Lst R H1 D (upTo f ys.length) H' → Qd D H') {RR : It → Hp → Prop}
    (hRR : RR = fun J H1 => ∀ D, H1 D = none → ∃ W : Nat → Nat → Hp → Prop, (∃ m, W 0 m (upd H1 D (.lst []))) ∧ ∀ i m H, W i m H →
      (J.stop i H ∧ Qd D H) ∨ (J.go i H ∧ ∃ Nx : Hp → Prop, (∀ H', Nx H' → ∃ m', m' < m ∧ W (i + 1) m' H') ∧ ∀ x H', J.yld i H x H' → g x (wipe σ vs) H' fun σ2 H2 => wipe σ2 vs = wipe σ vs ∧ tt σ2 H2 fun b H3 =>
        if b = true then te σ2 H3 fun y H4 => ∃ acc, H4 D = some (.lst acc) ∧ acc.length < sizeLine ∧ Nx (upd H4 D (.lst (acc ++ [y]))) else Nx H3)) :
    (SqL K H1 a xs ∧ SqL K H1 b ys ∧ RR (Itz K a b) H1) ∨ (SqT K H1 a xs ∧ SqT K H1 b ys ∧ RR (RZ.ItzT K a b) H1) := by
  subst hRR
  refine .inr ⟨ha, hb, fun D nD => ?_⟩
  refine ⟨fun i m H => m = ys.length - i ∧ i ≤ ys.length ∧ Lst R H1 D (upTo f i) H, ⟨ys.length, by simp, Nat.zero_le _, lst_new nD⟩, ?_⟩
  rintro i m H ⟨rfl, hi, l⟩
  have qa := sqT_same l.1 ha
  have qb := sqT_same l.1 hb
  by_cases hlt : i < ys.length
  · have hlx : i < xs.length := by omega
    refine .inr ⟨⟨xs, ys, xs[i], ys[i], qa, qb, by simp, by simp⟩, Lst R H1 D (upTo f (i + 1)), fun H' p' => ⟨ys.length - (i + 1), by omega, rfl, hlt, p'⟩, fun x H' y => ?_⟩
    obtain ⟨T, x, y, rfl, nT, rfl, hx, hy⟩ := y
    exact Turn1.step (i := i) hR nD (by omega) (hs i x y (hx xs qa) (hy ys qb)) l T nT
  · have e : i = ys.length := by omega
    subst e
    exact .inl ⟨⟨xs, ys, qa, qb, .inr (Nat.le_refl _)⟩, hd D H l⟩
end
end My
namespace My
open PySem PySem.Spec PyProof.Rows L2
theorem cut_take (xs : List V) (i : Nat) : cutV xs none (some (i : Int)) = xs.take i := by
  unfold cutV
  rw [HT.sIx_none, HT.sIx_nat]
  by_cases h : i ≤ xs.length
  · simp [Nat.min_eq_left h]
  · rw [Nat.min_eq_right (by omega), List.take_of_length_le (show xs.length ≤ i by omega)]
    simp
theorem cut_drop (xs : List V) (i : Nat) : cutV xs (some (i : Int)) none = xs.drop i := by
  unfold cutV
  rw [HT.sIx_none, HT.sIx_nat]
  by_cases h : i ≤ xs.length
  · rw [Nat.min_eq_left h]
    exact List.take_of_length_le (by simp)
  · rw [Nat.min_eq_right (by omega), List.drop_eq_nil_of_le (show xs.length ≤ i by omega)]
    simp
end My
namespace My
open PySem PySem.Spec PyProof.Rows L2
variable {K : PySem.W.Frag}
end My
namespace My
open PySem PySem.Spec PyProof.Rows L2
variable {K : PySem.W.Frag}
def Stl.other (s : Stl) (w : Nat) : Nat := if w = s.u then s.v else s.u
section
variable {P : Program} {w : World} {K : PySem.W.Frag} {mg : Str → Option Value} {base : Heap} {f_is_integer f_is_row f_is_fraction f_is_some f_lowest f_multiplied f_squared f_lies_below f_is_stall f_is_ware f_check_ware f_check_two f_across f_hold_of f_is_index f_check_some f_is_step f_end_of f_is_walk f_check_route f_rule_behind f_rule_of f_out_by f_route_out f_routes_on f_best_route f_l_is_integer f_l_source f_l_draw f_l_made f_l_plus f_l_times f_l_over f_l_below f_l_some f_l_stall f_l_stalls f_l_piece f_l_pair f_l_same f_l_rule f_l_comes f_l_routes f_l_fair f_l_web f_l_best f_law f_Web_init f_Web_eq c_BadWare c_Web c_NO_STEPS : Addr} {d_is_integer d_is_row d_is_fraction d_is_some d_lowest d_multiplied d_squared d_lies_below d_is_stall d_is_ware d_check_ware d_check_two d_across d_hold_of d_is_index d_check_some d_is_step d_end_of d_is_walk d_check_route d_rule_behind d_rule_of d_out_by d_route_out d_routes_on d_best_route d_l_is_integer d_l_source d_l_draw d_l_made d_l_plus d_l_times d_l_over d_l_below d_l_some d_l_stall d_l_stalls d_l_piece d_l_pair d_l_same d_l_rule d_l_comes d_l_routes d_l_fair d_l_web d_l_best d_law d_Web_init d_Web_eq : FuncData}
def sp_across (K : PySem.W.Frag) : Sp := fun vs H Q _ => ∃ (v : V) (s : Stl) (wn : Nat), vs = [v, .int (wn : Nat)] ∧ IsSt K H v s ∧ Q (.int (s.other wn : Nat)) H
theorem ok_across (T : Txt K mg f_is_integer f_is_row f_is_fraction f_is_some f_lowest f_multiplied f_squared f_lies_below f_is_stall f_is_ware f_check_ware f_check_two f_across f_hold_of f_is_index f_check_some f_is_step f_end_of f_is_walk f_check_route f_rule_behind f_rule_of f_out_by f_route_out f_routes_on f_best_route f_l_is_integer f_l_source f_l_draw f_l_made f_l_plus f_l_times f_l_over f_l_below f_l_some f_l_stall f_l_stalls f_l_piece f_l_pair f_l_same f_l_rule f_l_comes f_l_routes f_l_fair f_l_web f_l_best f_law f_Web_init f_Web_eq c_BadWare c_Web c_NO_STEPS d_is_integer d_is_row d_is_fraction d_is_some d_lowest d_multiplied d_squared d_lies_below d_is_stall d_is_ware d_check_ware d_check_two d_across d_hold_of d_is_index d_check_some d_is_step d_end_of d_is_walk d_check_route d_rule_behind d_rule_of d_out_by d_route_out d_routes_on d_best_route d_l_is_integer d_l_source d_l_draw d_l_made d_l_plus d_l_times d_l_over d_l_below d_l_some d_l_stall d_l_stalls d_l_piece d_l_pair d_l_same d_l_rule d_l_comes d_l_routes d_l_fair d_l_web d_l_best d_law d_Web_init d_Web_eq) : FnOk P w K mg base CX0 1 f_across d_across ["stall", "ware"] (sp_across K) := by
  refine T.F_across.ok sc_across (fun vs H Q E h => ?_) (fun cdv A outer s H vs Q E hr h => ?_)
  · obtain ⟨v, s, wn, rfl, _⟩ := h
    rfl
  · obtain ⟨v, s, wn, rfl, ⟨p, va, vb, vr, rfl, hp, ha, hb, hr'⟩, q⟩ := h
    refine ⟨_, (pss_cons (ps_if (pt_cmpR op_eq (pv 1) (pe_ix ix_tup (pv 0) pe_int (fun _ _ => rfl)) (nomark _))
        (pss_one (ps_ret (pe_ix ix_tup (pv 0) pe_int (fun _ _ => rfl))))
        pss_nil)
      (pss_one (ps_ret (pe_ix ix_tup (pv 0) pe_int (fun _ _ => rfl))))), ?_⟩
    walk_at "r"
    walk_at "if"
    · rename_i e
      rw [show s.other wn = s.v from if_pos (by omega)] at q
      walk_at "r"
      exact q
    · rename_i e
      rw [show s.other wn = s.u from if_neg (by omega)] at q
      walk_at "r"
      exact q
end
end My
namespace My
open PySem PySem.Spec PyProof.Rows L2
variable {K : PySem.W.Frag}
theorem rd_lenSet {ta : TE} {σ : L2.St} {H : Hp} {Q : VK} (h : ta σ H fun x H1 => ∃ (l : Addr) (ns : List Int), x = .ref l ∧ SqL K H1 l (ns.map V.int) ∧ ns.Nodup ∧ ns.length ≤ 4000 ∧ Q (.int (ns.length : Nat)) H1) : RZ.tLenSetI K ta σ H Q := h
/-- a way: a tuple of steps -/
def IsRt (K : PySem.W.Frag) (H : Hp) (v : V) (st : List (Nat × Nat)) : Prop := ∃ t vs, v = .ref t ∧ H t = some (.tup vs) ∧ Paired (fun v (p : Nat × Nat) => ∃ q, v = .ref q ∧ H q = some (.tup [V.int (p.1 : Nat), .int (p.2 : Nat)])) vs st
theorem IsRt.ts {H H' : Hp} {v : V} {st : List (Nat × Nat)} (f : Tps H H') (h : IsRt K H v st) : IsRt K H' v st := by
  obtain ⟨t, vs, e, h1, h2⟩ := h
  exact ⟨t, vs, e, f _ _ h1, Paired.mapP h2 fun _ _ ⟨q, e, h⟩ => ⟨q, e, f _ _ h⟩⟩
theorem IsRt.same {H H' : Hp} {v : V} {st : List (Nat × Nat)} (s : Same H H') (h : IsRt K H v st) : IsRt K H' v st := h.ts (same_tps s)
/-- a route -/
structure Rte (ss : List Stl) (st : List (Nat × Nat)) : Prop where
  ne : 0 < st.length
  mem : ∀ p ∈ st, ∃ s, ss[p.1]? = some s ∧ (p.2 = s.u ∨ p.2 = s.v)
  nd : (st.map Prod.fst).Nodup
  ch : ∀ i p q s, st[i]? = some p → st[i + 1]? = some q → ss[p.1]? = some s → s.other p.2 = q.2
theorem Rte.len {ss : List Stl} {st : List (Nat × Nat)} (h : Rte ss st) : st.length ≤ ss.length := by
  have := nodup_le ss.length (st.map Prod.fst) h.nd fun x hx => by
    obtain ⟨p, hp, rfl⟩ := List.mem_map.mp hx
    obtain ⟨s, hs, _⟩ := h.mem p hp
    exact (List.getElem?_eq_some_iff.mp hs).1
  rwa [List.length_map] at this
theorem bools_of' {bs : List V} {l : List Bool} (h : Paired (fun (v : V) (b : Bool) => v = .bl b) bs l) : bs = l.map V.bl := by
  induction h with
  | nil => rfl
  | cons h t ih => rw [h, ih]; rfl
section
variable {P : Program} {w : World} {K : PySem.W.Frag} {mg : Str → Option Value} {base : Heap} {f_is_integer f_is_row f_is_fraction f_is_some f_lowest f_multiplied f_squared f_lies_below f_is_stall f_is_ware f_check_ware f_check_two f_across f_hold_of f_is_index f_check_some f_is_step f_end_of f_is_walk f_check_route f_rule_behind f_rule_of f_out_by f_route_out f_routes_on f_best_route f_l_is_integer f_l_source f_l_draw f_l_made f_l_plus f_l_times f_l_over f_l_below f_l_some f_l_stall f_l_stalls f_l_piece f_l_pair f_l_same f_l_rule f_l_comes f_l_routes f_l_fair f_l_web f_l_best f_law f_Web_init f_Web_eq c_BadWare c_Web c_NO_STEPS : Addr} {d_is_integer d_is_row d_is_fraction d_is_some d_lowest d_multiplied d_squared d_lies_below d_is_stall d_is_ware d_check_ware d_check_two d_across d_hold_of d_is_index d_check_some d_is_step d_end_of d_is_walk d_check_route d_rule_behind d_rule_of d_out_by d_route_out d_routes_on d_best_route d_l_is_integer d_l_source d_l_draw d_l_made d_l_plus d_l_times d_l_over d_l_below d_l_some d_l_stall d_l_stalls d_l_piece d_l_pair d_l_same d_l_rule d_l_comes d_l_routes d_l_fair d_l_web d_l_best d_law d_Web_init d_Web_eq : FuncData}
def sp_is_step (K : PySem.W.Frag) (C : Addr) : Sp := fun vs H Q _ => ∃ (x : V) (pm : Addr) (n : Nat) (ss : List Stl) (i wn : Nat) (s : Stl), vs = [x, .ref pm] ∧ IsWeb K C H x n ss ∧ H pm = some (.tup [V.int (i : Nat), .int (wn : Nat)]) ∧ ss[i]? = some s ∧ (wn = s.u ∨ wn = s.v) ∧ ∀ H', Same H H' → Q (.bl true) H'
theorem ok_is_step (T : Txt K mg f_is_integer f_is_row f_is_fraction f_is_some f_lowest f_multiplied f_squared f_lies_below f_is_stall f_is_ware f_check_ware f_check_two f_across f_hold_of f_is_index f_check_some f_is_step f_end_of f_is_walk f_check_route f_rule_behind f_rule_of f_out_by f_route_out f_routes_on f_best_route f_l_is_integer f_l_source f_l_draw f_l_made f_l_plus f_l_times f_l_over f_l_below f_l_some f_l_stall f_l_stalls f_l_piece f_l_pair f_l_same f_l_rule f_l_comes f_l_routes f_l_fair f_l_web f_l_best f_law f_Web_init f_Web_eq c_BadWare c_Web c_NO_STEPS d_is_integer d_is_row d_is_fraction d_is_some d_lowest d_multiplied d_squared d_lies_below d_is_stall d_is_ware d_check_ware d_check_two d_across d_hold_of d_is_index d_check_some d_is_step d_end_of d_is_walk d_check_route d_rule_behind d_rule_of d_out_by d_route_out d_routes_on d_best_route d_l_is_integer d_l_source d_l_draw d_l_made d_l_plus d_l_times d_l_over d_l_below d_l_some d_l_stall d_l_stalls d_l_piece d_l_pair d_l_same d_l_rule d_l_comes d_l_routes d_l_fair d_l_web d_l_best d_law d_Web_init d_Web_eq) : FnOk P w K mg base CX0 3 f_is_step d_is_step ["web", "thing"] (sp_is_step K c_Web) := by
  have G_is_integer : FnOk P w K mg base CX0 1 f_is_integer d_is_integer ["thing"] sp_is_integer := ok_is_integer T
  have G_is_index : FnOk P w K mg base CX0 2 f_is_index d_is_index ["web", "thing"] (sp_is_index K c_Web) := ok_is_index T
  refine T.F_is_step.ok sc_is_step (fun vs H Q E h => ?_) (fun cdv A outer s H vs Q E hr h => ?_)
  · obtain ⟨x, pm, n, ss, i, wn, s, rfl, _⟩ := h
    rfl
  · obtain ⟨x, pm, n, ss, i, wn, s, rfl, hw, hm, hi, hwn, q⟩ := h
    have hil : i < ss.length := (List.getElem?_eq_some_iff.mp hi).1
    obtain ⟨p, dx, t, xs, rfl, hp, ht, hss⟩ := id hw
    obtain ⟨z, hz, ⟨pz, va, vb, vr, rfl, hpz, _⟩⟩ := hss.get hi
    refine ⟨_, (pss_cons (ps_if (PW.pt (pw_or (pt_not (pt_val (pe_callB call_isi (by rfl) T.z_isinstance (by decide +kernel) (pa_cons (pv 1) (pa_cons (pe_bltn (v := .ty "tuple") (u := .type "tuple") (by rfl) T.z_tuple (by decide +kernel) rfl) pa_nil))))) (pw_or1 (pt_cmpR op_ne (pe_callB call_lenN (by rfl) T.z_len (by decide +kernel) (pa_cons (pv 1) pa_nil)) pe_int (nomark _)))))
        (pss_one (ps_ret pe_bl))
        pss_nil)
      (pss_cons (ps_asg (pv 1) (pg_tup rfl (pgs_cons (pg_name (i := 2) sc_is_step.nd rfl (by first | exact Or.inl rfl | exact Or.inr rfl)) (pgs_cons (pg_name (i := 3) sc_is_step.nd rfl (by first | exact Or.inl rfl | exact Or.inr rfl)) pgs_nil))))
      (pss_one (ps_ret (pe_and (pe_call G_is_index (hr.mono (by decide)) (by rfl) T.g_is_index T.k_is_index T.b_is_index .nil pass0 (pa_cons (pv 0) (pa_cons (pv 2) pa_nil))) (pe_and (pe_call G_is_integer (hr.mono (by decide)) (by rfl) T.g_is_integer T.k_is_integer T.b_is_integer .nil pass0 (pa_cons (pv 3) pa_nil)) (pe_one (pe_cmpR op_in_seq (pv 3) (pe_slice sl_tup (pe_ix ix_tup (pe_fld (pv 0) rfl) (pv 2) (fun _ _ => rfl)) po_none (po_some pe_int)) (by rfl))))))))), ?_⟩
    walk_at "r"
    refine ⟨_, n, ss, i, rfl, hw, hil, ?_⟩
    walk_at "r"
    refine ⟨_, rfl, ?_⟩
    walk_at "r"
    refine ⟨_, _, _, _, _, rfl, hp, T.w_Web.it.cl, T.n_Web_stalls, wF_stalls _ _, ?_⟩
    walk_at "r"
    refine rd_ixT ht (at_some hz) ?_
    walk_at "r"
    refine ⟨_, _, rfl, .of hpz, (by show ¬ (HT.sIx 5 0 none = 0 ∧ HT.sIx 5 5 (some 2) = 5); decide), fun p2 n2 => ?_⟩
    have sm := same_upd (o := .tup (cutV [V.int (s.u : Nat), .int (s.v : Nat), va, vb, vr] none (some 2))) n2
    refine ⟨_, _, rfl, .inr (.of upd_same), rfl, rfl, ?_⟩
    rw [show cutV [V.int (s.u : Nat), .int (s.v : Nat), va, vb, vr] none (some 2) = [V.int (s.u : Nat), .int (s.v : Nat)] from rfl, in_pair hwn]
    exact q _ sm
def sp_end_of (K : PySem.W.Frag) (C : Addr) : Sp := fun vs H Q _ => ∃ (x : V) (pm : Addr) (n : Nat) (ss : List Stl) (i wn : Nat) (s : Stl), vs = [x, .ref pm] ∧ IsWeb K C H x n ss ∧ H pm = some (.tup [V.int (i : Nat), .int (wn : Nat)]) ∧ ss[i]? = some s ∧ Q (.int (s.other wn : Nat)) H
theorem ok_end_of (T : Txt K mg f_is_integer f_is_row f_is_fraction f_is_some f_lowest f_multiplied f_squared f_lies_below f_is_stall f_is_ware f_check_ware f_check_two f_across f_hold_of f_is_index f_check_some f_is_step f_end_of f_is_walk f_check_route f_rule_behind f_rule_of f_out_by f_route_out f_routes_on f_best_route f_l_is_integer f_l_source f_l_draw f_l_made f_l_plus f_l_times f_l_over f_l_below f_l_some f_l_stall f_l_stalls f_l_piece f_l_pair f_l_same f_l_rule f_l_comes f_l_routes f_l_fair f_l_web f_l_best f_law f_Web_init f_Web_eq c_BadWare c_Web c_NO_STEPS d_is_integer d_is_row d_is_fraction d_is_some d_lowest d_multiplied d_squared d_lies_below d_is_stall d_is_ware d_check_ware d_check_two d_across d_hold_of d_is_index d_check_some d_is_step d_end_of d_is_walk d_check_route d_rule_behind d_rule_of d_out_by d_route_out d_routes_on d_best_route d_l_is_integer d_l_source d_l_draw d_l_made d_l_plus d_l_times d_l_over d_l_below d_l_some d_l_stall d_l_stalls d_l_piece d_l_pair d_l_same d_l_rule d_l_comes d_l_routes d_l_fair d_l_web d_l_best d_law d_Web_init d_Web_eq) : FnOk P w K mg base CX0 2 f_end_of d_end_of ["web", "step"] (sp_end_of K c_Web) := by
  have G_across : FnOk P w K mg base CX0 1 f_across d_across ["stall", "ware"] (sp_across K) := ok_across T
  refine T.F_end_of.ok sc_end_of (fun vs H Q E h => ?_) (fun cdv A outer s H vs Q E hr h => ?_)
  · obtain ⟨x, pm, n, ss, i, wn, s, rfl, _⟩ := h
    rfl
  · obtain ⟨x, pm, n, ss, i, wn, s, rfl, hw, hm, hi, q⟩ := h
    obtain ⟨p, dx, t, xs, rfl, hp, ht, hss⟩ := id hw
    obtain ⟨z, hz, izs⟩ := hss.get hi
    refine ⟨_, (pss_cons (ps_asg (pv 1) (pg_tup rfl (pgs_cons (pg_name (i := 2) sc_end_of.nd rfl (by first | exact Or.inl rfl | exact Or.inr rfl)) (pgs_cons (pg_name (i := 3) sc_end_of.nd rfl (by first | exact Or.inl rfl | exact Or.inr rfl)) pgs_nil))))
      (pss_one (ps_ret (pe_call G_across (hr.mono (by decide)) (by rfl) T.g_across T.k_across T.b_across .nil pass0 (pa_cons (pe_ix ix_tup (pe_fld (pv 0) rfl) (pv 2) (fun _ _ => rfl)) (pa_cons (pv 3) pa_nil)))))), ?_⟩
    walk_at "r"
    refine ⟨_, _, _, _, _, rfl, hp, T.w_Web.it.cl, T.n_Web_stalls, wF_stalls _ _, ?_⟩
    walk_at "r"
    refine rd_ixT ht (at_some hz) ?_
    walk_at "r"
    exact ⟨_, s, wn, rfl, izs, q⟩
def sp_is_walk (K : PySem.W.Frag) (C : Addr) : Sp := fun vs H Q _ => ∃ (x v : V) (n : Nat) (ss : List Stl) (st : List (Nat × Nat)), vs = [x, v] ∧ IsWeb K C H x n ss ∧ IsRt K H v st ∧ Rte ss st ∧ ss.length ≤ 16 ∧ ∀ H', Same H H' → Q (.bl true) H'
theorem ok_is_walk (T : Txt K mg f_is_integer f_is_row f_is_fraction f_is_some f_lowest f_multiplied f_squared f_lies_below f_is_stall f_is_ware f_check_ware f_check_two f_across f_hold_of f_is_index f_check_some f_is_step f_end_of f_is_walk f_check_route f_rule_behind f_rule_of f_out_by f_route_out f_routes_on f_best_route f_l_is_integer f_l_source f_l_draw f_l_made f_l_plus f_l_times f_l_over f_l_below f_l_some f_l_stall f_l_stalls f_l_piece f_l_pair f_l_same f_l_rule f_l_comes f_l_routes f_l_fair f_l_web f_l_best f_law f_Web_init f_Web_eq c_BadWare c_Web c_NO_STEPS d_is_integer d_is_row d_is_fraction d_is_some d_lowest d_multiplied d_squared d_lies_below d_is_stall d_is_ware d_check_ware d_check_two d_across d_hold_of d_is_index d_check_some d_is_step d_end_of d_is_walk d_check_route d_rule_behind d_rule_of d_out_by d_route_out d_routes_on d_best_route d_l_is_integer d_l_source d_l_draw d_l_made d_l_plus d_l_times d_l_over d_l_below d_l_some d_l_stall d_l_stalls d_l_piece d_l_pair d_l_same d_l_rule d_l_comes d_l_routes d_l_fair d_l_web d_l_best d_law d_Web_init d_Web_eq) : FnOk P w K mg base CX0 4 f_is_walk d_is_walk ["web", "thing"] (sp_is_walk K c_Web) := by
  have G_is_step : FnOk P w K mg base CX0 3 f_is_step d_is_step ["web", "thing"] (sp_is_step K c_Web) := ok_is_step T
  have G_end_of : FnOk P w K mg base CX0 2 f_end_of d_end_of ["web", "step"] (sp_end_of K c_Web) := ok_end_of T
  refine T.F_is_walk.ok sc_is_walk (fun vs H Q E h => ?_) (fun cdv A outer s H vs Q E hr h => ?_)
  · obtain ⟨x, v, n, ss, st, rfl, _⟩ := h
    rfl
  · obtain ⟨x, v, n, ss, st, rfl, hw, hv, rt, l16, q⟩ := h
    obtain ⟨p, dx, t, xs, rfl, hp, ht, hss⟩ := id hw
    obtain ⟨tw, vw, rfl, htw, hpw⟩ := id hv
    have lx := hss.len
    have lw := Paired.length hpw
    have ln := rt.len
    have l0 := rt.ne
    refine ⟨_, (pss_cons (ps_if (PW.pt (pw_or (pt_not (pt_val (pe_callB call_isi (by rfl) T.z_isinstance (by decide +kernel) (pa_cons (pv 1) (pa_cons (pe_bltn (v := .ty "tuple") (u := .type "tuple") (by rfl) T.z_tuple (by decide +kernel) rfl) pa_nil))))) (pw_or1 (pt_not (pt_chain op_lt op_le pe_int (pe_callB call_lenN (by rfl) T.z_len (by decide +kernel) (pa_cons (pv 1) pa_nil)) (pe_callB call_lenN (by rfl) T.z_len (by decide +kernel) (pa_cons (pe_fld (pv 0) rfl) pa_nil)))))))
        (pss_one (ps_ret pe_bl))
        pss_nil)
      (pss_cons (ps_if (pt_not (pt_val (pe_callB (cr_all rfl) (by rfl) T.z_all (by decide +kernel) (pa_cons (pe_lc (own := [("step", 2)]) (g := gName 2) rfl sc_is_walk.nd (pi_tup (pv 1)) (blkOk_by (own := [("step", 2)]) (N := N_is_walk) (sc := defScope s_is_walk) (by decide +kernel)) (fun _ _ _ _ _ => (pg_name (i := 2) sc_is_walk.nd rfl (by first | exact Or.inl rfl | exact Or.inr rfl))) (fun _ _ _ _ _ => pts_nil) (fun _ _ _ _ _ => (pe_call G_is_step (hr.mono (by decide)) (by rfl) T.g_is_step T.k_is_step T.b_is_step .nil pass0 (pa_cons (pv 0) (pa_cons (pv 2) pa_nil))))) pa_nil))))
        (pss_one (ps_ret pe_bl))
        pss_nil)
      (pss_cons (ps_if (pt_cmpR op_lt (RZ.pe_lenSetI (by rfl) T.z_len (by rfl) T.z_set (pe_lc (own := [("index", 3), ("ware", 4)]) (g := gTup K 2 (gCons (gName 3) (gCons (gName 4) (gNil)))) rfl sc_is_walk.nd (pi_tup (pv 1)) (blkOk_by (own := [("index", 3), ("ware", 4)]) (N := N_is_walk) (sc := defScope s_is_walk) (by decide +kernel)) (fun _ _ _ _ _ => (pg_tup rfl (pgs_cons (pg_name (i := 3) sc_is_walk.nd rfl (by first | exact Or.inl rfl | exact Or.inr rfl)) (pgs_cons (pg_name (i := 4) sc_is_walk.nd rfl (by first | exact Or.inl rfl | exact Or.inr rfl)) pgs_nil)))) (fun _ _ _ _ _ => pts_nil) (fun _ _ _ _ _ => (pv 3)))) (pe_callB call_lenN (by rfl) T.z_len (by decide +kernel) (pa_cons (pv 1) pa_nil)) (nomark _))
        (pss_one (ps_ret pe_bl))
        pss_nil)
      (pss_one (ps_ret (pe_callB (cr_all rfl) (by rfl) T.z_all (by decide +kernel) (pa_cons (pe_lc (own := [("step", 2), ("after", 5)]) (g := gTup K 2 (gCons (gName 2) (gCons (gName 5) (gNil)))) rfl sc_is_walk.nd (My.pi_zipP (by rfl) T.z_zip (pa_cons (pv 1) (pa_cons (pe_slice sl_tup (pv 1) (po_some pe_int) po_none) pa_nil))) (blkOk_by (own := [("step", 2), ("after", 5)]) (N := N_is_walk) (sc := defScope s_is_walk) (by decide +kernel)) (fun _ _ _ _ _ => (pg_tup rfl (pgs_cons (pg_name (i := 2) sc_is_walk.nd rfl (by first | exact Or.inl rfl | exact Or.inr rfl)) (pgs_cons (pg_name (i := 5) sc_is_walk.nd rfl (by first | exact Or.inl rfl | exact Or.inr rfl)) pgs_nil)))) (fun _ _ _ _ _ => pts_nil) (fun _ _ _ _ _ => (pe_cmpR op_eq (pe_call G_end_of (hr.mono (by decide)) (by rfl) T.g_end_of T.k_end_of T.b_end_of .nil pass0 (pa_cons (pv 0) (pa_cons (pv 2) pa_nil))) (pe_ix (My.ix_tupK (K := K) (by rfl)) (pv 5) pe_int (fun _ _ => rfl)) (nomark _)))) pa_nil))))))), ?_⟩
    walk_at "r"
    refine ⟨_, _, _, _, _, rfl, hp, T.w_Web.it.cl, T.n_Web_stalls, wF_stalls _ _, ?_⟩
    have c1 : (0 : Int) < (vw.length : Nat) := by omega
    have c2 : ((vw.length : Nat) : Int) ≤ (xs.length : Nat) := by omega
    walk_at "r"
    refine ⟨⟨_, .of htw⟩, fun D nD => ?_⟩
    refine lc_tupP (R := fun H v (b : Bool) => v = .bl b) (fun _ _ _ _ _ h => h) (f := fun _ => some true) nD (by omega) (.of htw) (fun i v hx H' Q' N' s1 hyy _ => ?_) fun H1 hl1 => ?_
    · obtain ⟨⟨i', wn⟩, hpi, pq, rfl, hpq⟩ := Paired.at hpw hx
      obtain ⟨s, hs, hwn⟩ := rt.mem _ (List.mem_of_getElem? hpi)
      walk_at "r"
      refine ⟨rfl, ?_⟩
      walk_at "r"
      exact ⟨_, pq, n, ss, i', wn, s, rfl, hw.same s1, s1 _ _ hpq, hs, hwn, fun H2 s2 => hyy true _ _ rfl s2 rfl⟩
    obtain ⟨s1, bs, hD, hbs⟩ := hl1
    rw [upTo_map] at hbs
    have e := bools_of' hbs
    subst e
    walk_at "r"
    refine ⟨D, _, rfl, .of hD, ?_⟩
    rw [show ∀ l : List Bool, (∀ b ∈ l, b = true) → l.all id = true from fun l h => List.all_eq_true.mpr h]
    rotate_left
    · simp
    clear hD hbs nD
    walk_at "r"
    refine rd_lenSet ?_
    walk_at "r"
    have htw1 := s1 _ _ htw
    refine ⟨⟨_, .of htw1⟩, fun D2 nD2 => ?_⟩
    refine lc_tupP (R := fun H v (b : Nat) => v = .int (b : Nat)) (fun _ _ _ _ _ h => h) (f := fun i => (st[i]?).map Prod.fst) nD2 (by omega) (.of htw1) (fun i v hx H' Q' N' s2 hyy _ => ?_) fun H2 hl2 => ?_
    · obtain ⟨⟨i', wn⟩, hpi, pq, rfl, hpq⟩ := Paired.at hpw hx
      have hpq2 := s2 _ _ (s1 _ _ hpq)
      walk_at "r"
      refine ⟨rfl, ?_⟩
      walk_at "r"
      exact hyy i' _ _ (by simp [hpi]) (Same.refl _) rfl
    obtain ⟨s2, bs2, hD2, hbs2⟩ := hl2
    rw [lw, upTo_list] at hbs2
    have e2 := ints_of hbs2
    subst e2
    have nd2 : ((st.map Prod.fst).map fun b : Nat => (b : Int)).Nodup := List.Pairwise.map _ (fun a b h z => h (by omega)) rt.nd
    walk_at "r"
    refine ⟨D2, _, rfl, .of hD2, nd2, by simp; omega, ?_⟩
    have k2 := s1.trans s2
    have htw2 := k2 _ _ htw
    rw [List.length_map, List.length_map]
    have c3 : ¬ ((st.length : Nat) : Int) < (vw.length : Nat) := by omega
    clear hD2 hbs2 nD2 htw1 s1 s2
    walk_at "r"
    refine rd_zipP ?_
    walk_at "r"
    refine rd_slT htw2 (show ¬ (HT.sIx vw.length 0 (some 1) = 0 ∧ HT.sIx vw.length vw.length none = vw.length) from fun z => ?_) fun p1 H3 s3 h3 => ?_
    · have z1 := z.1
      rw [show ((1 : Int)) = ((1 : Nat) : Int) from rfl, HT.sIx_nat] at z1
      omega
    have k3 := k2.trans s3
    have h3 : H3 p1 = some (.tup (vw.drop 1)) := by rw [h3, show (1 : Int) = ((1 : Nat) : Int) from rfl, cut_drop]
    walk_at "r"
    refine ⟨tw, p1, vw, vw.drop 1, rfl, ?_⟩
    refine lc_zipS (R := fun H v (b : Bool) => v = .bl b) (fun _ _ _ _ _ h => h) (f := fun _ => some true) (by rw [List.length_drop]; omega) (by rw [List.length_drop]; omega) (.of (s3 _ _ htw2)) (.of h3) (fun i a b ha hb H' Q' N' s4 hyy _ T2 nT => ?_) (fun D3 H4 hl4 => ?_) rfl
    · obtain ⟨⟨i1, w1⟩, hp1, q1, rfl, hq1⟩ := Paired.at hpw ha
      rw [List.getElem?_drop, Nat.add_comm] at hb
      obtain ⟨⟨i2, w2⟩, hp2, q2, rfl, hq2⟩ := Paired.at hpw hb
      obtain ⟨s, hs, hwn⟩ := rt.mem _ (List.mem_of_getElem? hp1)
      have ech := rt.ch i _ _ s hp1 hp2 hs
      have sm := same_upd (o := .tup [V.ref q1, .ref q2]) nT
      have k4 := (k3.trans s4).trans sm
      have hq2' := k4 _ _ hq2
      walk_at "r"
      refine ⟨rfl, ?_⟩
      walk_at "r"
      refine ⟨_, q1, n, ss, i1, w1, s, rfl, hw.same k4, k4 _ _ hq1, hs, ?_⟩
      walk_at "r"
      rw [show s.other w1 = w2 from ech, decide_eq_true rfl]
      exact hyy true _ _ rfl sm rfl
    · obtain ⟨s4, bs, hD, hbs⟩ := hl4
      rw [upTo_map] at hbs
      have e := bools_of' hbs
      subst e
      walk_at "r"
      refine ⟨D3, _, rfl, .of hD, ?_⟩
      rw [show ∀ l : List Bool, (∀ b ∈ l, b = true) → l.all id = true from fun l h => List.all_eq_true.mpr h]
      · exact q _ (k3.trans s4)
      · simp
end
end My
namespace My
open PySem PySem.Spec PyProof.Rows L2
/-! ### rules of routes -/
def stepR (x : Rat × Rat) (s : Stl) (w : Nat) : Rat × Rat := (x.1 * s.hold (s.other w) / s.hold w, x.2 + x.1 / s.hold w)
def ruleR (ss : List Stl) (st : List (Nat × Nat)) : Rat × Rat := st.foldl (fun x p => match ss[p.1]? with | some s => stepR x s p.2 | none => x) (1, 0)
def comes (x : Rat × Rat) (a : Rat) : Rat := x.1 * a / (1 + x.2 * a)
theorem ruleR_snoc {ss : List Stl} {st : List (Nat × Nat)} {p : Nat × Nat} {s : Stl} (h : ss[p.1]? = some s) : ruleR ss (st ++ [p]) = stepR (ruleR ss st) s p.2 := by
  unfold ruleR
  rw [List.foldl_append]
  simp only [List.foldl_cons, List.foldl_nil, h]
theorem take_snoc {α : Type} {l : List α} {i : Nat} {a : α} (h : l[i]? = some a) : l.take (i + 1) = l.take i ++ [a] := by
  rw [List.take_add_one, h]
  rfl
theorem ruleR_take {ss : List Stl} {st : List (Nat × Nat)} {i : Nat} {p : Nat × Nat} {s : Stl} (h : st[i]? = some p) (hs : ss[p.1]? = some s) : ruleR ss (st.take (i + 1)) = stepR (ruleR ss (st.take i)) s p.2 := by
  rw [take_snoc h]
  exact ruleR_snoc hs
/-- the triple of a rule -/
structure Tri (B : Nat) (x : Rat × Rat) (m b l : Int) : Prop where
  m0 : 0 < m
  b0 : 0 < b
  l0 : 0 ≤ l
  mB : m < 2 ^ B
  bB : b < 2 ^ B
  lB : l < 2 ^ B
  e1 : x.1 = Rat.divInt m b
  e2 : x.2 = Rat.divInt l b
theorem num_pos2 {r : Rat} (h : 0 < r) : 0 < r.num := num_pos' h
theorem divInt_rat (m b : Int) : Rat.divInt m b = (m : Rat) / (b : Rat) := Rat.divInt_eq_div m b
theorem rat_num_den (r : Rat) : r = (r.num : Rat) / ((r.den : Int) : Rat) := by
  rw [← Rat.divInt_eq_div]
  exact (Rat.num_divInt_den r).symm
theorem tri_one : Tri 1 (1, 0) 1 1 0 := ⟨by decide, by decide, by decide, by decide, by decide, by decide, by decide +kernel, by decide +kernel⟩
theorem lt_mul3 {a b c : Int} {i j k : Nat} (a0 : 0 ≤ a) (b0 : 0 ≤ b) (c0 : 0 ≤ c) (ha : a < 2 ^ i) (hb : b < 2 ^ j) (hc : c < 2 ^ k) : a * b * c < 2 ^ (i + j + k) := by
  obtain ⟨x, rfl⟩ := Int.eq_ofNat_of_zero_le a0
  obtain ⟨y, rfl⟩ := Int.eq_ofNat_of_zero_le b0
  obtain ⟨z, rfl⟩ := Int.eq_ofNat_of_zero_le c0
  have h1 : x < 2 ^ i := by exact_mod_cast ha
  have h2 : y < 2 ^ j := by exact_mod_cast hb
  have h3 : z < 2 ^ k := by exact_mod_cast hc
  have := nat_mul_lt (nat_mul_lt h1 h2) h3
  exact_mod_cast this
theorem lt_mul2 {a b : Int} {i j : Nat} (a0 : 0 ≤ a) (b0 : 0 ≤ b) (ha : a < 2 ^ i) (hb : b < 2 ^ j) : a * b < 2 ^ (i + j) := by
  obtain ⟨x, rfl⟩ := Int.eq_ofNat_of_zero_le a0
  obtain ⟨y, rfl⟩ := Int.eq_ofNat_of_zero_le b0
  have h1 : x < 2 ^ i := by exact_mod_cast ha
  have h2 : y < 2 ^ j := by exact_mod_cast hb
  have := nat_mul_lt h1 h2
  exact_mod_cast this
theorem pow_le_int {i j : Nat} (h : i ≤ j) : (2 : Int) ^ i ≤ 2 ^ j := by
  have : (2 : Nat) ^ i ≤ 2 ^ j := Nat.pow_le_pow_right (by decide) h
  exact_mod_cast this
theorem Tri.mono {B C : Nat} {x : Rat × Rat} {m b l : Int} (h : Tri B x m b l) (hl : B ≤ C) : Tri C x m b l :=
  have p := pow_le_int hl
  ⟨h.m0, h.b0, h.l0, Int.lt_of_lt_of_le h.mB p, Int.lt_of_lt_of_le h.bB p, Int.lt_of_lt_of_le h.lB p, h.e1, h.e2⟩
theorem bd_int {k : Nat} {r : Rat} (h : Bd k r) (r0 : 0 < r) : 0 < r.num ∧ r.num < 2 ^ k ∧ 0 < (r.den : Int) ∧ (r.den : Int) < 2 ^ k := by
  have n0 := num_pos2 r0
  refine ⟨n0, ?_, by have := r.den_pos; omega, by exact_mod_cast h.2⟩
  have h1 := h.1
  have e : r.num = (r.num.natAbs : Int) := by omega
  rw [e]
  exact_mod_cast h1
theorem tri_step {B : Nat} {x : Rat × Rat} {m b l : Int} (h : Tri B x m b l) {s : Stl} {w : Nat} (k0 : 0 < s.hold w) (y0 : 0 < s.hold (s.other w)) (bk : Bd 20 (s.hold w)) (by' : Bd 20 (s.hold (s.other w))) :
    Tri (B + 41) (stepR x s w) (m * (s.hold (s.other w)).num * ((s.hold w).den : Int)) (b * (s.hold w).num * ((s.hold (s.other w)).den : Int)) ((l * (s.hold w).num + m * ((s.hold w).den : Int)) * ((s.hold (s.other w)).den : Int)) := by
  unfold stepR
  generalize s.hold w = k at *
  generalize s.hold (s.other w) = y at *
  obtain ⟨k1, k2, k3, k4⟩ := bd_int bk k0
  obtain ⟨y1, y2, y3, y4⟩ := bd_int by' y0
  obtain ⟨h1, h2, h3, h4, h5, h6, h7, h8⟩ := h
  have q := rat_num_den k
  have q2 := rat_num_den y
  have kn : ((k.num : Int) : Rat) ≠ 0 := by exact_mod_cast (show k.num ≠ 0 by omega)
  have kd : (((k.den : Int)) : Rat) ≠ 0 := by exact_mod_cast (show (k.den : Int) ≠ 0 by omega)
  have yd : (((y.den : Int)) : Rat) ≠ 0 := by exact_mod_cast (show (y.den : Int) ≠ 0 by omega)
  have bd : ((b : Int) : Rat) ≠ 0 := by exact_mod_cast (show b ≠ 0 by omega)
  rw [divInt_rat] at h7 h8
  have p := pow_le_int (show B + 20 + 20 ≤ B + 41 by omega)
  refine ⟨Int.mul_pos (Int.mul_pos h1 y1) k3, Int.mul_pos (Int.mul_pos h2 k1) y3, Int.mul_nonneg (Int.add_nonneg (Int.mul_nonneg h3 (by omega)) (Int.mul_nonneg (by omega) (by omega))) (by omega), ?_, ?_, ?_, ?_, ?_⟩
  · exact Int.lt_of_lt_of_le (lt_mul3 (by omega) (by omega) (by omega) h4 y2 k4) p
  · exact Int.lt_of_lt_of_le (lt_mul3 (by omega) (by omega) (by omega) h5 k2 y4) p
  · rw [Int.add_mul]
    have z1 := lt_mul3 h3 (by omega) (by omega) h6 k2 y4
    have z2 := lt_mul3 (by omega) (by omega) (by omega) h4 k4 y4
    have e : (2 : Int) ^ (B + 41) = 2 ^ (B + 20 + 20) * 2 := by
      rw [show B + 41 = (B + 20 + 20) + 1 by omega, Int.pow_succ]
    rw [e]
    generalize (2 : Int) ^ (B + 20 + 20) = nn at *
    omega
  · rw [divInt_rat]
    simp only [Rat.intCast_mul]
    rw [h7]
    conv => lhs; rw [q, q2]
    grind
  · rw [divInt_rat]
    simp only [Rat.intCast_mul, Rat.intCast_add]
    rw [h7, h8]
    conv => lhs; rw [q]
    grind
end My
namespace My
open PySem PySem.Spec PyProof.Rows L2
variable {K : PySem.W.Frag}
theorem cm_of {a b : Int} {i j : Nat} (a0 : 0 ≤ a) (b0 : 0 ≤ b) (ha : a < 2 ^ i) (hb : b < 2 ^ j) (hi : i ≤ 20000) (hj : j ≤ 20000) : CMulX a b := by
  obtain ⟨x, rfl⟩ := Int.eq_ofNat_of_zero_le a0
  obtain ⟨y, rfl⟩ := Int.eq_ofNat_of_zero_le b0
  have h1 : x < 2 ^ i := by exact_mod_cast ha
  have h2 : y < 2 ^ j := by exact_mod_cast hb
  exact cmx (by rw [Int.natAbs_natCast]; exact Nat.lt_of_lt_of_le h1 (Nat.pow_le_pow_right (by decide) hi)) (by rw [Int.natAbs_natCast]; exact Nat.lt_of_lt_of_le h2 (Nat.pow_le_pow_right (by decide) hj))
theorem na_lt {a : Int} {i : Nat} (a0 : 0 ≤ a) (ha : a < 2 ^ i) : a.natAbs < 2 ^ i := by
  obtain ⟨x, rfl⟩ := Int.eq_ofNat_of_zero_le a0
  rw [Int.natAbs_natCast]
  exact_mod_cast ha
theorem tri_out {B : Nat} {x : Rat × Rat} {m b l : Int} (h : Tri B x m b l) {a : Rat} (a0 : 0 < a) : Rat.divInt (m * a.num) (b * (a.den : Int) + l * a.num) = comes x a := by
  unfold comes
  rw [h.e1, h.e2, divInt_rat, divInt_rat, divInt_rat]
  have n0 := num_pos2 a0
  have d0 : 0 < (a.den : Int) := by have := a.den_pos; omega
  have q := rat_num_den a
  have ad : (((a.den : Int)) : Rat) ≠ 0 := by exact_mod_cast (show (a.den : Int) ≠ 0 by omega)
  have bd : ((b : Int) : Rat) ≠ 0 := by exact_mod_cast (show b ≠ 0 by have := h.b0; omega)
  have pos : 0 < b * (a.den : Int) + l * a.num := by
    have z1 := Int.mul_pos h.b0 d0
    have z2 := Int.mul_nonneg h.l0 (Int.le_of_lt n0)
    omega
  have pd : ((b * (a.den : Int) + l * a.num : Int) : Rat) ≠ 0 := by exact_mod_cast (show b * (a.den : Int) + l * a.num ≠ 0 by omega)
  simp only [Rat.intCast_mul, Rat.intCast_add] at *
  have e2 : (1 : Rat) + (l : Rat) / (b : Rat) * ((a.num : Rat) / ((a.den : Int) : Rat)) = ((b : Rat) * ((a.den : Int) : Rat) + (l : Rat) * (a.num : Rat)) / ((b : Rat) * ((a.den : Int) : Rat)) := by grind
  conv => rhs; rw [q]
  rw [e2]
  grind
/-- a rule as the program keeps it -/
def IsRu (K : PySem.W.Frag) (H : Hp) (v : V) (x : Rat × Rat) (B : Nat) : Prop := ∃ p m b l, v = .ref p ∧ Tp K H p [V.int m, .int b, .int l] ∧ Tri B x m b l
theorem IsRu.same {H H' : Hp} {v : V} {x : Rat × Rat} {B : Nat} (s : Same H H') (h : IsRu K H v x B) : IsRu K H' v x B := by
  obtain ⟨p, m, b, l, e, h1, h2⟩ := h
  exact ⟨p, m, b, l, e, h1.same s, h2⟩
section
variable {P : Program} {w : World} {K : PySem.W.Frag} {mg : Str → Option Value} {base : Heap} {f_is_integer f_is_row f_is_fraction f_is_some f_lowest f_multiplied f_squared f_lies_below f_is_stall f_is_ware f_check_ware f_check_two f_across f_hold_of f_is_index f_check_some f_is_step f_end_of f_is_walk f_check_route f_rule_behind f_rule_of f_out_by f_route_out f_routes_on f_best_route f_l_is_integer f_l_source f_l_draw f_l_made f_l_plus f_l_times f_l_over f_l_below f_l_some f_l_stall f_l_stalls f_l_piece f_l_pair f_l_same f_l_rule f_l_comes f_l_routes f_l_fair f_l_web f_l_best f_law f_Web_init f_Web_eq c_BadWare c_Web c_NO_STEPS : Addr} {d_is_integer d_is_row d_is_fraction d_is_some d_lowest d_multiplied d_squared d_lies_below d_is_stall d_is_ware d_check_ware d_check_two d_across d_hold_of d_is_index d_check_some d_is_step d_end_of d_is_walk d_check_route d_rule_behind d_rule_of d_out_by d_route_out d_routes_on d_best_route d_l_is_integer d_l_source d_l_draw d_l_made d_l_plus d_l_times d_l_over d_l_below d_l_some d_l_stall d_l_stalls d_l_piece d_l_pair d_l_same d_l_rule d_l_comes d_l_routes d_l_fair d_l_web d_l_best d_law d_Web_init d_Web_eq : FuncData}
def sp_lowest (K : PySem.W.Frag) : Sp := fun vs H Q _ => ∃ n d : Int, vs = [.int n, .int d] ∧ 0 < d ∧ d.natAbs < 2 ^ 8000 ∧ ∀ H' v, Same H H' → IsF K H' v (Rat.divInt n d) → Q v H'
theorem ok_lowest (T : Txt K mg f_is_integer f_is_row f_is_fraction f_is_some f_lowest f_multiplied f_squared f_lies_below f_is_stall f_is_ware f_check_ware f_check_two f_across f_hold_of f_is_index f_check_some f_is_step f_end_of f_is_walk f_check_route f_rule_behind f_rule_of f_out_by f_route_out f_routes_on f_best_route f_l_is_integer f_l_source f_l_draw f_l_made f_l_plus f_l_times f_l_over f_l_below f_l_some f_l_stall f_l_stalls f_l_piece f_l_pair f_l_same f_l_rule f_l_comes f_l_routes f_l_fair f_l_web f_l_best f_law f_Web_init f_Web_eq c_BadWare c_Web c_NO_STEPS d_is_integer d_is_row d_is_fraction d_is_some d_lowest d_multiplied d_squared d_lies_below d_is_stall d_is_ware d_check_ware d_check_two d_across d_hold_of d_is_index d_check_some d_is_step d_end_of d_is_walk d_check_route d_rule_behind d_rule_of d_out_by d_route_out d_routes_on d_best_route d_l_is_integer d_l_source d_l_draw d_l_made d_l_plus d_l_times d_l_over d_l_below d_l_some d_l_stall d_l_stalls d_l_piece d_l_pair d_l_same d_l_rule d_l_comes d_l_routes d_l_fair d_l_web d_l_best d_law d_Web_init d_Web_eq) : FnOk P w K mg base CX0 1 f_lowest d_lowest ["top", "bottom"] (sp_lowest K) := by
  refine T.F_lowest.ok sc_lowest (fun vs H Q E h => ?_) (fun cdv A outer sh H vs Q E hr h => ?_)
  · obtain ⟨n, d, rfl, _⟩ := h
    rfl
  · obtain ⟨n, d, rfl, hd, hb, q⟩ := h
    obtain ⟨m1, m2, m3⟩ := low_math (n := n) hd hb _ rfl
    have c1 : ¬ d < 0 := by omega
    refine ⟨_, (pss_cons (ps_set (i := 2) sc_lowest.nd rfl (by first | exact Or.inl rfl | exact Or.inr rfl) (pe_callBfun cr_gcd (by rfl) T.m_gcd (pa_cons (pv 0) (pa_cons (pv 1) pa_nil))))
      (pss_cons (ps_if (pt_cmpR op_lt (pv 1) pe_int (nomark _))
        (pss_one (ps_set (i := 2) sc_lowest.nd rfl (by first | exact Or.inl rfl | exact Or.inr rfl) (pe_un un_neg (pv 2))))
        pss_nil)
      (pss_one (ps_ret (pe_tup (pa_cons (pe_op op_fdivX (pv 0) (pv 2)) (pa_cons (pe_op op_fdivX (pv 1) (pv 2)) pa_nil))))))), ?_⟩
    walk_at "r"
    · intro p np
      exact q _ _ (same_upd np) (isF_new m2 m3)
    all_goals first | assumption | exact m1 _
def sp_check_some (K : PySem.W.Frag) : Sp := fun vs H Q _ => ∃ v r, vs = [v] ∧ IsF K H v r ∧ 0 < r ∧ Q .non H
theorem ok_check_some (T : Txt K mg f_is_integer f_is_row f_is_fraction f_is_some f_lowest f_multiplied f_squared f_lies_below f_is_stall f_is_ware f_check_ware f_check_two f_across f_hold_of f_is_index f_check_some f_is_step f_end_of f_is_walk f_check_route f_rule_behind f_rule_of f_out_by f_route_out f_routes_on f_best_route f_l_is_integer f_l_source f_l_draw f_l_made f_l_plus f_l_times f_l_over f_l_below f_l_some f_l_stall f_l_stalls f_l_piece f_l_pair f_l_same f_l_rule f_l_comes f_l_routes f_l_fair f_l_web f_l_best f_law f_Web_init f_Web_eq c_BadWare c_Web c_NO_STEPS d_is_integer d_is_row d_is_fraction d_is_some d_lowest d_multiplied d_squared d_lies_below d_is_stall d_is_ware d_check_ware d_check_two d_across d_hold_of d_is_index d_check_some d_is_step d_end_of d_is_walk d_check_route d_rule_behind d_rule_of d_out_by d_route_out d_routes_on d_best_route d_l_is_integer d_l_source d_l_draw d_l_made d_l_plus d_l_times d_l_over d_l_below d_l_some d_l_stall d_l_stalls d_l_piece d_l_pair d_l_same d_l_rule d_l_comes d_l_routes d_l_fair d_l_web d_l_best d_law d_Web_init d_Web_eq) : FnOk P w K mg base CX0 4 f_check_some d_check_some ["amount"] (sp_check_some K) := by
  have G_is_some : FnOk P w K mg base CX0 3 f_is_some d_is_some ["thing"] (sp_is_some K) := ok_is_some T
  refine T.F_check_some.ok sc_check_some (fun vs H Q E h => ?_) (fun cdv A outer s H vs Q E hr h => ?_)
  · obtain ⟨v, r, rfl, _⟩ := h
    rfl
  · obtain ⟨v, r, rfl, h, r0, q⟩ := h
    refine ⟨_, (pss_one (ps_if (pt_not (pt_val (pe_call G_is_some (hr.mono (by decide)) (by rfl) T.g_is_some T.k_is_some T.b_is_some .nil pass0 (pa_cons (pv 0) pa_nil))))
        (pss_one ps_never)
        pss_nil)), ?_⟩
    walk_at "r"
    refine ⟨_, _, rfl, h, r0, ?_⟩
    walk_at "r"
    exact q
def sp_check_route (K : PySem.W.Frag) (C : Addr) : Sp := fun vs H Q _ => ∃ (x v : V) (n : Nat) (ss : List Stl) (st : List (Nat × Nat)), vs = [x, v] ∧ IsWeb K C H x n ss ∧ IsRt K H v st ∧ Rte ss st ∧ ss.length ≤ 16 ∧ ∀ H', Same H H' → Q .non H'
theorem ok_check_route (T : Txt K mg f_is_integer f_is_row f_is_fraction f_is_some f_lowest f_multiplied f_squared f_lies_below f_is_stall f_is_ware f_check_ware f_check_two f_across f_hold_of f_is_index f_check_some f_is_step f_end_of f_is_walk f_check_route f_rule_behind f_rule_of f_out_by f_route_out f_routes_on f_best_route f_l_is_integer f_l_source f_l_draw f_l_made f_l_plus f_l_times f_l_over f_l_below f_l_some f_l_stall f_l_stalls f_l_piece f_l_pair f_l_same f_l_rule f_l_comes f_l_routes f_l_fair f_l_web f_l_best f_law f_Web_init f_Web_eq c_BadWare c_Web c_NO_STEPS d_is_integer d_is_row d_is_fraction d_is_some d_lowest d_multiplied d_squared d_lies_below d_is_stall d_is_ware d_check_ware d_check_two d_across d_hold_of d_is_index d_check_some d_is_step d_end_of d_is_walk d_check_route d_rule_behind d_rule_of d_out_by d_route_out d_routes_on d_best_route d_l_is_integer d_l_source d_l_draw d_l_made d_l_plus d_l_times d_l_over d_l_below d_l_some d_l_stall d_l_stalls d_l_piece d_l_pair d_l_same d_l_rule d_l_comes d_l_routes d_l_fair d_l_web d_l_best d_law d_Web_init d_Web_eq) : FnOk P w K mg base CX0 5 f_check_route d_check_route ["web", "thing"] (sp_check_route K c_Web) := by
  have G_is_walk : FnOk P w K mg base CX0 4 f_is_walk d_is_walk ["web", "thing"] (sp_is_walk K c_Web) := ok_is_walk T
  refine T.F_check_route.ok sc_check_route (fun vs H Q E h => ?_) (fun cdv A outer s H vs Q E hr h => ?_)
  · obtain ⟨x, v, n, ss, st, rfl, _⟩ := h
    rfl
  · obtain ⟨x, v, n, ss, st, rfl, hw, hv, rt, l16, q⟩ := h
    refine ⟨_, (pss_one (ps_if (pt_not (pt_val (pe_call G_is_walk (hr.mono (by decide)) (by rfl) T.g_is_walk T.k_is_walk T.b_is_walk .nil pass0 (pa_cons (pv 0) (pa_cons (pv 1) pa_nil)))))
        (pss_one ps_never)
        pss_nil)), ?_⟩
    walk_at "r"
    refine ⟨x, v, n, ss, st, rfl, hw, hv, rt, l16, fun H1 s1 => ?_⟩
    walk_at "r"
    exact q _ s1
def sp_rule_behind (K : PySem.W.Frag) : Sp := fun vs H Q _ => ∃ (v u : V) (x : Rat × Rat) (B n wn : Nat) (s : Stl), vs = [v, u, .int (wn : Nat)] ∧ IsRu K H v x B ∧ B ≤ 700 ∧ IsSt K H u s ∧ OkSt n s ∧ BdSt 20 s ∧ (wn = s.u ∨ wn = s.v) ∧ ∀ H' z, Same H H' → IsRu K H' z (stepR x s wn) (B + 41) → Q z H'
theorem hold_pos2 {n : Nat} {s : Stl} (ok : OkSt n s) (wn : Nat) : 0 < s.hold wn := by
  unfold Stl.hold
  split
  · exact ok.a
  · exact ok.b
theorem hold_bd2 {k : Nat} {s : Stl} (b : BdSt k s) (wn : Nat) : Bd k (s.hold wn) := by
  unfold Stl.hold
  split
  · exact b.a
  · exact b.b
theorem ok_rule_behind (T : Txt K mg f_is_integer f_is_row f_is_fraction f_is_some f_lowest f_multiplied f_squared f_lies_below f_is_stall f_is_ware f_check_ware f_check_two f_across f_hold_of f_is_index f_check_some f_is_step f_end_of f_is_walk f_check_route f_rule_behind f_rule_of f_out_by f_route_out f_routes_on f_best_route f_l_is_integer f_l_source f_l_draw f_l_made f_l_plus f_l_times f_l_over f_l_below f_l_some f_l_stall f_l_stalls f_l_piece f_l_pair f_l_same f_l_rule f_l_comes f_l_routes f_l_fair f_l_web f_l_best f_law f_Web_init f_Web_eq c_BadWare c_Web c_NO_STEPS d_is_integer d_is_row d_is_fraction d_is_some d_lowest d_multiplied d_squared d_lies_below d_is_stall d_is_ware d_check_ware d_check_two d_across d_hold_of d_is_index d_check_some d_is_step d_end_of d_is_walk d_check_route d_rule_behind d_rule_of d_out_by d_route_out d_routes_on d_best_route d_l_is_integer d_l_source d_l_draw d_l_made d_l_plus d_l_times d_l_over d_l_below d_l_some d_l_stall d_l_stalls d_l_piece d_l_pair d_l_same d_l_rule d_l_comes d_l_routes d_l_fair d_l_web d_l_best d_law d_Web_init d_Web_eq) : FnOk P w K mg base CX0 2 f_rule_behind d_rule_behind ["rule", "stall", "ware"] (sp_rule_behind K) := by
  have G_hold_of : FnOk P w K mg base CX0 1 f_hold_of d_hold_of ["stall", "ware"] (sp_hold_of K) := ok_hold_of T
  have G_across : FnOk P w K mg base CX0 1 f_across d_across ["stall", "ware"] (sp_across K) := ok_across T
  refine T.F_rule_behind.ok sc_rule_behind (fun vs H Q E h => ?_) (fun cdv A outer sh H vs Q E hr h => ?_)
  · obtain ⟨v, u, x, B, n, wn, s, rfl, _⟩ := h
    rfl
  · obtain ⟨v, u, x, B, n, wn, s, rfl, ⟨p, m, b, l, rfl, hp, tri⟩, hB, hst, ok, bs, hwn, q⟩ := h
    have k0 := hold_pos2 ok wn
    have y0 := hold_pos2 ok (s.other wn)
    have bk := hold_bd2 bs wn
    have by' := hold_bd2 bs (s.other wn)
    have tr2 := tri_step tri k0 y0 bk by'
    refine ⟨_, (pss_cons (ps_asg (pv 0) (pg_tup rfl (pgs_cons (pg_name (i := 3) sc_rule_behind.nd rfl (by first | exact Or.inl rfl | exact Or.inr rfl)) (pgs_cons (pg_name (i := 4) sc_rule_behind.nd rfl (by first | exact Or.inl rfl | exact Or.inr rfl)) (pgs_cons (pg_name (i := 5) sc_rule_behind.nd rfl (by first | exact Or.inl rfl | exact Or.inr rfl)) pgs_nil)))))
      (pss_cons (ps_set (i := 6) sc_rule_behind.nd rfl (by first | exact Or.inl rfl | exact Or.inr rfl) (pe_call G_hold_of (hr.mono (by decide)) (by rfl) T.g_hold_of T.k_hold_of T.b_hold_of .nil pass0 (pa_cons (pv 1) (pa_cons (pv 2) pa_nil))))
      (pss_cons (ps_set (i := 7) sc_rule_behind.nd rfl (by first | exact Or.inl rfl | exact Or.inr rfl) (pe_call G_hold_of (hr.mono (by decide)) (by rfl) T.g_hold_of T.k_hold_of T.b_hold_of .nil pass0 (pa_cons (pv 1) (pa_cons (pe_call G_across (hr.mono (by decide)) (by rfl) T.g_across T.k_across T.b_across .nil pass0 (pa_cons (pv 1) (pa_cons (pv 2) pa_nil))) pa_nil))))
      (pss_one (ps_ret (pe_tup (pa_cons (pe_op op_mulX (pe_op op_mulX (pv 3) (pe_ix ix_tup (pv 7) pe_int (fun _ _ => rfl))) (pe_ix ix_tup (pv 6) pe_int (fun _ _ => rfl))) (pa_cons (pe_op op_mulX (pe_op op_mulX (pv 4) (pe_ix ix_tup (pv 6) pe_int (fun _ _ => rfl))) (pe_ix ix_tup (pv 7) pe_int (fun _ _ => rfl))) (pa_cons (pe_op op_mulX (pe_op op_add (pe_op op_mulX (pv 5) (pe_ix ix_tup (pv 6) pe_int (fun _ _ => rfl))) (pe_op op_mulX (pv 3) (pe_ix ix_tup (pv 6) pe_int (fun _ _ => rfl)))) (pe_ix ix_tup (pv 7) pe_int (fun _ _ => rfl))) pa_nil))))))))), ?_⟩
    walk_at "r"
    refine ⟨_, s, wn, rfl, hst, fun vk ivk => ?_⟩
    walk_at "r"
    refine ⟨_, s, wn, rfl, hst, ?_⟩
    walk_at "r"
    refine ⟨_, s, s.other wn, rfl, hst, fun vy ivy => ?_⟩
    obtain ⟨pk, rfl, hk⟩ := ivk
    obtain ⟨py, rfl, hy⟩ := ivy
    obtain ⟨k1, k2, k3, k4⟩ := bd_int bk k0
    obtain ⟨y1, y2, y3, y4⟩ := bd_int by' y0
    generalize s.hold wn = k at *
    generalize s.hold (s.other wn) = y at *
    have m0 := tri.m0
    have b0 := tri.b0
    have l0 := tri.l0
    have c1 : CMulX m y.num := cm_of (by omega) (by omega) tri.mB y2 (by omega) (by omega)
    have c2 : CMulX (m * y.num) (k.den : Int) := cm_of (Int.mul_nonneg (by omega) (by omega)) (by omega) (lt_mul2 (by omega) (by omega) tri.mB y2) k4 (by omega) (by omega)
    have c3 : CMulX b k.num := cm_of (by omega) (by omega) tri.bB k2 (by omega) (by omega)
    have c4 : CMulX (b * k.num) (y.den : Int) := cm_of (Int.mul_nonneg (by omega) (by omega)) (by omega) (lt_mul2 (by omega) (by omega) tri.bB k2) y4 (by omega) (by omega)
    have c5 : CMulX l k.num := cm_of (by omega) (by omega) tri.lB k2 (by omega) (by omega)
    have c6 : CMulX m (k.den : Int) := cm_of (by omega) (by omega) tri.mB k4 (by omega) (by omega)
    have z5 := Int.mul_nonneg l0 (Int.le_of_lt k1)
    have z6 := Int.mul_nonneg (Int.le_of_lt m0) (Int.le_of_lt k3)
    have c7 : CMulX (l * k.num + m * (k.den : Int)) (y.den : Int) := cm_of (i := B + 21) (by omega) (by omega) (by
      have w1 := lt_mul2 l0 (by omega) tri.lB k2
      have w2 := lt_mul2 (by omega) (by omega) tri.mB k4
      rw [show (2 : Int) ^ (B + 21) = 2 ^ (B + 20) * 2 by rw [show B + 21 = (B + 20) + 1 by omega, Int.pow_succ]]
      generalize (2 : Int) ^ (B + 20) = nn at *
      omega) y4 (by omega) (by omega)
    walk_at "r"
    · intro p1 np1
      exact q _ _ (same_upd np1) ⟨p1, _, _, _, rfl, .new, tr2⟩
    all_goals assumption
def sp_rule_of (K : PySem.W.Frag) (C : Addr) : Sp := fun vs H Q _ => ∃ (x v : V) (n : Nat) (ss : List Stl) (st : List (Nat × Nat)), vs = [x, v] ∧ IsWeb K C H x n ss ∧ IsRt K H v st ∧ Rte ss st ∧ ss.length ≤ 16 ∧ (∀ s ∈ ss, OkSt n s ∧ BdSt 20 s) ∧ ∀ H' u, Same H H' → IsRu K H' u (ruleR ss st) (1 + 41 * st.length) → Q u H'
theorem ok_rule_of (T : Txt K mg f_is_integer f_is_row f_is_fraction f_is_some f_lowest f_multiplied f_squared f_lies_below f_is_stall f_is_ware f_check_ware f_check_two f_across f_hold_of f_is_index f_check_some f_is_step f_end_of f_is_walk f_check_route f_rule_behind f_rule_of f_out_by f_route_out f_routes_on f_best_route f_l_is_integer f_l_source f_l_draw f_l_made f_l_plus f_l_times f_l_over f_l_below f_l_some f_l_stall f_l_stalls f_l_piece f_l_pair f_l_same f_l_rule f_l_comes f_l_routes f_l_fair f_l_web f_l_best f_law f_Web_init f_Web_eq c_BadWare c_Web c_NO_STEPS d_is_integer d_is_row d_is_fraction d_is_some d_lowest d_multiplied d_squared d_lies_below d_is_stall d_is_ware d_check_ware d_check_two d_across d_hold_of d_is_index d_check_some d_is_step d_end_of d_is_walk d_check_route d_rule_behind d_rule_of d_out_by d_route_out d_routes_on d_best_route d_l_is_integer d_l_source d_l_draw d_l_made d_l_plus d_l_times d_l_over d_l_below d_l_some d_l_stall d_l_stalls d_l_piece d_l_pair d_l_same d_l_rule d_l_comes d_l_routes d_l_fair d_l_web d_l_best d_law d_Web_init d_Web_eq) : FnOk P w K mg base CX0 6 f_rule_of d_rule_of ["web", "route"] (sp_rule_of K c_Web) := by
  have G_check_route : FnOk P w K mg base CX0 5 f_check_route d_check_route ["web", "thing"] (sp_check_route K c_Web) := ok_check_route T
  have G_rule_behind : FnOk P w K mg base CX0 2 f_rule_behind d_rule_behind ["rule", "stall", "ware"] (sp_rule_behind K) := ok_rule_behind T
  refine T.F_rule_of.ok sc_rule_of (fun vs H Q E h => ?_) (fun cdv A outer sh H vs Q E hr h => ?_)
  · obtain ⟨x, v, n, ss, st, rfl, _⟩ := h
    rfl
  · obtain ⟨x, v, n, ss, st, rfl, hw, hv, rt, l16, hok, q⟩ := h
    have ln := rt.len
    refine ⟨_, (pss_cons (ps_expr (pe_call G_check_route (hr.mono (by decide)) (by rfl) T.g_check_route T.k_check_route T.b_check_route .nil pass0 (pa_cons (pv 0) (pa_cons (pv 1) pa_nil))))
      (pss_cons (ps_set (i := 2) sc_rule_of.nd rfl (by first | exact Or.inl rfl | exact Or.inr rfl) (pe_glob (v := .ref c_NO_STEPS) (by rfl) T.v_NO_STEPS rfl))
      (pss_cons (ps_for PassesOwn.never rfl (pi_tup (pv 1)) (pg_tup rfl (pgs_cons (pg_name (i := 3) sc_rule_of.nd rfl (by first | exact Or.inl rfl | exact Or.inr rfl)) (pgs_cons (pg_name (i := 4) sc_rule_of.nd rfl (by first | exact Or.inl rfl | exact Or.inr rfl)) pgs_nil)))
        (pss_one (ps_set (i := 2) sc_rule_of.nd rfl (by first | exact Or.inl rfl | exact Or.inr rfl) (pe_call G_rule_behind (hr.mono (by decide)) (by rfl) T.g_rule_behind T.k_rule_behind T.b_rule_behind .nil pass0 (pa_cons (pv 2) (pa_cons (pe_ix ix_tup (pe_fld (pv 0) rfl) (pv 3) (fun _ _ => rfl)) (pa_cons (pv 4) pa_nil)))))))
      (pss_one (ps_ret (pv 2)))))), ?_⟩
    walk_at "r"
    refine ⟨x, v, n, ss, st, rfl, hw, hv, rt, l16, fun H1 s1 => ?_⟩
    obtain ⟨px, dx, t, xs, rfl, hp, ht, hss⟩ := hw.same s1
    obtain ⟨tw, vw, rfl, htw, hpw⟩ := hv.same s1
    have lw := Paired.length hpw
    walk_at "r"
    refine ⟨⟨_, .of htw⟩, ?_⟩
    refine for_tup (K := K) (a := tw) (xs := vw) (fun i σ H' => ∃ (vr : V) (t3 t4 : Option V), σ = [some (.ref px), some (.ref tw), some vr, t3, t4] ∧ Same H1 H' ∧ IsRu K H' vr (ruleR ss (st.take i)) (1 + 41 * i)) ?_ ?_ ?_ ?_
    · exact ⟨_, _, _, rfl, Same.refl _, ⟨_, _, _, _, rfl, .inr T.t_NO_STEPS, tri_one⟩⟩
    · rintro i σ H' _ ⟨vr, t3, t4, rfl, s2, _⟩
      exact .of (s2 _ _ htw)
    · rintro i z σ H' hx ⟨vr, t3, t4, rfl, s2, ir⟩
      have hil := (List.getElem?_eq_some_iff.mp hx).1
      obtain ⟨⟨ix, wn⟩, hpi, pq, rfl, hpq⟩ := Paired.at hpw hx
      obtain ⟨s, hs, hwn⟩ := rt.mem _ (List.mem_of_getElem? hpi)
      obtain ⟨zs, hzs, izs⟩ := hss.get hs
      have hpq2 := s2 _ _ hpq
      walk_at "r"
      refine ⟨_, _, _, _, _, rfl, s2 _ _ hp, T.w_Web.it.cl, T.n_Web_stalls, wF_stalls _ _, ?_⟩
      walk_at "r"
      refine rd_ixT (s2 _ _ ht) (at_some hzs) ?_
      walk_at "r"
      refine ⟨_, _, _, _, n, wn, s, rfl, ir, by omega, izs.same s2, (hok s (List.mem_of_getElem? hs)).1, (hok s (List.mem_of_getElem? hs)).2, hwn, fun H3 z3 s3 h3 => ?_⟩
      walk_at "r"
      refine ⟨_, _, _, rfl, s2.trans s3, ?_⟩
      rw [ruleR_take hpi hs]
      exact h3
    · rintro σ H' ⟨vr, t3, t4, rfl, s2, ir⟩
      rw [lw, List.take_length] at ir
      walk_at "r"
      exact q _ _ (s1.trans s2) ir
def sp_out_by (K : PySem.W.Frag) : Sp := fun vs H Q _ => ∃ (v u : V) (x : Rat × Rat) (B : Nat) (a : Rat), vs = [v, u] ∧ IsRu K H v x B ∧ B ≤ 700 ∧ IsF K H u a ∧ 0 < a ∧ Bd 1500 a ∧ ∀ H' p (n d : Int), Same H H' → H' p = some (.tup [.int n, .int d]) → 0 < n ∧ 0 < d ∧ n < 2 ^ 2201 ∧ d < 2 ^ 2201 ∧ Rat.divInt n d = comes x a → Q (.ref p) H'
theorem ok_out_by (T : Txt K mg f_is_integer f_is_row f_is_fraction f_is_some f_lowest f_multiplied f_squared f_lies_below f_is_stall f_is_ware f_check_ware f_check_two f_across f_hold_of f_is_index f_check_some f_is_step f_end_of f_is_walk f_check_route f_rule_behind f_rule_of f_out_by f_route_out f_routes_on f_best_route f_l_is_integer f_l_source f_l_draw f_l_made f_l_plus f_l_times f_l_over f_l_below f_l_some f_l_stall f_l_stalls f_l_piece f_l_pair f_l_same f_l_rule f_l_comes f_l_routes f_l_fair f_l_web f_l_best f_law f_Web_init f_Web_eq c_BadWare c_Web c_NO_STEPS d_is_integer d_is_row d_is_fraction d_is_some d_lowest d_multiplied d_squared d_lies_below d_is_stall d_is_ware d_check_ware d_check_two d_across d_hold_of d_is_index d_check_some d_is_step d_end_of d_is_walk d_check_route d_rule_behind d_rule_of d_out_by d_route_out d_routes_on d_best_route d_l_is_integer d_l_source d_l_draw d_l_made d_l_plus d_l_times d_l_over d_l_below d_l_some d_l_stall d_l_stalls d_l_piece d_l_pair d_l_same d_l_rule d_l_comes d_l_routes d_l_fair d_l_web d_l_best d_law d_Web_init d_Web_eq) : FnOk P w K mg base CX0 1 f_out_by d_out_by ["rule", "amount"] (sp_out_by K) := by
  refine T.F_out_by.ok sc_out_by (fun vs H Q E h => ?_) (fun cdv A outer sh H vs Q E hr h => ?_)
  · obtain ⟨v, u, x, B, a, rfl, _⟩ := h
    rfl
  · obtain ⟨v, u, x, B, a, rfl, ⟨p, m, b, l, rfl, hp, tri⟩, hB, ⟨pa, rfl, ha⟩, a0, ba, q⟩ := h
    obtain ⟨a1, a2, a3, a4⟩ := bd_int ba a0
    have e := tri_out tri a0
    have tri := tri.mono hB
    have m0 := tri.m0
    have b0 := tri.b0
    have l0 := tri.l0
    have c1 : CMulX m a.num := cm_of (by omega) (by omega) tri.mB a2 (by decide) (by decide)
    have c2 : CMulX b (a.den : Int) := cm_of (by omega) (by omega) tri.bB a4 (by decide) (by decide)
    have c3 : CMulX l a.num := cm_of (by omega) (by omega) tri.lB a2 (by decide) (by decide)
    have z1 := Int.mul_pos m0 a1
    have z2 := Int.mul_pos b0 a3
    have z3 := Int.mul_nonneg l0 (Int.le_of_lt a1)
    have w1 := lt_mul2 (by omega) (by omega) tri.mB a2
    have w2 := lt_mul2 (by omega) (by omega) tri.bB a4
    have w3 := lt_mul2 l0 (by omega) tri.lB a2
    have e5 : (2 : Int) ^ 2201 = 2 ^ (700 + 1500) * 2 := by rw [show 2201 = (700 + 1500) + 1 by omega, Int.pow_succ]
    refine ⟨_, (pss_cons (ps_asg (pv 0) (pg_tup rfl (pgs_cons (pg_name (i := 2) sc_out_by.nd rfl (by first | exact Or.inl rfl | exact Or.inr rfl)) (pgs_cons (pg_name (i := 3) sc_out_by.nd rfl (by first | exact Or.inl rfl | exact Or.inr rfl)) (pgs_cons (pg_name (i := 4) sc_out_by.nd rfl (by first | exact Or.inl rfl | exact Or.inr rfl)) pgs_nil)))))
      (pss_one (ps_ret (pe_tup (pa_cons (pe_op op_mulX (pv 2) (pe_ix ix_tup (pv 1) pe_int (fun _ _ => rfl))) (pa_cons (pe_op op_add (pe_op op_mulX (pv 3) (pe_ix ix_tup (pv 1) pe_int (fun _ _ => rfl))) (pe_op op_mulX (pv 4) (pe_ix ix_tup (pv 1) pe_int (fun _ _ => rfl)))) pa_nil)))))), ?_⟩
    walk_at "r"
    · intro p1 np1
      refine q _ p1 _ _ (same_upd np1) upd_same ⟨z1, by omega, ?_, ?_, e⟩
      · rw [e5]
        generalize (2 : Int) ^ (700 + 1500) = nn at *
        omega
      · rw [e5]
        generalize (2 : Int) ^ (700 + 1500) = nn at *
        omega
    all_goals assumption
def sp_route_rule (K : PySem.W.Frag) (C : Addr) : Sp := fun vs H Q _ => ∃ (x v : V) (n : Nat) (ss : List Stl) (st : List (Nat × Nat)), vs = [x, v] ∧ IsWeb K C H x n ss ∧ IsRt K H v st ∧ Rte ss st ∧ ss.length ≤ 16 ∧ (∀ s ∈ ss, OkSt n s ∧ BdSt 20 s) ∧ ∀ H' p v1 v2, Same H H' → H' p = some (.tup [v1, v2]) → IsF K H' v1 (ruleR ss st).1 → IsF K H' v2 (ruleR ss st).2 → Q (.ref p) H'
def sp_route_out (K : PySem.W.Frag) (C : Addr) : Sp := fun vs H Q _ => ∃ (x v u : V) (n : Nat) (ss : List Stl) (st : List (Nat × Nat)) (a : Rat), vs = [x, v, u] ∧ IsWeb K C H x n ss ∧ IsRt K H v st ∧ Rte ss st ∧ ss.length ≤ 16 ∧ (∀ s ∈ ss, OkSt n s ∧ BdSt 20 s) ∧ IsF K H u a ∧ 0 < a ∧ Bd 1500 a ∧ ∀ H' z, Same H H' → IsF K H' z (comes (ruleR ss st) a) → Q z H'
theorem ok_route_out (T : Txt K mg f_is_integer f_is_row f_is_fraction f_is_some f_lowest f_multiplied f_squared f_lies_below f_is_stall f_is_ware f_check_ware f_check_two f_across f_hold_of f_is_index f_check_some f_is_step f_end_of f_is_walk f_check_route f_rule_behind f_rule_of f_out_by f_route_out f_routes_on f_best_route f_l_is_integer f_l_source f_l_draw f_l_made f_l_plus f_l_times f_l_over f_l_below f_l_some f_l_stall f_l_stalls f_l_piece f_l_pair f_l_same f_l_rule f_l_comes f_l_routes f_l_fair f_l_web f_l_best f_law f_Web_init f_Web_eq c_BadWare c_Web c_NO_STEPS d_is_integer d_is_row d_is_fraction d_is_some d_lowest d_multiplied d_squared d_lies_below d_is_stall d_is_ware d_check_ware d_check_two d_across d_hold_of d_is_index d_check_some d_is_step d_end_of d_is_walk d_check_route d_rule_behind d_rule_of d_out_by d_route_out d_routes_on d_best_route d_l_is_integer d_l_source d_l_draw d_l_made d_l_plus d_l_times d_l_over d_l_below d_l_some d_l_stall d_l_stalls d_l_piece d_l_pair d_l_same d_l_rule d_l_comes d_l_routes d_l_fair d_l_web d_l_best d_law d_Web_init d_Web_eq) : FnOk P w K mg base CX0 7 f_route_out d_route_out ["web", "route", "amount"] (sp_route_out K c_Web) := by
  have G_rule_of : FnOk P w K mg base CX0 6 f_rule_of d_rule_of ["web", "route"] (sp_rule_of K c_Web) := ok_rule_of T
  have G_check_some : FnOk P w K mg base CX0 4 f_check_some d_check_some ["amount"] (sp_check_some K) := ok_check_some T
  have G_out_by : FnOk P w K mg base CX0 1 f_out_by d_out_by ["rule", "amount"] (sp_out_by K) := ok_out_by T
  have G_lowest : FnOk P w K mg base CX0 1 f_lowest d_lowest ["top", "bottom"] (sp_lowest K) := ok_lowest T
  refine T.F_route_out.ok sc_route_out (fun vs H Q E h => ?_) (fun cdv A outer sh H vs Q E hr h => ?_)
  · obtain ⟨x, v, u, n, ss, st, a, rfl, _⟩ := h
    rfl
  · obtain ⟨x, v, u, n, ss, st, a, rfl, hw, hv, rt, l16, hok, hu, a0, ba, q⟩ := h
    have ln := rt.len
    refine ⟨_, (pss_cons (ps_set (i := 3) sc_route_out.nd rfl (by first | exact Or.inl rfl | exact Or.inr rfl) (pe_call G_rule_of (hr.mono (by decide)) (by rfl) T.g_rule_of T.k_rule_of T.b_rule_of .nil pass0 (pa_cons (pv 0) (pa_cons (pv 1) pa_nil))))
      (pss_cons (ps_expr (pe_call G_check_some (hr.mono (by decide)) (by rfl) T.g_check_some T.k_check_some T.b_check_some .nil pass0 (pa_cons (pv 2) pa_nil)))
      (pss_cons (ps_asg (pe_call G_out_by (hr.mono (by decide)) (by rfl) T.g_out_by T.k_out_by T.b_out_by .nil pass0 (pa_cons (pv 3) (pa_cons (pv 2) pa_nil))) (pg_tup rfl (pgs_cons (pg_name (i := 4) sc_route_out.nd rfl (by first | exact Or.inl rfl | exact Or.inr rfl)) (pgs_cons (pg_name (i := 5) sc_route_out.nd rfl (by first | exact Or.inl rfl | exact Or.inr rfl)) pgs_nil))))
      (pss_one (ps_ret (pe_call G_lowest (hr.mono (by decide)) (by rfl) T.g_lowest T.k_lowest T.b_lowest .nil pass0 (pa_cons (pv 4) (pa_cons (pv 5) pa_nil)))))))), ?_⟩
    walk_at "r"
    refine ⟨x, v, n, ss, st, rfl, hw, hv, rt, l16, hok, fun H1 u1 s1 h1 => ?_⟩
    walk_at "r"
    refine ⟨u, a, rfl, hu.same s1, a0, ?_⟩
    walk_at "r"
    refine ⟨u1, u, _, _, a, rfl, h1, by omega, hu.same s1, a0, ba, fun H2 p nn d s2 hp ⟨n0, d0, nb, db, e⟩ => ?_⟩
    walk_at "r"
    refine ⟨nn, d, rfl, d0, Nat.lt_of_lt_of_le (na_lt (Int.le_of_lt d0) db) (Nat.pow_le_pow_right (by decide) (by decide)), fun H3 v3 s3 h3 => ?_⟩
    rw [e] at h3
    exact q _ _ ((s1.trans s2).trans s3) h3
end
end My
namespace My
open PySem PySem.Spec PyProof.Rows L2
variable {K : PySem.W.Frag}
/-! ### what comes out of a stall, and of the stalls of a route one by one -/
theorem out_is {n : Nat} {s : Stl} (ok : OkSt n s) {w : Nat} (hw : w = s.u ∨ w = s.v) {y : Rat} (y0 : 0 < y) : s.out (s.behind w y) w = s.hold (s.other w) * y / (s.hold w + y) := by
  have a0 := ok.a
  have b0 := ok.b
  have e := ok.e
  have ne := ok.ne
  rcases hw with rfl | rfl
  · have p : s.a + y ≠ 0 := ne_of_pos (by grind)
    rw [show s.other s.u = s.v from if_pos rfl, show s.hold s.u = s.a from if_pos rfl, show s.hold s.v = s.b from if_neg (fun z => ne z.symm)]
    unfold Stl.out Stl.behind
    rw [if_pos rfl, if_pos rfl]
    show s.b - s.r * s.r / (s.a + y) = _
    rw [← e]
    grind
  · have p : s.b + y ≠ 0 := ne_of_pos (by grind)
    have nu : ¬ s.v = s.u := fun z => ne z.symm
    rw [show s.other s.v = s.u from if_neg nu, show s.hold s.u = s.a from if_pos rfl, show s.hold s.v = s.b from if_neg nu]
    unfold Stl.out Stl.behind
    rw [if_neg nu, if_neg nu]
    show s.a - s.r * s.r / (s.b + y) = _
    rw [← e]
    grind
theorem rule_pos {n : Nat} {ss : List Stl} {st : List (Nat × Nat)} (hok : ∀ s ∈ ss, OkSt n s) : 0 < (ruleR ss st).1 ∧ 0 ≤ (ruleR ss st).2 := by
  unfold ruleR
  have key : ∀ (l : List (Nat × Nat)) (x : Rat × Rat), 0 < x.1 → 0 ≤ x.2 → 0 < (l.foldl (fun x p => match ss[p.1]? with | some s => stepR x s p.2 | none => x) x).1 ∧ 0 ≤ (l.foldl (fun x p => match ss[p.1]? with | some s => stepR x s p.2 | none => x) x).2 := by
    intro l
    induction l with
    | nil => exact fun x h1 h2 => ⟨h1, h2⟩
    | cons p l ih =>
      intro x h1 h2
      rw [List.foldl_cons]
      refine ih _ ?_ ?_ <;> cases hs : ss[p.1]? with
      | none => assumption
      | some s =>
        have ok := hok s (List.mem_of_getElem? hs)
        have k0 := hold_pos2 ok p.2
        have y0 := hold_pos2 ok (s.other p.2)
        first
          | exact div_pos' (Rat.mul_pos h1 y0) k0
          | exact Rat.add_nonneg h2 (Rat.le_of_lt (div_pos' h1 k0))
  exact key st (1, 0) (by decide) (by decide)
theorem comes_pos {x : Rat × Rat} (h1 : 0 < x.1) (h2 : 0 ≤ x.2) {a : Rat} (a0 : 0 < a) : 0 < comes x a := by
  have z : 0 ≤ x.2 * a := Rat.mul_nonneg h2 (Rat.le_of_lt a0)
  exact div_pos' (Rat.mul_pos h1 a0) (by grind)
theorem comes_step {n : Nat} {s : Stl} (ok : OkSt n s) {w : Nat} (hw : w = s.u ∨ w = s.v) {x : Rat × Rat} (h1 : 0 < x.1) (h2 : 0 ≤ x.2) {a : Rat} (a0 : 0 < a) : s.out (s.behind w (comes x a)) w = comes (stepR x s w) a := by
  rw [out_is ok hw (comes_pos h1 h2 a0)]
  have k0 := hold_pos2 ok w
  have z : 0 ≤ x.2 * a := Rat.mul_nonneg h2 (Rat.le_of_lt a0)
  have d0 : (1 : Rat) + x.2 * a ≠ 0 := ne_of_pos (by grind)
  have kn := ne_of_pos k0
  have z2 := Rat.mul_pos h1 a0
  have z3 : 0 ≤ s.hold w * (x.2 * a) := Rat.mul_nonneg (Rat.le_of_lt k0) z
  unfold comes stepR
  generalize s.hold w = k at *
  generalize s.hold (s.other w) = y at *
  show y * (x.1 * a / (1 + x.2 * a)) / (k + x.1 * a / (1 + x.2 * a)) = x.1 * y / k * a / (1 + (x.2 + x.1 / k) * a)
  have e0 : k * (1 + x.2 * a) + x.1 * a ≠ 0 := ne_of_pos (by grind)
  have e1 : k + x.1 * a / (1 + x.2 * a) = (k * (1 + x.2 * a) + x.1 * a) / (1 + x.2 * a) := by grind
  have e2 : 1 + (x.2 + x.1 / k) * a = (k * (1 + x.2 * a) + x.1 * a) / k := by grind
  rw [e1, e2]
  generalize k * (1 + x.2 * a) + x.1 * a = N at *
  generalize 1 + x.2 * a = M at *
  have inv0 : ∀ {t : Rat}, t ≠ 0 → t⁻¹ ≠ 0 := fun h w => by
    have := Rat.mul_inv_cancel _ h
    rw [w, Rat.mul_zero] at this
    exact absurd this (by decide)
  have q1 : N * M⁻¹ ≠ 0 := fun z => (Rat.mul_eq_zero.mp z).elim e0 (inv0 d0)
  have q2 : N * k⁻¹ ≠ 0 := fun z => (Rat.mul_eq_zero.mp z).elim e0 (inv0 kn)
  clear e1 e2 z z2 z3 h2
  grind
/-- the bounds of what comes out -/
theorem tri_all {n : Nat} {ss : List Stl} (hok : ∀ s ∈ ss, OkSt n s ∧ BdSt 20 s) {st : List (Nat × Nat)} (hm : ∀ p ∈ st, ∃ s, ss[p.1]? = some s ∧ (p.2 = s.u ∨ p.2 = s.v)) : ∀ i, i ≤ st.length → ∃ m b l, Tri (1 + 41 * i) (ruleR ss (st.take i)) m b l := by
  intro i
  induction i with
  | zero => exact fun _ => ⟨1, 1, 0, tri_one⟩
  | succ i ih =>
    intro hi
    obtain ⟨m, b, l, h⟩ := ih (by omega)
    have hp : st[i]? = some (st[i]'(by omega)) := List.getElem?_eq_getElem (by omega)
    obtain ⟨s, hs, hw⟩ := hm _ (List.mem_of_getElem? hp)
    obtain ⟨ok, bs⟩ := hok s (List.mem_of_getElem? hs)
    rw [ruleR_take hp hs]
    exact ⟨_, _, _, tri_step h (hold_pos2 ok _) (hold_pos2 ok _) (hold_bd2 bs _) (hold_bd2 bs _)⟩
theorem comes_bd {B k : Nat} {x : Rat × Rat} {m b l : Int} (h : Tri B x m b l) {a : Rat} (a0 : 0 < a) (ba : Bd k a) : Bd (B + k + 1) (comes x a) := by
  rw [← tri_out h a0]
  obtain ⟨a1, a2, a3, a4⟩ := bd_int ba a0
  have m0 := h.m0
  have b0 := h.b0
  have l0 := h.l0
  have z1 := Int.mul_pos m0 a1
  have z2 := Int.mul_pos b0 a3
  have z3 := Int.mul_nonneg l0 (Int.le_of_lt a1)
  have w1 := lt_mul2 (by omega) (by omega) h.mB a2
  have w2 := lt_mul2 (by omega) (by omega) h.bB a4
  have w3 := lt_mul2 l0 (by omega) h.lB a2
  have e5 : (2 : Int) ^ (B + k + 1) = 2 ^ (B + k) * 2 := Int.pow_succ ..
  refine Bd.divInt (by omega) (na_lt (by omega) ?_) (na_lt (by omega) ?_)
  · rw [e5]
    generalize (2 : Int) ^ (B + k) = nn at *
    omega
  · rw [e5]
    generalize (2 : Int) ^ (B + k) = nn at *
    omega
/-- the moves of a route -/
def mvR (ss : List Stl) (st : List (Nat × Nat)) (a : Rat) (i : Nat) : Mv := ⟨(st.getD i (0, 0)).1, (st.getD i (0, 0)).2, comes (ruleR ss (st.take i)) a⟩
def mvsR (ss : List Stl) (st : List (Nat × Nat)) (a : Rat) (k : Nat) : List Mv := (List.range k).map (mvR ss st a)
theorem mvsR_succ (ss : List Stl) (st : List (Nat × Nat)) (a : Rat) (k : Nat) : mvsR ss st a (k + 1) = mvsR ss st a k ++ [mvR ss st a k] := by
  unfold mvsR
  rw [List.range_succ, List.map_append]
  rfl
theorem comes_zero (ss : List Stl) (st : List (Nat × Nat)) (a : Rat) : comes (ruleR ss (st.take 0)) a = a := by
  show (1 : Rat) * a / (1 + 0 * a) = a
  rw [Rat.one_mul, Rat.zero_mul, Rat.add_zero, Rat.div_def, show ((1 : Rat))⁻¹ = 1 from by decide +kernel, Rat.mul_one]
section
variable {P : Program} {w : World} {K : PySem.W.Frag} {mg : Str → Option Value} {base : Heap} {f_is_integer f_is_row f_is_fraction f_is_some f_lowest f_multiplied f_squared f_lies_below f_is_stall f_is_ware f_check_ware f_check_two f_across f_hold_of f_is_index f_check_some f_is_step f_end_of f_is_walk f_check_route f_rule_behind f_rule_of f_out_by f_route_out f_routes_on f_best_route f_l_is_integer f_l_source f_l_draw f_l_made f_l_plus f_l_times f_l_over f_l_below f_l_some f_l_stall f_l_stalls f_l_piece f_l_pair f_l_same f_l_rule f_l_comes f_l_routes f_l_fair f_l_web f_l_best f_law f_Web_init f_Web_eq c_BadWare c_Web c_NO_STEPS : Addr} {d_is_integer d_is_row d_is_fraction d_is_some d_lowest d_multiplied d_squared d_lies_below d_is_stall d_is_ware d_check_ware d_check_two d_across d_hold_of d_is_index d_check_some d_is_step d_end_of d_is_walk d_check_route d_rule_behind d_rule_of d_out_by d_route_out d_routes_on d_best_route d_l_is_integer d_l_source d_l_draw d_l_made d_l_plus d_l_times d_l_over d_l_below d_l_some d_l_stall d_l_stalls d_l_piece d_l_pair d_l_same d_l_rule d_l_comes d_l_routes d_l_fair d_l_web d_l_best d_law d_Web_init d_Web_eq : FuncData}
def sp_route_deal (K : PySem.W.Frag) (C : Addr) : Sp := fun vs H Q _ => ∃ (x v u : V) (n : Nat) (ss : List Stl) (st : List (Nat × Nat)) (a : Rat), vs = [x, v, u] ∧ IsWeb K C H x n ss ∧ IsRt K H v st ∧ Rte ss st ∧ 1 ≤ n ∧ n ≤ 8 ∧ ss.length ≤ 16 ∧ (∀ s ∈ ss, OkSt n s ∧ BdSt 20 s) ∧ IsF K H u a ∧ 0 < a ∧ Bd 100 a ∧ ∀ H' L ys, Same H H' → H' L = some (.lst ys) → Paired (IsM K H') ys (mvsR ss st a st.length) → Q (.ref L) H'
end
end My
namespace My
open PySem PySem.Spec PyProof.Rows L2
variable {K : PySem.W.Frag}
theorem ten6e : (10 : Int) ^ (6 : Int).toNat = 1000000 := by decide
theorem rat_pos {r : Rat} (h : 0 < r.num) : 0 < r := by
  rw [Rat.lt_iff]
  simpa using h
theorem divInt_pos {t b : Int} (ht : 0 < t) (hb : 0 < b) : 0 < Rat.divInt t b := by
  have h := (rat_cross (n := t) (d := b) (r := Rat.divInt t b) (by omega)).mp rfl
  have hd := den_pos (Rat.divInt t b)
  have h2 : 0 < t * ((Rat.divInt t b).den : Int) := Int.mul_pos ht hd
  rw [h] at h2
  refine rat_pos ?_
  exact Int.pos_of_mul_pos_left h2 hb
theorem divInt_mul' (r t : Rat) : Rat.divInt (r.num * t.num) ((r.den : Int) * t.den) = r * t := by
  rw [← Rat.divInt_mul_divInt, Rat.num_divInt_den, Rat.num_divInt_den]
theorem mul_lt' {a b : Int} {k l : Nat} (h1 : a.natAbs < 2 ^ k) (h2 : b.natAbs < 2 ^ l) : (a * b).natAbs < 2 ^ (k + l) := by
  rw [Int.natAbs_mul]
  exact nat_mul_lt h1 h2
theorem back_root (r f : Rat) (hf : 0 < f) : r * f * Rat.divInt (r.num * f.den) (r.den * f.num) = r * r := by
  have h0 : f.num * f.den ≠ 0 := Int.ne_of_gt (Int.mul_pos (num_pos' hf) (den_pos f))
  rw [← divInt_mul' r f, ← divInt_mul' r r, Rat.divInt_mul_divInt]
  rw [show r.num * f.num * (r.num * f.den) = r.num * r.num * (f.num * f.den) by grind, show (r.den : Int) * f.den * (r.den * f.num) = (r.den : Int) * r.den * (f.num * f.den) by grind]
  exact Rat.divInt_mul_right h0
theorem add_divInt (r t : Rat) : Rat.divInt (r.num * t.den + t.num * r.den) ((r.den : Int) * t.den) = r + t := by
  have h1 := den_pos r
  have h2 := den_pos t
  rw [← Rat.divInt_add_divInt r.num t.num (by omega) (by omega), Rat.num_divInt_den, Rat.num_divInt_den]
theorem sub_divInt (r t : Rat) : Rat.divInt (r.num * t.den - t.num * r.den) ((r.den : Int) * t.den) = r - t := by
  have h1 := den_pos r
  have h2 := den_pos t
  rw [Rat.sub_eq_add_neg, ← add_divInt r (-t)]
  show _ = Rat.divInt (r.num * t.den + -t.num * r.den) _
  rw [Int.neg_mul, ← Int.sub_eq_add_neg]
  rfl
end My
namespace My
open PySem PySem.Spec PyProof.Rows L2
variable {K : PySem.W.Frag}
theorem divInt_ge {t b : Int} (ht : 0 ≤ t) (hb : 0 < b) : 0 ≤ Rat.divInt t b := by
  rcases Int.lt_or_eq_of_le ht with h | h
  · exact Rat.le_of_lt (divInt_pos h hb)
  · rw [← h, Rat.zero_divInt]
    exact Rat.le_refl
theorem has_at {n : Nat} {rs : List Rat} {ss tt : List Stl} {w : Nat} (h : w < n) : (hasAt n rs ss tt).getD w 0 = rs.getD w 0 + (heldAt ss w - heldAt tt w) := by
  unfold hasAt
  rw [List.getD_eq_getElem?_getD, List.getElem?_map, List.getElem?_range h]
  rfl
end My
namespace My
open PySem PySem.Spec PyProof.Rows L2
variable {K : PySem.W.Frag}
theorem rd_par {i j : Nat} {ta : TA} {D : Ends} {σ : L2.St} {H : Hp} (h : ta σ H fun vs H1 => ∃ v w, vs = [v, w] ∧ D.nx ((σ.set i (some v)).set j (some w)) H1) : tPar i j ta D σ H := h
/-! ### the law's source of numbers -/
def Src (M : Nat) (D : Addr) (H : Hp) (c : Nat) : Prop := ∃ s0 s1 s2 s3 s4 : Int, H D = some (.lst [.int s0, .int s1, .int s2, .int s3, .int s4]) ∧ (0 ≤ s0 ∧ s0.natAbs < 2 ^ M) ∧ (0 ≤ s1 ∧ s1 < 2147483648) ∧ (0 ≤ s2 ∧ s2 < 2147483648) ∧ (0 ≤ s3 ∧ s3 ≤ 64) ∧ 0 ≤ s4 ∧ s4 ≤ c
theorem Src.same {M c : Nat} {D : Addr} {H H' : Hp} (d : Src M D H c) (s : Same H H') : Src M D H' c := by
  obtain ⟨s0, s1, s2, s3, s4, h, r⟩ := d
  exact ⟨s0, s1, s2, s3, s4, s _ _ h, r⟩
theorem Src.mono {M c c' : Nat} {D : Addr} {H : Hp} (d : Src M D H c) (h : c ≤ c') : Src M D H c' := by
  obtain ⟨s0, s1, s2, s3, s4, h0, h1, h2, h3, h4, h5, h6⟩ := d
  exact ⟨s0, s1, s2, s3, s4, h0, h1, h2, h3, h4, h5, by omega⟩
theorem Src.ne {M c : Nat} {D p : Addr} {H : Hp} (d : Src M D H c) (h : H p = none) : p ≠ D := by
  obtain ⟨s0, s1, s2, s3, s4, h0, _⟩ := d
  exact (ne_of_none h0 h).symm
theorem Src.put {M c : Nat} {D p : Addr} {H : Hp} {o : HO} (d : Src M D H c) (n : p ≠ D) : Src M D (upd H p o) c := by
  obtain ⟨s0, s1, s2, s3, s4, h0, r⟩ := d
  exact ⟨s0, s1, s2, s3, s4, (upd_ne (Ne.symm n)).trans h0, r⟩
theorem Src.tps {M c : Nat} {D : Addr} {H H' : Hp} (d : Src M D H c) (f : Fw D H H') : Tps H H' := fun b xs h => by
  obtain ⟨s0, s1, s2, s3, s4, h0, r⟩ := d
  exact f _ _ (fun z => by
    rw [z, h0] at h
    cases h) h
section
variable {P : Program} {w : World} {K : PySem.W.Frag} {mg : Str → Option Value} {base : Heap} {f_is_integer f_is_row f_is_fraction f_is_some f_lowest f_multiplied f_squared f_lies_below f_is_stall f_is_ware f_check_ware f_check_two f_across f_hold_of f_is_index f_check_some f_is_step f_end_of f_is_walk f_check_route f_rule_behind f_rule_of f_out_by f_route_out f_routes_on f_best_route f_l_is_integer f_l_source f_l_draw f_l_made f_l_plus f_l_times f_l_over f_l_below f_l_some f_l_stall f_l_stalls f_l_piece f_l_pair f_l_same f_l_rule f_l_comes f_l_routes f_l_fair f_l_web f_l_best f_law f_Web_init f_Web_eq c_BadWare c_Web c_NO_STEPS : Addr} {d_is_integer d_is_row d_is_fraction d_is_some d_lowest d_multiplied d_squared d_lies_below d_is_stall d_is_ware d_check_ware d_check_two d_across d_hold_of d_is_index d_check_some d_is_step d_end_of d_is_walk d_check_route d_rule_behind d_rule_of d_out_by d_route_out d_routes_on d_best_route d_l_is_integer d_l_source d_l_draw d_l_made d_l_plus d_l_times d_l_over d_l_below d_l_some d_l_stall d_l_stalls d_l_piece d_l_pair d_l_same d_l_rule d_l_comes d_l_routes d_l_fair d_l_web d_l_best d_law d_Web_init d_Web_eq : FuncData}
def sp_source (K : PySem.W.Frag) : Sp := fun vs H Q _ => ∃ (a : Addr) (ns : List Int) (k : Nat), vs = [.ref a, .int (k : Nat)] ∧ SqL K H a (ns.map V.int) ∧ ns.length ≤ 63 ∧ (∀ z ∈ ns, Builtin.Int.intBits z ≤ 1048576) ∧ k ≤ 60 ∧
  ∀ H' D, Same H H' → H D = none → Src 1048576 D H' 0 → Q (.ref D) H'
theorem ok_l_source (T : Txt K mg f_is_integer f_is_row f_is_fraction f_is_some f_lowest f_multiplied f_squared f_lies_below f_is_stall f_is_ware f_check_ware f_check_two f_across f_hold_of f_is_index f_check_some f_is_step f_end_of f_is_walk f_check_route f_rule_behind f_rule_of f_out_by f_route_out f_routes_on f_best_route f_l_is_integer f_l_source f_l_draw f_l_made f_l_plus f_l_times f_l_over f_l_below f_l_some f_l_stall f_l_stalls f_l_piece f_l_pair f_l_same f_l_rule f_l_comes f_l_routes f_l_fair f_l_web f_l_best f_law f_Web_init f_Web_eq c_BadWare c_Web c_NO_STEPS d_is_integer d_is_row d_is_fraction d_is_some d_lowest d_multiplied d_squared d_lies_below d_is_stall d_is_ware d_check_ware d_check_two d_across d_hold_of d_is_index d_check_some d_is_step d_end_of d_is_walk d_check_route d_rule_behind d_rule_of d_out_by d_route_out d_routes_on d_best_route d_l_is_integer d_l_source d_l_draw d_l_made d_l_plus d_l_times d_l_over d_l_below d_l_some d_l_stall d_l_stalls d_l_piece d_l_pair d_l_same d_l_rule d_l_comes d_l_routes d_l_fair d_l_web d_l_best d_law d_Web_init d_Web_eq) : FnOk P w K mg base CX0 1 f_l_source d_l_source ["_law_script", "_law_k"] (sp_source K) := by
  refine T.F_l_source.ok sc_l_source (fun vs H Q E h => ?_) (fun cdv A outer sh H vs Q E hr h => ?_)
  · obtain ⟨a, ns, k, rfl, _⟩ := h
    rfl
  · obtain ⟨a, ns, k, rfl, hS, hl, hb, hk, q⟩ := h
    have hlen : (ns.map V.int).length = ns.length := List.length_map ..
    refine ⟨_, (pss_cons (ps_set (i := 2) sc_l_source.nd rfl (by first | exact Or.inl rfl | exact Or.inr rfl) pe_int)
      (pss_cons (ps_for PassesOwn.never rfl (pi_list (pe_slice sl_list (pv 0) po_none (po_some pe_int))) (pg_name (i := 3) sc_l_source.nd rfl (by first | exact Or.inl rfl | exact Or.inr rfl))
        (pss_one (ps_set (i := 2) sc_l_source.nd rfl (by first | exact Or.inl rfl | exact Or.inr rfl) (pe_op op_mod (pe_callTy call_intN (by rfl) T.z_int (by decide +kernel) (pa_cons (pe_op op_add (pe_op op_add (pe_op op_mulX (pv 2) pe_int) (pe_op op_mod (pe_callTy call_intN (by rfl) T.z_int (by decide +kernel) (pa_cons (pv 3) pa_nil)) pe_int)) pe_int) pa_nil)) pe_int))))
      (pss_cons (ps_set (i := 4) sc_l_source.nd rfl (by first | exact Or.inl rfl | exact Or.inr rfl) (pe_ifExp (pt_cmpR op_lt (pv 1) (pe_callB call_lenN (by rfl) T.z_len (by decide +kernel) (pa_cons (pv 0) pa_nil)) (nomark _)) (pe_callTy call_intN (by rfl) T.z_int (by decide +kernel) (pa_cons (pe_ix ix_list (pv 0) (pv 1) (fun _ _ => rfl)) pa_nil)) pe_int))
      (pss_one (ps_ret (pe_lst (pa_cons (pe_ifExp (pt_cmpR op_ge (pv 4) (pe_op op_pow pe_int pe_int) (nomark _)) (pv 4) pe_int) (pa_cons (pe_op op_mod (pe_callTy call_intN (by rfl) T.z_int (by decide +kernel) (pa_cons (pv 4) pa_nil)) pe_int) (pa_cons (pv 2) (pa_cons (pe_op op_add (pv 1) pe_int) (pa_cons pe_int pa_nil))))))))))), ?_⟩
    walk_at "r"
    refine rd_slL hS (fun p np => ?_)
    have s1 := same_upd (o := .lst (cutV (ns.map V.int) none (some 63))) np
    have hcut : cutV (ns.map V.int) none (some 63) = ns.map V.int := cut_all (n := 63) (by rw [hlen]; exact hl)
    have hp : upd H p (.lst (cutV (ns.map V.int) none (some 63))) p = some (.lst (ns.map V.int)) := by rw [hcut]; exact upd_same
    generalize upd H p (.lst (cutV (ns.map V.int) none (some 63))) = H1 at *
    have hS1 := s1.seq hS
    refine ⟨_, rfl, ⟨_, .of hp⟩, ?_⟩
    refine for_list (K := K) (a := p) (xs := ns.map V.int) (fun i σ H' => ∃ (r : Int) (t3 t4 : Option V), σ = [some (.ref a), some (.int (k : Nat)), some (.int r), t3, t4] ∧ H' = H1 ∧ 0 ≤ r ∧ r < 2147483648) ?_ ?_ ?_ ?_
    · exact ⟨_, _, _, rfl, rfl, by omega, by omega⟩
    · rintro i σ H' _ ⟨r, t3, t4, rfl, rfl, _⟩
      exact .of hp
    · rintro i x σ H' hx ⟨r, t3, t4, rfl, rfl, r0, r1⟩
      obtain ⟨z, rfl, hz⟩ : ∃ z, x = .int z ∧ z ∈ ns := by
        rw [List.getElem?_map] at hx
        cases e : ns[i]? with
        | none =>
          rw [e] at hx
          cases hx
        | some z =>
          rw [e] at hx
          exact ⟨z, (Option.some.inj hx).symm, List.mem_of_getElem? e⟩
      walk_at "r"
      · have m := mod_rng (r * 48271 + z % 2147483629 + 1) (m := 2147483647) (by decide)
        exact ⟨_, _, _, rfl, rfl, m.1, by omega⟩
      · exact cmul_small (by omega) (by decide)
    · rintro σ H' ⟨r, t3, t4, rfl, eH, r0, r1⟩
      subst eH
      walk_at "r"
      refine rd_lenS ?_ hS1
      walk_at "r"
      have t18 : (10 : Int) ^ (18 : Int).toNat = 1000000000000000000 := by decide
      have fin : ∀ z : Int, z.natAbs < 2 ^ 1048576 → ∀ (D : Addr) (v0 : Int), (v0 = 0 ∨ (v0 = z ∧ z ≥ 10 ^ (18 : Int).toNat)) → H' D = none → Src 1048576 D (upd H' D (.lst [.int v0, .int (z % 2147483629), .int r, .int ((k : Nat) + 1), .int 0])) 0 := fun z hz D v0 hv nD => by
        have m := mod_rng z (m := 2147483629) (by decide)
        refine ⟨_, _, _, _, _, upd_same, ?_, ⟨m.1, by omega⟩, ⟨r0, r1⟩, by omega, by omega, by omega⟩
        rcases hv with rfl | ⟨rfl, h⟩
        · exact ⟨by omega, Nat.two_pow_pos _⟩
        · rw [t18] at h
          exact ⟨by omega, hz⟩
      walk_at "if"
      · rename_i hlt
        obtain ⟨z, hz, ez⟩ := at_ints (cells := ns) (i := (k : Nat)) (by omega) (by rw [hlen]; omega)
        have bz := bits_lt (hb z hz)
        walk_at "r"
        refine ⟨_, _, _, .int z, rfl, rfl, hS1, ez, ?_⟩
        walk_at "r"
        walk_at "if"
        · rename_i h18
          walk_at "r"
          intro D nD
          exact q _ _ (s1.trans (same_upd nD)) (s1.free nD) (fin z bz D z (.inr ⟨rfl, h18⟩) nD)
        · walk_at "r"
          intro D nD
          exact q _ _ (s1.trans (same_upd nD)) (s1.free nD) (fin z bz D 0 (.inl rfl) nD)
      · walk_at "r"
        intro D nD
        exact q _ _ (s1.trans (same_upd nD)) (s1.free nD) (fin 0 (Nat.two_pow_pos _) D 0 (.inl rfl) nD)
def sp_draw (M : Nat) : Sp := fun vs H Q _ => ∃ (D : Addr) (many : Int) (c : Nat), vs = [.ref D, .int many] ∧ (0 < many ∧ many.natAbs < 2 ^ 64) ∧ Src M D H c ∧ c ≤ 2 ^ 40 ∧
  ∀ H' r, Fw D H H' → Src M D H' (c + 1) → 0 ≤ r → r < many → Q (.int r) H'
theorem ok_l_draw {M : Nat} (hM : 64 ≤ M) (hM2 : M ≤ 1048576) (T : Txt K mg f_is_integer f_is_row f_is_fraction f_is_some f_lowest f_multiplied f_squared f_lies_below f_is_stall f_is_ware f_check_ware f_check_two f_across f_hold_of f_is_index f_check_some f_is_step f_end_of f_is_walk f_check_route f_rule_behind f_rule_of f_out_by f_route_out f_routes_on f_best_route f_l_is_integer f_l_source f_l_draw f_l_made f_l_plus f_l_times f_l_over f_l_below f_l_some f_l_stall f_l_stalls f_l_piece f_l_pair f_l_same f_l_rule f_l_comes f_l_routes f_l_fair f_l_web f_l_best f_law f_Web_init f_Web_eq c_BadWare c_Web c_NO_STEPS d_is_integer d_is_row d_is_fraction d_is_some d_lowest d_multiplied d_squared d_lies_below d_is_stall d_is_ware d_check_ware d_check_two d_across d_hold_of d_is_index d_check_some d_is_step d_end_of d_is_walk d_check_route d_rule_behind d_rule_of d_out_by d_route_out d_routes_on d_best_route d_l_is_integer d_l_source d_l_draw d_l_made d_l_plus d_l_times d_l_over d_l_below d_l_some d_l_stall d_l_stalls d_l_piece d_l_pair d_l_same d_l_rule d_l_comes d_l_routes d_l_fair d_l_web d_l_best d_law d_Web_init d_Web_eq) : FnOk P w K mg base CX0 1 f_l_draw d_l_draw ["_law_source_here", "_law_many"] (sp_draw M) := by
  refine T.F_l_draw.ok sc_l_draw (fun vs H Q E h => ?_) (fun cdv A outer sh H vs Q E hr h => ?_)
  · obtain ⟨D, many, c, rfl, _⟩ := h
    rfl
  · obtain ⟨D, many, c, rfl, ⟨hm0, hm1⟩, ⟨s0, s1, s2, s3, s4, hD, ⟨a0, b0⟩, ⟨a1, b1⟩, ⟨a2, b2⟩, ⟨a3, b3⟩, a4, b4⟩, hc, q⟩ := h
    have cd : ∀ i : Int, CDivX i many := fun i => cdivx (by omega) hm1 (by decide)
    refine ⟨_, (pss_cons (ps_if (pt_cmpR op_gt (pe_ix ix_list (pv 0) pe_int (fun _ _ => rfl)) pe_int (nomark _))
        (pss_cons (ps_set (i := 2) sc_l_draw.nd rfl (by first | exact Or.inl rfl | exact Or.inr rfl) (pe_op op_mod (pe_callTy call_intN (by rfl) T.z_int (by decide +kernel) (pa_cons (pe_ix ix_list (pv 0) pe_int (fun _ _ => rfl)) pa_nil)) (pv 1)))
          (pss_cons (ps_asg (pe_op op_fdivX (pe_ix ix_list (pv 0) pe_int (fun _ _ => rfl)) (pv 1)) (pg_sub (pv 0) pe_int set_list))
          (pss_one (ps_ret (pv 2)))))
        pss_nil)
      (pss_cons (ps_asg (pe_op op_add (pe_ix ix_list (pv 0) pe_int (fun _ _ => rfl)) pe_int) (pg_sub (pv 0) pe_int set_list))
      (pss_cons (ps_set (i := 3) sc_l_draw.nd rfl (by first | exact Or.inl rfl | exact Or.inr rfl) (pe_op op_mod (pe_callTy call_intN (by rfl) T.z_int (by decide +kernel) (pa_cons (pe_op op_mulX (pe_op op_add (pe_op op_add (pe_op op_add (pe_ix ix_list (pv 0) pe_int (fun _ _ => rfl)) (pe_ix ix_list (pv 0) pe_int (fun _ _ => rfl))) (pe_op op_mulX pe_int (pe_ix ix_list (pv 0) pe_int (fun _ _ => rfl)))) (pe_op op_mulX pe_int (pe_ix ix_list (pv 0) pe_int (fun _ _ => rfl)))) pe_int) pa_nil)) pe_int))
      (pss_cons (ps_set (i := 3) sc_l_draw.nd rfl (by first | exact Or.inl rfl | exact Or.inr rfl) (pe_op op_mod (pe_callTy call_intN (by rfl) T.z_int (by decide +kernel) (pa_cons (pe_op op_mulX (pv 3) (pe_op op_add (pe_op op_fdivX (pv 3) pe_int) pe_int)) pa_nil)) pe_int))
      (pss_cons (ps_set (i := 3) sc_l_draw.nd rfl (by first | exact Or.inl rfl | exact Or.inr rfl) (pe_op op_mod (pe_callTy call_intN (by rfl) T.z_int (by decide +kernel) (pa_cons (pe_op op_mulX (pv 3) (pe_op op_add (pe_op op_fdivX (pv 3) pe_int) pe_int)) pa_nil)) pe_int))
      (pss_one (ps_ret (pe_op op_mod (pe_callTy call_intN (by rfl) T.z_int (by decide +kernel) (pa_cons (pe_op op_fdivX (pv 3) pe_int) pa_nil)) (pv 1))))))))), ?_⟩
    walk_at "r"
    walk_at "if"
    · walk_at "r"
      refine q _ _ fw_upd ?_ (mod_rng _ hm0).1 (mod_rng _ hm0).2
      exact ⟨s0.fdiv many, s1, s2, s3, s4, upd_same, div_small a0 b0 hm0, ⟨a1, b1⟩, ⟨a2, b2⟩, ⟨a3, b3⟩, a4, by omega⟩
    · walk_at "r"
      · refine q _ _ fw_upd ?_ (mod_rng _ hm0).1 (mod_rng _ hm0).2
        exact ⟨s0, s1, s2, s3, s4 + 1, upd_same, ⟨a0, b0⟩, ⟨a1, b1⟩, ⟨a2, b2⟩, ⟨a3, b3⟩, by omega, by omega⟩
      · exact pick_mul2 _ (by decide) (by decide) (by decide) (by decide)
      · exact pick_mul2 _ (by decide) (by decide) (by decide) (by decide)
      · exact cmul_small (by omega) (by decide)
      · exact cmul_small (by decide) (by omega)
      · exact cmul_small (by decide) (by omega)
def sp_made (K : PySem.W.Frag) : Sp := fun vs H Q _ => ∃ n d : Int, vs = [.int n, .int d] ∧ 0 < d ∧ d.natAbs < 2 ^ 8000 ∧ ∀ H' v, Same H H' → IsF K H' v (Rat.divInt n d) → Q v H'
theorem ok_l_made (T : Txt K mg f_is_integer f_is_row f_is_fraction f_is_some f_lowest f_multiplied f_squared f_lies_below f_is_stall f_is_ware f_check_ware f_check_two f_across f_hold_of f_is_index f_check_some f_is_step f_end_of f_is_walk f_check_route f_rule_behind f_rule_of f_out_by f_route_out f_routes_on f_best_route f_l_is_integer f_l_source f_l_draw f_l_made f_l_plus f_l_times f_l_over f_l_below f_l_some f_l_stall f_l_stalls f_l_piece f_l_pair f_l_same f_l_rule f_l_comes f_l_routes f_l_fair f_l_web f_l_best f_law f_Web_init f_Web_eq c_BadWare c_Web c_NO_STEPS d_is_integer d_is_row d_is_fraction d_is_some d_lowest d_multiplied d_squared d_lies_below d_is_stall d_is_ware d_check_ware d_check_two d_across d_hold_of d_is_index d_check_some d_is_step d_end_of d_is_walk d_check_route d_rule_behind d_rule_of d_out_by d_route_out d_routes_on d_best_route d_l_is_integer d_l_source d_l_draw d_l_made d_l_plus d_l_times d_l_over d_l_below d_l_some d_l_stall d_l_stalls d_l_piece d_l_pair d_l_same d_l_rule d_l_comes d_l_routes d_l_fair d_l_web d_l_best d_law d_Web_init d_Web_eq) : FnOk P w K mg base CX0 1 f_l_made d_l_made ["_law_top", "_law_bottom"] (sp_made K) := by
  refine T.F_l_made.ok sc_l_made (fun vs H Q E h => ?_) (fun cdv A outer sh H vs Q E hr h => ?_)
  · obtain ⟨n, d, rfl, _⟩ := h
    rfl
  · obtain ⟨n, d, rfl, hd, hb, q⟩ := h
    obtain ⟨m1, m2, m3⟩ := low_math (n := n) hd hb _ rfl
    refine ⟨_, (pss_cons (ps_set (i := 2) sc_l_made.nd rfl (by first | exact Or.inl rfl | exact Or.inr rfl) (pe_callB call_absN (by rfl) T.z_abs (by decide +kernel) (pa_cons (pv 0) pa_nil)))
      (pss_cons (ps_set (i := 3) sc_l_made.nd rfl (by first | exact Or.inl rfl | exact Or.inr rfl) (pv 1))
      (pss_cons (ps_while PassesOwn.never (pt_cmpR op_gt (pv 3) pe_int (nomark _))
        (pss_one (ps_par (i := 2) (j := 3) rfl sc_l_made.nd rfl rfl (by decide) rfl rfl (pa_cons (pv 3) (pa_cons (pe_op op_mod (pe_callTy call_intN (by rfl) T.z_int (by decide +kernel) (pa_cons (pv 2) pa_nil)) (pv 3)) pa_nil)) rfl)))
      (pss_one (ps_ret (pe_tup (pa_cons (pe_op op_fdivX (pv 0) (pv 2)) (pa_cons (pe_op op_fdivX (pv 1) (pv 2)) pa_nil)))))))), ?_⟩
    walk_at "r"
    refine ⟨fun m σ H' => ∃ x y : Nat, σ = [some (.int n), some (.int d), some (.int (x : Nat)), some (.int (y : Nat))] ∧ Same H H' ∧ x.gcd y = n.natAbs.gcd d.natAbs ∧ m = y, ⟨d.natAbs, n.natAbs, d.natAbs, ?_, Same.refl _, rfl, rfl⟩, ?_⟩
    · rw [show ((d.natAbs : Nat) : Int) = d by omega]
      rfl
    · rintro m σ H1 ⟨x, y, rfl, s1, hg, em⟩
      walk_at "r"
      walk_at "if"
      · rename_i hy
        have hy : 0 < y := by omega
        refine ⟨fun σ H' => ∃ x' y' : Nat, σ = [some (.int n), some (.int d), some (.int (x' : Nat)), some (.int (y' : Nat))] ∧ Same H H' ∧ x'.gcd y' = n.natAbs.gcd d.natAbs ∧ y' < y, ?_, ?_⟩
        · rintro σ' H' ⟨x', y', rfl, s2, hg2, hlt⟩
          exact ⟨y', by omega, x', y', rfl, s2, hg2, rfl⟩
        · walk_at "r"
          refine rd_par ?_
          walk_at "r"
          refine ⟨_, _, rfl, ?_⟩
          refine ⟨y, x % y, ?_, s1, ?_, Nat.mod_lt _ hy⟩
          · rw [Int.natCast_emod]
            rfl
          · rw [← hg, Nat.gcd_comm x y, Nat.gcd_rec y x, Nat.gcd_comm]
      · rename_i hy
        have hy : y = 0 := by omega
        subst hy
        rw [Nat.gcd_zero_right] at hg
        rw [← hg] at m1 m2 m3
        walk_at "r"
        · intro p np
          exact q _ _ (s1.trans (same_upd np)) (isF_new m2 m3)
        all_goals exact m1 _
end
end My
namespace My
open PySem PySem.Spec PyProof.Rows L2
variable {K : PySem.W.Frag}
theorem p20k {n : Nat} (h : n < 2 ^ 3900) : n < 2 ^ 20000 := Nat.lt_of_lt_of_le h (pow_le (by decide))
def sp_two9 (K : PySem.W.Frag) (f : Rat → Rat → Rat) : Sp := fun vs H Q _ => ∃ x y r s, vs = [x, y] ∧ IsF K H x r ∧ IsF K H y s ∧ Bd 3900 r ∧ Bd 3900 s ∧ ∀ H' v, Same H H' → IsF K H' v (f r s) → Q v H'
theorem eq_div_of' {h x k : Rat} (hz : h ≠ 0) (e : h * x = k) : x = k / h := by
  rw [← e, Rat.div_def, Rat.mul_comm h x, Rat.mul_assoc, Rat.mul_inv_cancel h hz, Rat.mul_one]
theorem over_is (r t : Rat) (h : 0 < t) : Rat.divInt (r.num * t.den) ((r.den : Int) * t.num) = r / t := by
  have ht := num_pos' h
  refine eq_div_of' (ne_of_pos h) ?_
  have e : t * Rat.divInt (r.num * t.den) ((r.den : Int) * t.num) = Rat.divInt t.num t.den * Rat.divInt (r.num * t.den) ((r.den : Int) * t.num) := by rw [Rat.num_divInt_den]
  rw [e, Rat.divInt_mul_divInt]
  have hz : t.num * t.den ≠ 0 := Int.ne_of_gt (Int.mul_pos ht (den_pos t))
  rw [show t.num * (r.num * t.den) = r.num * (t.num * t.den) by grind, show (t.den : Int) * ((r.den : Int) * t.num) = (r.den : Int) * (t.num * t.den) by grind, Rat.divInt_mul_right hz, Rat.num_divInt_den]
section
variable {P : Program} {w : World} {K : PySem.W.Frag} {mg : Str → Option Value} {base : Heap} {f_is_integer f_is_row f_is_fraction f_is_some f_lowest f_multiplied f_squared f_lies_below f_is_stall f_is_ware f_check_ware f_check_two f_across f_hold_of f_is_index f_check_some f_is_step f_end_of f_is_walk f_check_route f_rule_behind f_rule_of f_out_by f_route_out f_routes_on f_best_route f_l_is_integer f_l_source f_l_draw f_l_made f_l_plus f_l_times f_l_over f_l_below f_l_some f_l_stall f_l_stalls f_l_piece f_l_pair f_l_same f_l_rule f_l_comes f_l_routes f_l_fair f_l_web f_l_best f_law f_Web_init f_Web_eq c_BadWare c_Web c_NO_STEPS : Addr} {d_is_integer d_is_row d_is_fraction d_is_some d_lowest d_multiplied d_squared d_lies_below d_is_stall d_is_ware d_check_ware d_check_two d_across d_hold_of d_is_index d_check_some d_is_step d_end_of d_is_walk d_check_route d_rule_behind d_rule_of d_out_by d_route_out d_routes_on d_best_route d_l_is_integer d_l_source d_l_draw d_l_made d_l_plus d_l_times d_l_over d_l_below d_l_some d_l_stall d_l_stalls d_l_piece d_l_pair d_l_same d_l_rule d_l_comes d_l_routes d_l_fair d_l_web d_l_best d_law d_Web_init d_Web_eq : FuncData}
theorem ok_l_plus (T : Txt K mg f_is_integer f_is_row f_is_fraction f_is_some f_lowest f_multiplied f_squared f_lies_below f_is_stall f_is_ware f_check_ware f_check_two f_across f_hold_of f_is_index f_check_some f_is_step f_end_of f_is_walk f_check_route f_rule_behind f_rule_of f_out_by f_route_out f_routes_on f_best_route f_l_is_integer f_l_source f_l_draw f_l_made f_l_plus f_l_times f_l_over f_l_below f_l_some f_l_stall f_l_stalls f_l_piece f_l_pair f_l_same f_l_rule f_l_comes f_l_routes f_l_fair f_l_web f_l_best f_law f_Web_init f_Web_eq c_BadWare c_Web c_NO_STEPS d_is_integer d_is_row d_is_fraction d_is_some d_lowest d_multiplied d_squared d_lies_below d_is_stall d_is_ware d_check_ware d_check_two d_across d_hold_of d_is_index d_check_some d_is_step d_end_of d_is_walk d_check_route d_rule_behind d_rule_of d_out_by d_route_out d_routes_on d_best_route d_l_is_integer d_l_source d_l_draw d_l_made d_l_plus d_l_times d_l_over d_l_below d_l_some d_l_stall d_l_stalls d_l_piece d_l_pair d_l_same d_l_rule d_l_comes d_l_routes d_l_fair d_l_web d_l_best d_law d_Web_init d_Web_eq) : FnOk P w K mg base CX0 2 f_l_plus d_l_plus ["_law_one", "_law_other"] (sp_two9 K (· + ·)) := by
  have G_l_made : FnOk P w K mg base CX0 1 f_l_made d_l_made ["_law_top", "_law_bottom"] (sp_made K) := ok_l_made T
  refine T.F_l_plus.ok sc_l_plus (fun vs H Q E h => ?_) (fun cdv A outer s H vs Q E hr h => ?_)
  · obtain ⟨x, y, r, t, rfl, _⟩ := h
    rfl
  · obtain ⟨x, y, r, t, rfl, ⟨p1, rfl, hp1⟩, ⟨p2, rfl, hp2⟩, b1, b2, q⟩ := h
    have c1 : ((r.den : Int)).natAbs < 2 ^ 3900 := by rw [Int.natAbs_natCast]; exact b1.2
    have c2 : ((t.den : Int)).natAbs < 2 ^ 3900 := by rw [Int.natAbs_natCast]; exact b2.2
    refine ⟨_, (pss_one (ps_ret (pe_call G_l_made (hr.mono (by decide)) (by rfl) T.g_l_made T.k_l_made T.b_l_made .nil pass0 (pa_cons (pe_op op_add (pe_op op_mulX (pe_ix ix_tup (pv 0) pe_int (fun _ _ => rfl)) (pe_ix ix_tup (pv 1) pe_int (fun _ _ => rfl))) (pe_op op_mulX (pe_ix ix_tup (pv 1) pe_int (fun _ _ => rfl)) (pe_ix ix_tup (pv 0) pe_int (fun _ _ => rfl)))) (pa_cons (pe_op op_mulX (pe_ix ix_tup (pv 0) pe_int (fun _ _ => rfl)) (pe_ix ix_tup (pv 1) pe_int (fun _ _ => rfl))) pa_nil))))), ?_⟩
    walk_at "r"
    · refine ⟨_, _, rfl, Int.mul_pos (den_pos r) (den_pos t), Nat.lt_of_lt_of_le (mul_lt' c1 c2) (pow_le (by decide)), fun H1 v s1 hv => ?_⟩
      rw [add_divInt] at hv
      exact q _ _ s1 hv
    · exact cmx (p20k c1) (p20k c2)
    · exact cmx (p20k b2.1) (p20k c1)
    · exact cmx (p20k b1.1) (p20k c2)
theorem ok_l_times (T : Txt K mg f_is_integer f_is_row f_is_fraction f_is_some f_lowest f_multiplied f_squared f_lies_below f_is_stall f_is_ware f_check_ware f_check_two f_across f_hold_of f_is_index f_check_some f_is_step f_end_of f_is_walk f_check_route f_rule_behind f_rule_of f_out_by f_route_out f_routes_on f_best_route f_l_is_integer f_l_source f_l_draw f_l_made f_l_plus f_l_times f_l_over f_l_below f_l_some f_l_stall f_l_stalls f_l_piece f_l_pair f_l_same f_l_rule f_l_comes f_l_routes f_l_fair f_l_web f_l_best f_law f_Web_init f_Web_eq c_BadWare c_Web c_NO_STEPS d_is_integer d_is_row d_is_fraction d_is_some d_lowest d_multiplied d_squared d_lies_below d_is_stall d_is_ware d_check_ware d_check_two d_across d_hold_of d_is_index d_check_some d_is_step d_end_of d_is_walk d_check_route d_rule_behind d_rule_of d_out_by d_route_out d_routes_on d_best_route d_l_is_integer d_l_source d_l_draw d_l_made d_l_plus d_l_times d_l_over d_l_below d_l_some d_l_stall d_l_stalls d_l_piece d_l_pair d_l_same d_l_rule d_l_comes d_l_routes d_l_fair d_l_web d_l_best d_law d_Web_init d_Web_eq) : FnOk P w K mg base CX0 2 f_l_times d_l_times ["_law_one", "_law_other"] (sp_two9 K (· * ·)) := by
  have G_l_made : FnOk P w K mg base CX0 1 f_l_made d_l_made ["_law_top", "_law_bottom"] (sp_made K) := ok_l_made T
  refine T.F_l_times.ok sc_l_times (fun vs H Q E h => ?_) (fun cdv A outer s H vs Q E hr h => ?_)
  · obtain ⟨x, y, r, t, rfl, _⟩ := h
    rfl
  · obtain ⟨x, y, r, t, rfl, ⟨p1, rfl, hp1⟩, ⟨p2, rfl, hp2⟩, b1, b2, q⟩ := h
    have c1 : ((r.den : Int)).natAbs < 2 ^ 3900 := by rw [Int.natAbs_natCast]; exact b1.2
    have c2 : ((t.den : Int)).natAbs < 2 ^ 3900 := by rw [Int.natAbs_natCast]; exact b2.2
    refine ⟨_, (pss_one (ps_ret (pe_call G_l_made (hr.mono (by decide)) (by rfl) T.g_l_made T.k_l_made T.b_l_made .nil pass0 (pa_cons (pe_op op_mulX (pe_ix ix_tup (pv 0) pe_int (fun _ _ => rfl)) (pe_ix ix_tup (pv 1) pe_int (fun _ _ => rfl))) (pa_cons (pe_op op_mulX (pe_ix ix_tup (pv 0) pe_int (fun _ _ => rfl)) (pe_ix ix_tup (pv 1) pe_int (fun _ _ => rfl))) pa_nil))))), ?_⟩
    walk_at "r"
    · refine ⟨_, _, rfl, Int.mul_pos (den_pos r) (den_pos t), Nat.lt_of_lt_of_le (mul_lt' c1 c2) (pow_le (by decide)), fun H1 v s1 hv => ?_⟩
      rw [divInt_mul'] at hv
      exact q _ _ s1 hv
    · exact cmx (p20k c1) (p20k c2)
    · exact cmx (p20k b1.1) (p20k b2.1)
def sp_over (K : PySem.W.Frag) : Sp := fun vs H Q _ => ∃ x y r s, vs = [x, y] ∧ IsF K H x r ∧ IsF K H y s ∧ 0 < s ∧ Bd 3900 r ∧ Bd 3900 s ∧ ∀ H' v, Same H H' → IsF K H' v (r / s) → Q v H'
theorem ok_l_over (T : Txt K mg f_is_integer f_is_row f_is_fraction f_is_some f_lowest f_multiplied f_squared f_lies_below f_is_stall f_is_ware f_check_ware f_check_two f_across f_hold_of f_is_index f_check_some f_is_step f_end_of f_is_walk f_check_route f_rule_behind f_rule_of f_out_by f_route_out f_routes_on f_best_route f_l_is_integer f_l_source f_l_draw f_l_made f_l_plus f_l_times f_l_over f_l_below f_l_some f_l_stall f_l_stalls f_l_piece f_l_pair f_l_same f_l_rule f_l_comes f_l_routes f_l_fair f_l_web f_l_best f_law f_Web_init f_Web_eq c_BadWare c_Web c_NO_STEPS d_is_integer d_is_row d_is_fraction d_is_some d_lowest d_multiplied d_squared d_lies_below d_is_stall d_is_ware d_check_ware d_check_two d_across d_hold_of d_is_index d_check_some d_is_step d_end_of d_is_walk d_check_route d_rule_behind d_rule_of d_out_by d_route_out d_routes_on d_best_route d_l_is_integer d_l_source d_l_draw d_l_made d_l_plus d_l_times d_l_over d_l_below d_l_some d_l_stall d_l_stalls d_l_piece d_l_pair d_l_same d_l_rule d_l_comes d_l_routes d_l_fair d_l_web d_l_best d_law d_Web_init d_Web_eq) : FnOk P w K mg base CX0 2 f_l_over d_l_over ["_law_one", "_law_other"] (sp_over K) := by
  have G_l_made : FnOk P w K mg base CX0 1 f_l_made d_l_made ["_law_top", "_law_bottom"] (sp_made K) := ok_l_made T
  refine T.F_l_over.ok sc_l_over (fun vs H Q E h => ?_) (fun cdv A outer s H vs Q E hr h => ?_)
  · obtain ⟨x, y, r, t, rfl, _⟩ := h
    rfl
  · obtain ⟨x, y, r, t, rfl, ⟨p1, rfl, hp1⟩, ⟨p2, rfl, hp2⟩, t0, b1, b2, q⟩ := h
    have c1 : ((r.den : Int)).natAbs < 2 ^ 3900 := by rw [Int.natAbs_natCast]; exact b1.2
    have c2 : ((t.den : Int)).natAbs < 2 ^ 3900 := by rw [Int.natAbs_natCast]; exact b2.2
    have tn := num_pos' t0
    refine ⟨_, (pss_cons (ps_if (pt_cmpR op_lt (pe_ix ix_tup (pv 1) pe_int (fun _ _ => rfl)) pe_int (nomark _))
        (pss_one (ps_ret (pe_call G_l_made (hr.mono (by decide)) (by rfl) T.g_l_made T.k_l_made T.b_l_made .nil pass0 (pa_cons (pe_op op_mulX (pe_un un_neg (pe_ix ix_tup (pv 0) pe_int (fun _ _ => rfl))) (pe_ix ix_tup (pv 1) pe_int (fun _ _ => rfl))) (pa_cons (pe_op op_mulX (pe_un un_neg (pe_ix ix_tup (pv 0) pe_int (fun _ _ => rfl))) (pe_ix ix_tup (pv 1) pe_int (fun _ _ => rfl))) pa_nil)))))
        pss_nil)
      (pss_one (ps_ret (pe_call G_l_made (hr.mono (by decide)) (by rfl) T.g_l_made T.k_l_made T.b_l_made .nil pass0 (pa_cons (pe_op op_mulX (pe_ix ix_tup (pv 0) pe_int (fun _ _ => rfl)) (pe_ix ix_tup (pv 1) pe_int (fun _ _ => rfl))) (pa_cons (pe_op op_mulX (pe_ix ix_tup (pv 0) pe_int (fun _ _ => rfl)) (pe_ix ix_tup (pv 1) pe_int (fun _ _ => rfl))) pa_nil)))))), ?_⟩
    walk_at "r"
    · refine ⟨_, _, rfl, Int.mul_pos (den_pos r) tn, Nat.lt_of_lt_of_le (mul_lt' c1 b2.1) (pow_le (by decide)), fun H1 v s1 hv => ?_⟩
      rw [over_is r t t0] at hv
      exact q _ _ s1 hv
    · exact cmx (p20k c1) (p20k b2.1)
    · exact cmx (p20k b1.1) (p20k c2)
def sp_lbelow (K : PySem.W.Frag) : Sp := fun vs H Q _ => ∃ x y r t, vs = [x, y] ∧ IsF K H x r ∧ IsF K H y t ∧ Bd 3900 r ∧ Bd 3900 t ∧ Q (.bl (decide (r < t))) H
theorem ok_l_below (T : Txt K mg f_is_integer f_is_row f_is_fraction f_is_some f_lowest f_multiplied f_squared f_lies_below f_is_stall f_is_ware f_check_ware f_check_two f_across f_hold_of f_is_index f_check_some f_is_step f_end_of f_is_walk f_check_route f_rule_behind f_rule_of f_out_by f_route_out f_routes_on f_best_route f_l_is_integer f_l_source f_l_draw f_l_made f_l_plus f_l_times f_l_over f_l_below f_l_some f_l_stall f_l_stalls f_l_piece f_l_pair f_l_same f_l_rule f_l_comes f_l_routes f_l_fair f_l_web f_l_best f_law f_Web_init f_Web_eq c_BadWare c_Web c_NO_STEPS d_is_integer d_is_row d_is_fraction d_is_some d_lowest d_multiplied d_squared d_lies_below d_is_stall d_is_ware d_check_ware d_check_two d_across d_hold_of d_is_index d_check_some d_is_step d_end_of d_is_walk d_check_route d_rule_behind d_rule_of d_out_by d_route_out d_routes_on d_best_route d_l_is_integer d_l_source d_l_draw d_l_made d_l_plus d_l_times d_l_over d_l_below d_l_some d_l_stall d_l_stalls d_l_piece d_l_pair d_l_same d_l_rule d_l_comes d_l_routes d_l_fair d_l_web d_l_best d_law d_Web_init d_Web_eq) : FnOk P w K mg base CX0 1 f_l_below d_l_below ["_law_one", "_law_other"] (sp_lbelow K) := by
  refine T.F_l_below.ok sc_l_below (fun vs H Q E h => ?_) (fun cdv A outer s H vs Q E hr h => ?_)
  · obtain ⟨x, y, r, t, rfl, _⟩ := h
    rfl
  · obtain ⟨x, y, r, t, rfl, ⟨p1, rfl, h1⟩, ⟨p2, rfl, h2⟩, b1, b2, q⟩ := h
    refine ⟨_, (pss_one (ps_ret (pe_cmpR op_lt (pe_op op_mulX (pe_ix ix_tup (pv 0) pe_int (fun _ _ => rfl)) (pe_ix ix_tup (pv 1) pe_int (fun _ _ => rfl))) (pe_op op_mulX (pe_ix ix_tup (pv 1) pe_int (fun _ _ => rfl)) (pe_ix ix_tup (pv 0) pe_int (fun _ _ => rfl))) (nomark _)))), ?_⟩
    walk_at "r"
    · rw [show decide (r.num * (t.den : Int) < t.num * (r.den : Int)) = decide (r < t) by rw [Bool.eq_iff_iff]; simp only [decide_eq_true_eq]; exact lt_num r t]
      exact q
    · exact cmx (p20k b2.1) (by rw [Int.natAbs_natCast]; exact p20k b1.2)
    · exact cmx (p20k b1.1) (by rw [Int.natAbs_natCast]; exact p20k b2.2)
/-- sums over a list or a tuple -/
def sp_ltotal (K : PySem.W.Frag) : Sp := fun vs H Q _ => ∃ (L : Addr) (ys : List V) (rs : List Rat) (M : Nat), vs = [.ref L] ∧ H L = some (.lst ys) ∧ Fs K H ys rs ∧ BR rs M ∧ M ≤ 3900 ∧ rs.length ≤ 900 ∧ ∀ H' v, Same H H' → IsF K H' v (sumR rs) → Q v H'
end
end My
namespace My
open PySem PySem.Spec PyProof.Rows L2
variable {K : PySem.W.Frag}
theorem Fs.ts {H H' : Hp} {ys : List V} {rs : List Rat} (f : Tps H H') (h : Fs K H ys rs) : Fs K H' ys rs := Paired.mapP h fun _ _ h => h.ts f
theorem getD_mem' {l : List Rat} {i : Nat} (h : i < l.length) : l.getD i 0 ∈ l := by
  rw [List.getD_eq_getElem?_getD, List.getElem?_eq_getElem h]
  exact List.getElem_mem _
/-- a move that was drawn -/
def Dm (k : Nat) (ss : List Stl) (m : Mv) : Prop := ∃ s, ss[m.i]? = some s ∧ (m.w = s.u ∨ m.w = s.v) ∧ 0 < m.x ∧ Bd k m.x
/-- what a stall holds of a ware, 0 for no ware of its own -/
def Stl.own (s : Stl) (w : Nat) : Rat := if s.at w = true then s.hold w else 0
theorem fold_add (l : List Rat) : ∀ a : Rat, l.foldl (· + ·) a = a + l.foldl (· + ·) 0 := by
  induction l with
  | nil => intro a; exact (Rat.add_zero a).symm
  | cons x l ih =>
    intro a
    rw [List.foldl_cons, List.foldl_cons, ih (a + x), ih (0 + x)]
    grind
theorem sumR_cons (a : Rat) (l : List Rat) : sumR (a :: l) = a + sumR l := by
  unfold sumR
  rw [List.foldl_cons, fold_add]
  grind
theorem held_cons (s : Stl) (ss : List Stl) (w : Nat) : heldAt (s :: ss) w = s.own w + heldAt ss w := by
  unfold heldAt at_ Stl.own
  rw [List.filter_cons]
  split
  · rw [List.map_cons, sumR_cons]
  · rw [Rat.zero_add]
theorem held_set {ss : List Stl} {i : Nat} {s t : Stl} {w : Nat} (h : ss[i]? = some s) : heldAt (ss.set i t) w = heldAt ss w - s.own w + t.own w := by
  induction ss generalizing i with
  | nil => simp at h
  | cons x l ih =>
    cases i with
    | zero =>
      have e : x = s := by simpa using h
      rw [List.set_cons_zero, held_cons, held_cons, e]
      grind
    | succ i =>
      have e : l[i]? = some s := by simpa using h
      rw [List.set_cons_succ, held_cons, held_cons, ih e]
      grind
/-- bits of stalls, and of their roots -/
def Bts (R : Nat) (ss : List Stl) (ks : List Nat) : Prop := Paired (fun (s : Stl) (k : Nat) => BdSt k s ∧ Bd R s.r) ss ks
def Tk (ks : List Nat) : Nat := (ks.map (· + 1)).sum
theorem Tk_cons (k : Nat) (ks : List Nat) : Tk (k :: ks) = k + 1 + Tk ks := by
  unfold Tk
  rw [List.map_cons, List.sum_cons]
theorem behind_bd2 {k R l n : Nat} {s : Stl} (hs : OkSt n s) (h : BdSt k s) (hr : Bd R s.r) (wn : Nat) {y : Rat} (y0 : 0 < y) (b : Bd l y) : BdSt (k + (2 * R + l + 1)) (s.behind wn y) := by
  have a0 := hs.a
  have b0 := hs.b
  unfold Stl.behind
  split
  · have p : 0 < s.a + y := by grind
    exact ⟨(h.a.add b).mono (by omega), ((hr.mul hr).div (ne_of_pos p) (h.a.add b)).mono (by omega), h.r.mono (by omega)⟩
  · have p : 0 < s.b + y := by grind
    exact ⟨((hr.mul hr).div (ne_of_pos p) (h.b.add b)).mono (by omega), (h.b.add b).mono (by omega), h.r.mono (by omega)⟩
theorem Bts.at {R : Nat} {ss : List Stl} {ks : List Nat} (h : Bts R ss ks) : ∀ {i : Nat} {s : Stl}, ss[i]? = some s → ∃ k, ks[i]? = some k ∧ BdSt k s ∧ Bd R s.r ∧ k ≤ Tk ks := by
  unfold Bts at h
  induction h with
  | nil =>
    intro i s e
    simp at e
  | @cons x k xs ks h t ih =>
    intro i s e
    rw [Tk_cons]
    cases i with
    | zero =>
      have e : x = s := by simpa using e
      subst e
      exact ⟨k, rfl, h.1, h.2, by omega⟩
    | succ i =>
      obtain ⟨k', h1, h2, h3, h4⟩ := ih (by simpa using e)
      exact ⟨k', by simpa using h1, h2, h3, by omega⟩
theorem Bts.set {R : Nat} {ss : List Stl} {ks : List Nat} (h : Bts R ss ks) : ∀ {i : Nat} {t : Stl} {k d : Nat}, ks[i]? = some k → BdSt (k + d) t → Bd R t.r → Bts R (ss.set i t) (ks.set i (k + d)) ∧ Tk (ks.set i (k + d)) = Tk ks + d := by
  unfold Bts at *
  induction h with
  | nil =>
    intro i t k d e
    simp at e
  | @cons x k0 xs ks h t ih =>
    intro i t' k d e b1 b2
    cases i with
    | zero =>
      have e : k0 = k := by simpa using e
      subst e
      rw [List.set_cons_zero, List.set_cons_zero, Tk_cons, Tk_cons]
      exact ⟨.cons ⟨b1, b2⟩ t, by omega⟩
    | succ i =>
      obtain ⟨h1, h2⟩ := ih (i := i) (by simpa using e) b1 b2
      rw [List.set_cons_succ, List.set_cons_succ, Tk_cons, Tk_cons]
      exact ⟨.cons h h1, by omega⟩
theorem Bts.bl {R : Nat} {ss : List Stl} {ks : List Nat} (h : Bts R ss ks) : BL ss (1 + Tk ks) := by
  refine ⟨ks, ?_, Nat.le_refl _⟩
  unfold Bts at h
  induction h with
  | nil => exact .nil
  | cons h t ih => exact .cons h.1 ih
theorem bts_of {R k : Nat} {ss : List Stl} (h : ∀ s ∈ ss, BdSt k s ∧ Bd R s.r) : ∃ ks, Bts R ss ks ∧ Tk ks = ss.length * (k + 1) := by
  induction ss with
  | nil => exact ⟨[], .nil, by simp [Tk]⟩
  | cons s ss ih =>
    obtain ⟨ks, h1, h2⟩ := ih fun t ht => h t (by simp [ht])
    refine ⟨k :: ks, .cons (h s (by simp)) h1, ?_⟩
    rw [Tk_cons, h2, List.length_cons, Nat.add_mul]
    omega
theorem has_bd {n R M N : Nat} {rs : List Rat} {ss tt : List Stl} (hn : rs.length = n) (hr : ∀ r ∈ rs, Bd R r) (h1 : BL ss M) (h2 : BL tt N) : ∀ r ∈ hasAt n rs ss tt, Bd (R + (M + N + 1) + 1) r := fun r h => by
  obtain ⟨w, hw, rfl⟩ := List.mem_map.mp h
  exact (hr _ (getD_mem' (by rw [hn]; exact List.mem_range.mp hw))).add ((h1.held w).sub (h2.held w))
theorem has_same {n : Nat} {rs : List Rat} (hn : rs.length = n) (ss : List Stl) : hasAt n rs ss ss = rs := by
  refine List.ext_getElem? fun w => ?_
  by_cases hw : w < n
  · have g : (hasAt n rs ss ss)[w]? = some (rs.getD w 0 + (heldAt ss w - heldAt ss w)) := by
      unfold hasAt
      rw [List.getElem?_map, List.getElem?_range hw]
      rfl
    rw [g, List.getElem?_eq_getElem (by omega), List.getD_eq_getElem?_getD, List.getElem?_eq_getElem (by omega)]
    congr 1
    show rs[w] + _ = _
    grind
  · rw [List.getElem?_eq_none (by simp [hasAt]; omega), List.getElem?_eq_none (by omega)]
theorem dm_alk {k : Nat} {ss uu : List Stl} (a : Alk ss uu) {m : Mv} (h : Dm k ss m) : ∃ s, uu[m.i]? = some s ∧ (m.w = s.u ∨ m.w = s.v) ∧ 0 < m.x ∧ Bd k m.x := by
  obtain ⟨s, h1, h2, h3, h4⟩ := h
  have l := a.len
  have hi := (List.getElem?_eq_some_iff.mp h1).1
  have h5 : uu[m.i]? = some (uu[m.i]'(by omega)) := List.getElem?_eq_getElem (by omega)
  obtain ⟨a1, a2, _⟩ := a.at_ h1 h5
  exact ⟨_, h5, by rw [← a1, ← a2]; exact h2, h3, h4⟩
end My
namespace My
open PySem PySem.Spec PyProof.Rows L2
variable {K : PySem.W.Frag}
/-- a web's stalls behind moves -/
def mv1 (ss : List Stl) (m : Mv) : List Stl := match ss[m.i]? with
  | some s => ss.set m.i (s.behind m.w m.x)
  | none => ss
def after (ss : List Stl) (ms : List Mv) : List Stl := ms.foldl mv1 ss
theorem mv1_is {ss : List Stl} {m : Mv} {s : Stl} (h : ss[m.i]? = some s) : mv1 ss m = ss.set m.i (s.behind m.w m.x) := by
  unfold mv1
  rw [h]
theorem after_take {ss : List Stl} {ms : List Mv} {j : Nat} {m : Mv} (h : ms[j]? = some m) : after ss (ms.take (j + 1)) = mv1 (after ss (ms.take j)) m := by
  unfold after
  rw [take_at h, List.foldl_append]
  rfl
theorem after_app (ss : List Stl) (a b : List Mv) : after ss (a ++ b) = after (after ss a) b := by
  unfold after
  rw [List.foldl_append]
structure Aft (n R D : Nat) (ss tt : List Stl) (ms : List Mv) (ks ks' : List Nat) : Prop where
  pl : Plays n ss ms tt
  al : Alk ss tt
  ok : ∀ s ∈ tt, OkSt n s
  bt : Bts R tt ks'
  tk : Tk ks' = Tk ks + D * ms.length
theorem plays_of {n R l : Nat} {ms : List Mv} (hl : l ≤ 1900) : ∀ {ss : List Stl} {ks : List Nat}, (∀ m ∈ ms, Dm l ss m) → (∀ s ∈ ss, OkSt n s) → Bts R ss ks → Tk ks + (2 * R + l + 1) * ms.length ≤ 1900 →
    ∃ ks', Aft n R (2 * R + l + 1) ss (after ss ms) ms ks ks' := by
  induction ms with
  | nil =>
    intro ss ks hd ok bt hb
    exact ⟨ks, .nil, alk_refl _, ok, bt, by simp⟩
  | cons m ms ih =>
    intro ss ks hd ok bt hb
    rw [List.length_cons, Nat.mul_add, Nat.mul_one] at hb
    obtain ⟨s, hs, hw, x0, bx⟩ := hd m (by simp)
    obtain ⟨k, hk, bk, br, hkT⟩ := bt.at hs
    have oks := ok s (List.mem_of_getElem? hs)
    have bb : BdSt (k + (2 * R + l + 1)) (s.behind m.w m.x) := behind_bd2 oks bk br m.w x0 bx
    have a1 : Alk ss (ss.set m.i (s.behind m.w m.x)) := alk_set hs (alk_behind _ _ _)
    obtain ⟨c1, c2⟩ := bt.set hk bb (by rw [behind_r]; exact br)
    have ok1 : ∀ t ∈ ss.set m.i (s.behind m.w m.x), OkSt n t := fun t ht => by
      rcases List.mem_or_eq_of_mem_set ht with c | c
      · exact ok t c
      · rw [c]
        exact behind_ok oks _ x0
    obtain ⟨ks', h⟩ := ih (fun m' hm' => by
      obtain ⟨t, h1, h2, h3, h4⟩ := dm_alk a1 (hd m' (by simp [hm']))
      exact ⟨t, h1, h2, h3, h4⟩) ok1 c1 (by rw [c2]; omega)
    have e : after ss (m :: ms) = after (ss.set m.i (s.behind m.w m.x)) ms := by
      unfold after
      rw [List.foldl_cons, mv1_is hs]
    rw [e]
    refine ⟨ks', ⟨.cons hs hw x0 (bk.mono (by omega)) (bx.mono hl) (bb.mono (by omega)) h.pl, alk_trans a1 h.al, h.ok, h.bt, ?_⟩⟩
    rw [h.tk, c2, List.length_cons, Nat.mul_add, Nat.mul_one]
    omega
/-- moves of unlike stalls may be exchanged -/
theorem mv1_swap {ss : List Stl} {m1 m2 : Mv} (h : m1.i ≠ m2.i) : mv1 (mv1 ss m1) m2 = mv1 (mv1 ss m2) m1 := by
  unfold mv1
  cases e1 : ss[m1.i]? with
  | none =>
    cases e2 : ss[m2.i]? with
    | none => simp [e1, e2]
    | some s2 =>
      simp only [e2, List.getElem?_set_ne (Ne.symm h), e1]
  | some s1 =>
    cases e2 : ss[m2.i]? with
    | none => simp only [e1, List.getElem?_set_ne h, e2]
    | some s2 =>
      simp only [List.getElem?_set_ne h, List.getElem?_set_ne (Ne.symm h), e1, e2]
      exact List.set_comm _ _ h
theorem after_swap (ss : List Stl) (a b : List Mv) {m1 m2 : Mv} (h : m1.i ≠ m2.i) : after ss (a ++ [m2, m1] ++ b) = after ss (a ++ [m1, m2] ++ b) := by
  rw [after_app, after_app, after_app, after_app]
  congr 1
  exact mv1_swap (Ne.symm h)
end My
namespace My
open PySem PySem.Spec PyProof.Rows L2
variable {K : PySem.W.Frag}
/-! ### a route's moves played -/
theorem comes_mono {x : Rat × Rat} (h1 : 0 < x.1) (h2 : 0 ≤ x.2) {a b : Rat} (a0 : 0 < a) (ab : a < b) : comes x a < comes x b := by
  have b0 : 0 < b := by grind
  have za : 0 ≤ x.2 * a := Rat.mul_nonneg h2 (Rat.le_of_lt a0)
  have zb : 0 ≤ x.2 * b := Rat.mul_nonneg h2 (Rat.le_of_lt b0)
  have pa : (0 : Rat) < 1 + x.2 * a := by grind
  have pb : (0 : Rat) < 1 + x.2 * b := by grind
  have e : comes x b - comes x a = x.1 * (b - a) / ((1 + x.2 * a) * (1 + x.2 * b)) := by
    unfold comes
    have na := ne_of_pos pa
    have nb := ne_of_pos pb
    have nab := ne_of_pos (Rat.mul_pos pa pb)
    generalize h3 : 1 + x.2 * a = M at *
    generalize h4 : 1 + x.2 * b = N at *
    have e1 : x.1 * b * M - x.1 * a * N = x.1 * (b - a) := by
      rw [← h3, ← h4]
      grind
    rw [← e1]
    grind
  have p : 0 < x.1 * (b - a) / ((1 + x.2 * a) * (1 + x.2 * b)) := div_pos' (Rat.mul_pos h1 (by grind)) (Rat.mul_pos pa pb)
  rw [← e] at p
  grind
theorem comes_lt {x : Rat × Rat} (h1 : 0 < x.1) (h2 : 0 < x.2) {a : Rat} (a0 : 0 < a) : comes x a < x.1 * a := by
  have z := Rat.mul_pos h2 a0
  have p : (0 : Rat) < 1 + x.2 * a := by grind
  have n := ne_of_pos p
  have e : x.1 * a - comes x a = x.1 * a * (x.2 * a) / (1 + x.2 * a) := by
    unfold comes
    generalize h3 : x.2 * a = M at *
    grind
  have q : 0 < x.1 * a * (x.2 * a) / (1 + x.2 * a) := div_pos' (Rat.mul_pos (Rat.mul_pos h1 a0) z) p
  rw [← e] at q
  grind
theorem rule_slow {n : Nat} {ss : List Stl} {st : List (Nat × Nat)} (hok : ∀ s ∈ ss, OkSt n s) (hm : ∀ p ∈ st, ∃ s, ss[p.1]? = some s ∧ (p.2 = s.u ∨ p.2 = s.v)) : ∀ i, i < st.length → 0 < (ruleR ss (st.take (i + 1))).2 := by
  intro i hi
  have hp : st[i]? = some (st[i]'hi) := List.getElem?_eq_getElem hi
  obtain ⟨s, hs, hw⟩ := hm _ (List.mem_of_getElem? hp)
  rw [ruleR_take hp hs]
  have r := rule_pos (st := st.take i) hok
  have k0 := hold_pos2 (hok s (List.mem_of_getElem? hs)) (st[i]'hi).2
  have z := div_pos' r.1 k0
  show 0 < (ruleR ss (st.take i)).2 + (ruleR ss (st.take i)).1 / s.hold (st[i]'hi).2
  have := r.2
  grind
theorem comes_app {n : Nat} {ss : List Stl} (hok : ∀ s ∈ ss, OkSt n s) {l1 l2 : List (Nat × Nat)} (hm : ∀ p ∈ l2, ∃ s, ss[p.1]? = some s ∧ (p.2 = s.u ∨ p.2 = s.v)) {a : Rat} (a0 : 0 < a) : ∀ k, k ≤ l2.length → comes (ruleR ss (l1 ++ l2.take k)) a = comes (ruleR ss (l2.take k)) (comes (ruleR ss l1) a) := by
  intro k
  induction k with
  | zero =>
    intro _
    rw [comes_zero, List.take_zero, List.append_nil]
  | succ k ih =>
    intro hk
    have hp : l2[k]? = some (l2[k]'hk) := List.getElem?_eq_getElem hk
    obtain ⟨s, hs, hw⟩ := hm _ (List.mem_of_getElem? hp)
    have oks := hok s (List.mem_of_getElem? hs)
    have r1 := rule_pos (st := l1) hok
    have r2 := rule_pos (st := l1 ++ l2.take k) hok
    have r3 := rule_pos (st := l2.take k) hok
    rw [take_snoc hp, ← List.append_assoc, ruleR_snoc hs, ruleR_snoc hs, ← comes_step oks hw r2.1 r2.2 a0, ← comes_step oks hw r3.1 r3.2 (comes_pos r1.1 r1.2 a0), ih (by omega)]
theorem Rte.take {ss : List Stl} {st : List (Nat × Nat)} (h : Rte ss st) {k : Nat} (hk : 0 < k) : Rte ss (st.take k) := by
  refine ⟨?_, fun p hp => h.mem p (List.mem_of_mem_take hp), ?_, fun i p q s h1 h2 hs => ?_⟩
  · have := h.ne
    rw [List.length_take]
    omega
  · rw [List.map_take]
    exact h.nd.sublist (List.take_sublist _ _)
  · rw [List.getElem?_take] at h1 h2
    split at h1
    · split at h2
      · exact h.ch i p q s h1 h2 hs
      · cases h2
    · cases h1
theorem Rte.drop {ss : List Stl} {st : List (Nat × Nat)} (h : Rte ss st) {k : Nat} (hk : k < st.length) : Rte ss (st.drop k) := by
  refine ⟨?_, fun p hp => h.mem p (List.mem_of_mem_drop hp), ?_, fun i p q s h1 h2 hs => ?_⟩
  · rw [List.length_drop]
    omega
  · rw [List.map_drop]
    exact h.nd.sublist (List.drop_sublist _ _)
  · rw [List.getElem?_drop] at h1 h2
    exact h.ch (k + i) p q s h1 h2 hs
/-- what a stall holds behind a move -/
theorem own_behind {n : Nat} {s : Stl} (ok : OkSt n s) {w : Nat} (hw : w = s.u ∨ w = s.v) (y : Rat) (v : Nat) : (s.behind w y).own v = s.own v + (if v = w then y else 0) - (if v = s.other w then s.out (s.behind w y) w else 0) := by
  have ne := ok.ne
  have nu : ¬ s.v = s.u := fun z => ne z.symm
  rcases hw with rfl | rfl
  · rw [show s.other s.u = s.v from if_pos rfl]
    unfold Stl.own Stl.at Stl.out Stl.behind Stl.hold Stl.first
    simp only [if_true]
    by_cases h1 : v = s.u
    · subst h1
      simp [ne]
      grind
    · by_cases h2 : v = s.v
      · subst h2
        simp [nu]
        grind
      · simp [h1, h2]
        grind
  · rw [show s.other s.v = s.u from if_neg nu]
    unfold Stl.own Stl.at Stl.out Stl.behind Stl.hold Stl.secnd
    simp only [if_neg nu]
    by_cases h1 : v = s.u
    · subst h1
      simp [ne]
      grind
    · by_cases h2 : v = s.v
      · subst h2
        simp [nu]
        grind
      · simp [h1, h2]
        grind
end My
namespace My
open PySem PySem.Spec PyProof.Rows L2
variable {K : PySem.W.Frag}
theorem Fs.getD' {H : Hp} {ys : List V} {rs : List Rat} (h : Fs K H ys rs) {i : Nat} (hi : i < rs.length) : ∃ v, ys[i]? = some v ∧ IsF K H v (rs.getD i 0) := by
  refine Paired.get' h ?_
  rw [List.getD_eq_getElem?_getD, List.getElem?_eq_getElem hi]
  rfl
end My
namespace My
open PySem PySem.Spec PyProof.Rows L2
variable {K : PySem.W.Frag}
theorem other_ne {a d n : Int} (a0 : 0 ≤ a) (a1 : a < n) (d0 : 0 ≤ d) (d1 : d < n - 1) : 0 ≤ (a + 1 + d) % n ∧ (a + 1 + d) % n < n ∧ (a + 1 + d) % n ≠ a := by
  have m := mod_rng (a + 1 + d) (m := n) (by omega)
  refine ⟨m.1, m.2, ?_⟩
  by_cases h : a + 1 + d < n
  · rw [Int.emod_eq_of_lt (by omega) h]
    omega
  · have e : (a + 1 + d) % n = (a + 1 + d - n) % n := (Int.sub_emod_right _ _).symm
    rw [e, Int.emod_eq_of_lt (by omega) (by omega)]
    omega
section
variable {P : Program} {w : World} {K : PySem.W.Frag} {mg : Str → Option Value} {base : Heap} {f_is_integer f_is_row f_is_fraction f_is_some f_lowest f_multiplied f_squared f_lies_below f_is_stall f_is_ware f_check_ware f_check_two f_across f_hold_of f_is_index f_check_some f_is_step f_end_of f_is_walk f_check_route f_rule_behind f_rule_of f_out_by f_route_out f_routes_on f_best_route f_l_is_integer f_l_source f_l_draw f_l_made f_l_plus f_l_times f_l_over f_l_below f_l_some f_l_stall f_l_stalls f_l_piece f_l_pair f_l_same f_l_rule f_l_comes f_l_routes f_l_fair f_l_web f_l_best f_law f_Web_init f_Web_eq c_BadWare c_Web c_NO_STEPS : Addr} {d_is_integer d_is_row d_is_fraction d_is_some d_lowest d_multiplied d_squared d_lies_below d_is_stall d_is_ware d_check_ware d_check_two d_across d_hold_of d_is_index d_check_some d_is_step d_end_of d_is_walk d_check_route d_rule_behind d_rule_of d_out_by d_route_out d_routes_on d_best_route d_l_is_integer d_l_source d_l_draw d_l_made d_l_plus d_l_times d_l_over d_l_below d_l_some d_l_stall d_l_stalls d_l_piece d_l_pair d_l_same d_l_rule d_l_comes d_l_routes d_l_fair d_l_web d_l_best d_law d_Web_init d_Web_eq : FuncData}
def sp_lsome (K : PySem.W.Frag) (M : Nat) : Sp := fun vs H Q _ => ∃ (D : Addr) (c : Nat), vs = [.ref D] ∧ Src M D H c ∧ c ≤ 2 ^ 39 ∧ ∀ H' v r, Fw D H H' → Src M D H' (c + 3) → IsF K H' v r → Bd 10 r → 0 < r → Q v H'
theorem ok_l_some {M : Nat} (hM : 64 ≤ M) (hM2 : M ≤ 1048576) (T : Txt K mg f_is_integer f_is_row f_is_fraction f_is_some f_lowest f_multiplied f_squared f_lies_below f_is_stall f_is_ware f_check_ware f_check_two f_across f_hold_of f_is_index f_check_some f_is_step f_end_of f_is_walk f_check_route f_rule_behind f_rule_of f_out_by f_route_out f_routes_on f_best_route f_l_is_integer f_l_source f_l_draw f_l_made f_l_plus f_l_times f_l_over f_l_below f_l_some f_l_stall f_l_stalls f_l_piece f_l_pair f_l_same f_l_rule f_l_comes f_l_routes f_l_fair f_l_web f_l_best f_law f_Web_init f_Web_eq c_BadWare c_Web c_NO_STEPS d_is_integer d_is_row d_is_fraction d_is_some d_lowest d_multiplied d_squared d_lies_below d_is_stall d_is_ware d_check_ware d_check_two d_across d_hold_of d_is_index d_check_some d_is_step d_end_of d_is_walk d_check_route d_rule_behind d_rule_of d_out_by d_route_out d_routes_on d_best_route d_l_is_integer d_l_source d_l_draw d_l_made d_l_plus d_l_times d_l_over d_l_below d_l_some d_l_stall d_l_stalls d_l_piece d_l_pair d_l_same d_l_rule d_l_comes d_l_routes d_l_fair d_l_web d_l_best d_law d_Web_init d_Web_eq) : FnOk P w K mg base CX0 2 f_l_some d_l_some ["_law_source_here"] (sp_lsome K M) := by
  have G_l_draw : FnOk P w K mg base CX0 1 f_l_draw d_l_draw ["_law_source_here", "_law_many"] (sp_draw M) := ok_l_draw hM hM2 T
  have G_l_made : FnOk P w K mg base CX0 1 f_l_made d_l_made ["_law_top", "_law_bottom"] (sp_made K) := ok_l_made T
  refine T.F_l_some.ok sc_l_some (fun vs H Q E h => ?_) (fun cdv A outer sh H vs Q E hr h => ?_)
  · obtain ⟨D, c, rfl, _⟩ := h
    rfl
  · obtain ⟨D, c, rfl, dk, hc, q⟩ := h
    refine ⟨_, (pss_cons (ps_set (i := 1) sc_l_some.nd rfl (by first | exact Or.inl rfl | exact Or.inr rfl) (pe_tup (pa_cons (pe_tup (pa_cons pe_int (pa_cons pe_int pa_nil))) (pa_cons (pe_tup (pa_cons pe_int (pa_cons pe_int pa_nil))) (pa_cons (pe_tup (pa_cons pe_int (pa_cons pe_int pa_nil))) (pa_cons (pe_tup (pa_cons pe_int (pa_cons pe_int pa_nil))) (pa_cons (pe_tup (pa_cons pe_int (pa_cons pe_int pa_nil))) (pa_cons (pe_tup (pa_cons pe_int (pa_cons pe_int pa_nil))) (pa_cons (pe_tup (pa_cons pe_int (pa_cons pe_int pa_nil))) (pa_cons (pe_tup (pa_cons pe_int (pa_cons pe_int pa_nil))) (pa_cons (pe_tup (pa_cons pe_int (pa_cons pe_int pa_nil))) (pa_cons (pe_tup (pa_cons pe_int (pa_cons pe_int pa_nil))) pa_nil))))))))))))
      (pss_cons (ps_if (pt_cmpR op_eq (pe_call G_l_draw (hr.mono (by decide)) (by rfl) T.g_l_draw T.k_l_draw T.b_l_draw .nil pass0 (pa_cons (pv 0) (pa_cons pe_int pa_nil))) pe_int (nomark _))
        (pss_one (ps_ret (pe_call G_l_made (hr.mono (by decide)) (by rfl) T.g_l_made T.k_l_made T.b_l_made .nil pass0 (pa_cons (pe_op op_add pe_int (pe_call G_l_draw (hr.mono (by decide)) (by rfl) T.g_l_draw T.k_l_draw T.b_l_draw .nil pass0 (pa_cons (pv 0) (pa_cons pe_int pa_nil)))) (pa_cons (pe_op op_add pe_int (pe_call G_l_draw (hr.mono (by decide)) (by rfl) T.g_l_draw T.k_l_draw T.b_l_draw .nil pass0 (pa_cons (pv 0) (pa_cons pe_int pa_nil)))) pa_nil)))))
        pss_nil)
      (pss_one (ps_ret (pe_ix ix_tup (pv 1) (pe_call G_l_draw (hr.mono (by decide)) (by rfl) T.g_l_draw T.k_l_draw T.b_l_draw .nil pass0 (pa_cons (pv 0) (pa_cons pe_int pa_nil))) (fun _ _ => rfl)))))), ?_⟩
    walk_at "r"
    intro m0 nm0
    have sm0 := same_upd (o := .tup [V.int 1, .int 1]) nm0
    have im0 : IsF K (upd H m0 (.tup [V.int 1, .int 1])) (.ref m0) (1) := isF_new (by decide) (by decide)
    generalize upd H m0 (.tup [V.int 1, .int 1]) = Hm0 at *
    walk_at "r"
    intro m1 nm1
    have sm1 := same_upd (o := .tup [V.int 2, .int 1]) nm1
    have im1 : IsF K (upd Hm0 m1 (.tup [V.int 2, .int 1])) (.ref m1) (2) := isF_new (by decide) (by decide)
    generalize upd Hm0 m1 (.tup [V.int 2, .int 1]) = Hm1 at *
    walk_at "r"
    intro m2 nm2
    have sm2 := same_upd (o := .tup [V.int 1, .int 2]) nm2
    have im2 : IsF K (upd Hm1 m2 (.tup [V.int 1, .int 2])) (.ref m2) (mkRat 1 2) := isF_new (by decide) (by decide)
    generalize upd Hm1 m2 (.tup [V.int 1, .int 2]) = Hm2 at *
    walk_at "r"
    intro m3 nm3
    have sm3 := same_upd (o := .tup [V.int 3, .int 1]) nm3
    have im3 : IsF K (upd Hm2 m3 (.tup [V.int 3, .int 1])) (.ref m3) (3) := isF_new (by decide) (by decide)
    generalize upd Hm2 m3 (.tup [V.int 3, .int 1]) = Hm3 at *
    walk_at "r"
    intro m4 nm4
    have sm4 := same_upd (o := .tup [V.int 2, .int 3]) nm4
    have im4 : IsF K (upd Hm3 m4 (.tup [V.int 2, .int 3])) (.ref m4) (mkRat 2 3) := isF_new (by decide) (by decide)
    generalize upd Hm3 m4 (.tup [V.int 2, .int 3]) = Hm4 at *
    walk_at "r"
    intro m5 nm5
    have sm5 := same_upd (o := .tup [V.int 3, .int 2]) nm5
    have im5 : IsF K (upd Hm4 m5 (.tup [V.int 3, .int 2])) (.ref m5) (mkRat 3 2) := isF_new (by decide) (by decide)
    generalize upd Hm4 m5 (.tup [V.int 3, .int 2]) = Hm5 at *
    walk_at "r"
    intro m6 nm6
    have sm6 := same_upd (o := .tup [V.int 1, .int 4]) nm6
    have im6 : IsF K (upd Hm5 m6 (.tup [V.int 1, .int 4])) (.ref m6) (mkRat 1 4) := isF_new (by decide) (by decide)
    generalize upd Hm5 m6 (.tup [V.int 1, .int 4]) = Hm6 at *
    walk_at "r"
    intro m7 nm7
    have sm7 := same_upd (o := .tup [V.int 5, .int 1]) nm7
    have im7 : IsF K (upd Hm6 m7 (.tup [V.int 5, .int 1])) (.ref m7) (5) := isF_new (by decide) (by decide)
    generalize upd Hm6 m7 (.tup [V.int 5, .int 1]) = Hm7 at *
    walk_at "r"
    intro m8 nm8
    have sm8 := same_upd (o := .tup [V.int 1, .int 10]) nm8
    have im8 : IsF K (upd Hm7 m8 (.tup [V.int 1, .int 10])) (.ref m8) (mkRat 1 10) := isF_new (by decide) (by decide)
    generalize upd Hm7 m8 (.tup [V.int 1, .int 10]) = Hm8 at *
    walk_at "r"
    intro m9 nm9
    have sm9 := same_upd (o := .tup [V.int 7, .int 3]) nm9
    have im9 : IsF K (upd Hm8 m9 (.tup [V.int 7, .int 3])) (.ref m9) (mkRat 7 3) := isF_new (by decide) (by decide)
    generalize upd Hm8 m9 (.tup [V.int 7, .int 3]) = Hm9 at *
    walk_at "r"
    intro mt nmt
    have smt := same_upd (o := .tup [V.ref m0, V.ref m1, V.ref m2, V.ref m3, V.ref m4, V.ref m5, V.ref m6, V.ref m7, V.ref m8, V.ref m9]) nmt
    have hmt : upd Hm9 mt (.tup [V.ref m0, V.ref m1, V.ref m2, V.ref m3, V.ref m4, V.ref m5, V.ref m6, V.ref m7, V.ref m8, V.ref m9]) mt = some (.tup [V.ref m0, V.ref m1, V.ref m2, V.ref m3, V.ref m4, V.ref m5, V.ref m6, V.ref m7, V.ref m8, V.ref m9]) := upd_same
    generalize upd Hm9 mt (.tup [V.ref m0, V.ref m1, V.ref m2, V.ref m3, V.ref m4, V.ref m5, V.ref m6, V.ref m7, V.ref m8, V.ref m9]) = Hmt at *
    have km : Same H Hmt := ((((((((((sm0).trans sm1).trans sm2).trans sm3).trans sm4).trans sm5).trans sm6).trans sm7).trans sm8).trans sm9).trans smt
    have im0 := im0.same ((((((((((sm1).trans sm2).trans sm3).trans sm4).trans sm5).trans sm6).trans sm7).trans sm8).trans sm9).trans smt)
    have im1 := im1.same (((((((((sm2).trans sm3).trans sm4).trans sm5).trans sm6).trans sm7).trans sm8).trans sm9).trans smt)
    have im2 := im2.same ((((((((sm3).trans sm4).trans sm5).trans sm6).trans sm7).trans sm8).trans sm9).trans smt)
    have im3 := im3.same (((((((sm4).trans sm5).trans sm6).trans sm7).trans sm8).trans sm9).trans smt)
    have im4 := im4.same ((((((sm5).trans sm6).trans sm7).trans sm8).trans sm9).trans smt)
    have im5 := im5.same (((((sm6).trans sm7).trans sm8).trans sm9).trans smt)
    have im6 := im6.same ((((sm7).trans sm8).trans sm9).trans smt)
    have im7 := im7.same (((sm8).trans sm9).trans smt)
    have im8 := im8.same ((sm9).trans smt)
    have im9 := im9.same (smt)
    have k0 := dk.same km
    walk_at "r"
    refine ⟨_, _, _, rfl, ⟨by decide, by decide⟩, k0, by omega, fun H1 r1 w1 k1 a1 b1 => ?_⟩
    have f1 : Fw D H H1 := (Same.fw km).trans w1
    walk_at "r"
    walk_at "if"
    · walk_at "r"
      refine ⟨_, _, _, rfl, ⟨by decide, by decide⟩, k1, by omega, fun H2 r2 w2 k2 a2 b2 => ?_⟩
      walk_at "r"
      refine ⟨_, _, _, rfl, ⟨by decide, by decide⟩, k2, by omega, fun H3 r3 w3 k3 a3 b3 => ?_⟩
      walk_at "r"
      have hb : (1 + r3).natAbs < 2 ^ 10 := by omega
      refine ⟨_, _, rfl, by omega, Nat.lt_of_lt_of_le hb (pow_le (by decide)), fun H4 v s4 hv => ?_⟩
      exact q _ _ _ (((f1.trans w2).trans w3).trans (Same.fw s4)) (k3.same s4) hv (Bd.divInt (by omega) (by omega) hb) (divInt_pos (by omega) (by omega))
    · walk_at "r"
      refine ⟨_, _, _, rfl, ⟨by decide, by decide⟩, k1, by omega, fun H2 r2 w2 k2 a2 b2 => ?_⟩
      have t2 : Tps Hmt H2 := fun b xs h => k1.tps w2 _ _ (k0.tps w1 _ _ h)
      obtain ⟨vm, qm, em, im, bm, zm⟩ : ∃ (v : V) (q : Rat), atI [V.ref m0, V.ref m1, V.ref m2, V.ref m3, V.ref m4, V.ref m5, V.ref m6, V.ref m7, V.ref m8, V.ref m9] r2 = some v ∧ IsF K H2 v q ∧ Bd 10 q ∧ 0 < q := by
        rcases (show r2 = 0 ∨ r2 = 1 ∨ r2 = 2 ∨ r2 = 3 ∨ r2 = 4 ∨ r2 = 5 ∨ r2 = 6 ∨ r2 = 7 ∨ r2 = 8 ∨ r2 = 9 by omega) with rfl | rfl | rfl | rfl | rfl | rfl | rfl | rfl | rfl | rfl
        · exact ⟨_, _, rfl, im0.ts (t2), ⟨by decide, by decide⟩, by decide⟩
        · exact ⟨_, _, rfl, im1.ts (t2), ⟨by decide, by decide⟩, by decide⟩
        · exact ⟨_, _, rfl, im2.ts (t2), ⟨by decide, by decide⟩, by decide⟩
        · exact ⟨_, _, rfl, im3.ts (t2), ⟨by decide, by decide⟩, by decide⟩
        · exact ⟨_, _, rfl, im4.ts (t2), ⟨by decide, by decide⟩, by decide⟩
        · exact ⟨_, _, rfl, im5.ts (t2), ⟨by decide, by decide⟩, by decide⟩
        · exact ⟨_, _, rfl, im6.ts (t2), ⟨by decide, by decide⟩, by decide⟩
        · exact ⟨_, _, rfl, im7.ts (t2), ⟨by decide, by decide⟩, by decide⟩
        · exact ⟨_, _, rfl, im8.ts (t2), ⟨by decide, by decide⟩, by decide⟩
        · exact ⟨_, _, rfl, im9.ts (t2), ⟨by decide, by decide⟩, by decide⟩
      refine rd_ixT (t2 _ _ hmt) em ?_
      exact q _ _ _ (f1.trans w2) (k2.mono (by omega)) im bm zm
def sp_lstall (K : PySem.W.Frag) (M : Nat) : Sp := fun vs H Q _ => ∃ (D : Addr) (c n u v : Nat) (vx : V) (x : Rat), vs = [.ref D, .int (u : Nat), .int (v : Nat), vx] ∧ Src M D H c ∧ c ≤ 2 ^ 38 ∧ IsF K H vx x ∧ Bd 10 x ∧ 0 < x ∧ u < n ∧ v < n ∧ u ≠ v ∧
  ∀ H' z s, Fw D H H' → Src M D H' (c + 3) → IsSt K H' z s → OkSt n s → BdSt 20 s → Bd 10 s.r → s.u = u → s.v = v → Q z H'
theorem ok_l_stall {M : Nat} (hM : 64 ≤ M) (hM2 : M ≤ 1048576) (T : Txt K mg f_is_integer f_is_row f_is_fraction f_is_some f_lowest f_multiplied f_squared f_lies_below f_is_stall f_is_ware f_check_ware f_check_two f_across f_hold_of f_is_index f_check_some f_is_step f_end_of f_is_walk f_check_route f_rule_behind f_rule_of f_out_by f_route_out f_routes_on f_best_route f_l_is_integer f_l_source f_l_draw f_l_made f_l_plus f_l_times f_l_over f_l_below f_l_some f_l_stall f_l_stalls f_l_piece f_l_pair f_l_same f_l_rule f_l_comes f_l_routes f_l_fair f_l_web f_l_best f_law f_Web_init f_Web_eq c_BadWare c_Web c_NO_STEPS d_is_integer d_is_row d_is_fraction d_is_some d_lowest d_multiplied d_squared d_lies_below d_is_stall d_is_ware d_check_ware d_check_two d_across d_hold_of d_is_index d_check_some d_is_step d_end_of d_is_walk d_check_route d_rule_behind d_rule_of d_out_by d_route_out d_routes_on d_best_route d_l_is_integer d_l_source d_l_draw d_l_made d_l_plus d_l_times d_l_over d_l_below d_l_some d_l_stall d_l_stalls d_l_piece d_l_pair d_l_same d_l_rule d_l_comes d_l_routes d_l_fair d_l_web d_l_best d_law d_Web_init d_Web_eq) : FnOk P w K mg base CX0 3 f_l_stall d_l_stall ["_law_source_here", "_law_one", "_law_other", "_law_ratio"] (sp_lstall K M) := by
  have G_l_some : FnOk P w K mg base CX0 2 f_l_some d_l_some ["_law_source_here"] (sp_lsome K M) := ok_l_some hM hM2 T
  have G_l_times : FnOk P w K mg base CX0 2 f_l_times d_l_times ["_law_one", "_law_other"] (sp_two9 K (· * ·)) := ok_l_times T
  have G_l_over : FnOk P w K mg base CX0 2 f_l_over d_l_over ["_law_one", "_law_other"] (sp_over K) := ok_l_over T
  refine T.F_l_stall.ok sc_l_stall (fun vs H Q E h => ?_) (fun cdv A outer sh H vs Q E hr h => ?_)
  · obtain ⟨D, c, n, u, v, vx, x, rfl, _⟩ := h
    rfl
  · obtain ⟨D, c, n, u, v, vx, x, rfl, dk, hc, ix, bx, x0, hu, hv, huv, q⟩ := h
    refine ⟨_, (pss_cons (ps_set (i := 4) sc_l_stall.nd rfl (by first | exact Or.inl rfl | exact Or.inr rfl) (pe_call G_l_some (hr.mono (by decide)) (by rfl) T.g_l_some T.k_l_some T.b_l_some .nil pass0 (pa_cons (pv 0) pa_nil)))
      (pss_one (ps_ret (pe_tup (pa_cons (pv 1) (pa_cons (pv 2) (pa_cons (pe_call G_l_times (hr.mono (by decide)) (by rfl) T.g_l_times T.k_l_times T.b_l_times .nil pass0 (pa_cons (pv 4) (pa_cons (pv 3) pa_nil))) (pa_cons (pe_call G_l_over (hr.mono (by decide)) (by rfl) T.g_l_over T.k_l_over T.b_l_over .nil pass0 (pa_cons (pv 4) (pa_cons (pv 3) pa_nil))) (pa_cons (pv 4) pa_nil))))))))), ?_⟩
    walk_at "r"
    refine ⟨_, _, rfl, dk, by omega, fun H1 vr r w1 k1 ir br r0 => ?_⟩
    have ix1 := ix.ts (dk.tps w1)
    walk_at "r"
    refine ⟨_, _, _, _, rfl, ir, ix1, br.mono (by decide), bx.mono (by decide), fun H2 va s2 ia => ?_⟩
    have ia : IsF K H2 va (r * x) := ia
    walk_at "r"
    refine ⟨_, _, _, _, rfl, ir.same s2, ix1.same s2, x0, br.mono (by decide), bx.mono (by decide), fun H3 vb s3 ib => ?_⟩
    walk_at "r"
    intro p np
    have s4 := same_upd (o := .tup [V.int (u : Nat), .int (v : Nat), va, vb, vr]) np
    refine q _ _ ⟨u, v, r * x, r / x, r⟩ (w1.trans (Same.fw ((s2.trans s3).trans s4))) (k1.same ((s2.trans s3).trans s4)) ⟨p, va, vb, vr, rfl, upd_same, (ia.same s3).same s4, ib.same s4, ((ir.same s2).same s3).same s4⟩ ?_ ?_ br rfl rfl
    · refine ⟨hu, hv, huv, Rat.mul_pos r0 x0, div_pos' r0 x0, r0, ?_⟩
      show r * x * (r / x) = r * r
      rw [Rat.mul_assoc, mul_div_self (ne_of_pos x0)]
    · exact ⟨(br.mul bx).mono (by decide), (br.div (ne_of_pos x0) bx).mono (by decide), br.mono (by decide)⟩
end
end My
namespace My
open PySem PySem.Spec PyProof.Rows L2
variable {K : PySem.W.Frag}
theorem Sts.snoc' {H : Hp} {xs : List V} {ss : List Stl} {v : V} {s : Stl} (h : Sts K H xs ss) (hv : IsSt K H v s) : Sts K H (xs ++ [v]) (ss ++ [s]) := by
  unfold Sts at *
  induction h with
  | nil => exact .cons hv .nil
  | cons h t ih => exact .cons h ih
section
variable {P : Program} {w : World} {K : PySem.W.Frag} {mg : Str → Option Value} {base : Heap} {f_is_integer f_is_row f_is_fraction f_is_some f_lowest f_multiplied f_squared f_lies_below f_is_stall f_is_ware f_check_ware f_check_two f_across f_hold_of f_is_index f_check_some f_is_step f_end_of f_is_walk f_check_route f_rule_behind f_rule_of f_out_by f_route_out f_routes_on f_best_route f_l_is_integer f_l_source f_l_draw f_l_made f_l_plus f_l_times f_l_over f_l_below f_l_some f_l_stall f_l_stalls f_l_piece f_l_pair f_l_same f_l_rule f_l_comes f_l_routes f_l_fair f_l_web f_l_best f_law f_Web_init f_Web_eq c_BadWare c_Web c_NO_STEPS : Addr} {d_is_integer d_is_row d_is_fraction d_is_some d_lowest d_multiplied d_squared d_lies_below d_is_stall d_is_ware d_check_ware d_check_two d_across d_hold_of d_is_index d_check_some d_is_step d_end_of d_is_walk d_check_route d_rule_behind d_rule_of d_out_by d_route_out d_routes_on d_best_route d_l_is_integer d_l_source d_l_draw d_l_made d_l_plus d_l_times d_l_over d_l_below d_l_some d_l_stall d_l_stalls d_l_piece d_l_pair d_l_same d_l_rule d_l_comes d_l_routes d_l_fair d_l_web d_l_best d_law d_Web_init d_Web_eq : FuncData}
def sp_lstalls (K : PySem.W.Frag) (M : Nat) : Sp := fun vs H Q _ => ∃ (D : Addr) (c n most : Nat), vs = [.ref D, .int (n : Nat), .int (most : Nat)] ∧ Src M D H c ∧ c ≤ 2 ^ 37 ∧ 1 ≤ n ∧ n ≤ 8 ∧ most ≤ 16 ∧
  ∀ H' S xs ss, Fw D H H' → Src M D H' (c + 200) → H S = none → H' S = some (.lst xs) → Sts K H' xs ss → ss.length ≤ 16 → (∀ s ∈ ss, OkSt n s ∧ BdSt 20 s ∧ Bd 10 s.r) → Q (.ref S) H'
theorem ok_l_stalls {M : Nat} (hM : 64 ≤ M) (hM2 : M ≤ 1048576) (T : Txt K mg f_is_integer f_is_row f_is_fraction f_is_some f_lowest f_multiplied f_squared f_lies_below f_is_stall f_is_ware f_check_ware f_check_two f_across f_hold_of f_is_index f_check_some f_is_step f_end_of f_is_walk f_check_route f_rule_behind f_rule_of f_out_by f_route_out f_routes_on f_best_route f_l_is_integer f_l_source f_l_draw f_l_made f_l_plus f_l_times f_l_over f_l_below f_l_some f_l_stall f_l_stalls f_l_piece f_l_pair f_l_same f_l_rule f_l_comes f_l_routes f_l_fair f_l_web f_l_best f_law f_Web_init f_Web_eq c_BadWare c_Web c_NO_STEPS d_is_integer d_is_row d_is_fraction d_is_some d_lowest d_multiplied d_squared d_lies_below d_is_stall d_is_ware d_check_ware d_check_two d_across d_hold_of d_is_index d_check_some d_is_step d_end_of d_is_walk d_check_route d_rule_behind d_rule_of d_out_by d_route_out d_routes_on d_best_route d_l_is_integer d_l_source d_l_draw d_l_made d_l_plus d_l_times d_l_over d_l_below d_l_some d_l_stall d_l_stalls d_l_piece d_l_pair d_l_same d_l_rule d_l_comes d_l_routes d_l_fair d_l_web d_l_best d_law d_Web_init d_Web_eq) : FnOk P w K mg base CX0 4 f_l_stalls d_l_stalls ["_law_source_here", "_law_wares", "_law_most"] (sp_lstalls K M) := by
  have G_l_draw : FnOk P w K mg base CX0 1 f_l_draw d_l_draw ["_law_source_here", "_law_many"] (sp_draw M) := ok_l_draw hM hM2 T
  have G_l_times : FnOk P w K mg base CX0 2 f_l_times d_l_times ["_law_one", "_law_other"] (sp_two9 K (· * ·)) := ok_l_times T
  have G_l_over : FnOk P w K mg base CX0 2 f_l_over d_l_over ["_law_one", "_law_other"] (sp_over K) := ok_l_over T
  have G_l_stall : FnOk P w K mg base CX0 3 f_l_stall d_l_stall ["_law_source_here", "_law_one", "_law_other", "_law_ratio"] (sp_lstall K M) := ok_l_stall hM hM2 T
  refine T.F_l_stalls.ok sc_l_stalls (fun vs H Q E h => ?_) (fun cdv A outer sh H vs Q E hr h => ?_)
  · obtain ⟨D, c, n, most, rfl, _⟩ := h
    rfl
  · obtain ⟨D, c, n, most, rfl, dk, hc, n1, n8, hmost, q⟩ := h
    refine ⟨_, (pss_cons (ps_setLc (i := 3) (own := [("_law_k", 4)]) (g := gName 4) rfl sc_l_stalls.nd rfl rfl (sw_true rfl rfl rfl (by decide +kernel)) (pi_range1 (by rfl) T.z_range (pa_cons (pv 1) pa_nil)) (blkOk_by (own := [("_law_k", 4)]) (N := N_l_stalls) (sc := defScope s_l_stalls) (by decide +kernel)) (fun _ _ _ _ _ => (pg_name (i := 4) sc_l_stalls.nd rfl (by first | exact Or.inl rfl | exact Or.inr rfl))) (fun _ _ _ _ _ => pts_nil) (fun _ _ _ _ _ => (pe_ix (My.ix_tupK (K := K) (by rfl)) (pe_tup (pa_cons (pe_tup (pa_cons pe_int (pa_cons pe_int pa_nil))) (pa_cons (pe_tup (pa_cons pe_int (pa_cons pe_int pa_nil))) (pa_cons (pe_tup (pa_cons pe_int (pa_cons pe_int pa_nil))) (pa_cons (pe_tup (pa_cons pe_int (pa_cons pe_int pa_nil))) pa_nil))))) (pe_call G_l_draw (hr.mono (by decide)) (by rfl) T.g_l_draw T.k_l_draw T.b_l_draw .nil pass0 (pa_cons (pv 0) (pa_cons pe_int pa_nil))) (fun _ _ => rfl))))
      (pss_cons (ps_set (i := 5) sc_l_stalls.nd rfl (by first | exact Or.inl rfl | exact Or.inr rfl) (pe_cmpR op_eq (pe_call G_l_draw (hr.mono (by decide)) (by rfl) T.g_l_draw T.k_l_draw T.b_l_draw .nil pass0 (pa_cons (pv 0) (pa_cons pe_int pa_nil))) pe_int (nomark _)))
      (pss_cons (ps_set (i := 6) sc_l_stalls.nd rfl (by first | exact Or.inl rfl | exact Or.inr rfl) (pe_lst pa_nil))
      (pss_cons (ps_if (pt_cmpR op_gt (pv 1) pe_int (nomark _))
        (pss_one (ps_for PassesOwn.never rfl (pi_range1 (by rfl) T.z_range (pa_cons (pe_call G_l_draw (hr.mono (by decide)) (by rfl) T.g_l_draw T.k_l_draw T.b_l_draw .nil pass0 (pa_cons (pv 0) (pa_cons (pe_op op_add (pv 2) pe_int) pa_nil))) pa_nil)) (pg_name (i := 4) sc_l_stalls.nd rfl (by first | exact Or.inl rfl | exact Or.inr rfl))
            (pss_cons (ps_set (i := 7) sc_l_stalls.nd rfl (by first | exact Or.inl rfl | exact Or.inr rfl) (pe_call G_l_draw (hr.mono (by decide)) (by rfl) T.g_l_draw T.k_l_draw T.b_l_draw .nil pass0 (pa_cons (pv 0) (pa_cons (pv 1) pa_nil))))
              (pss_cons (ps_set (i := 8) sc_l_stalls.nd rfl (by first | exact Or.inl rfl | exact Or.inr rfl) (pe_op op_mod (pe_callTy call_intN (by rfl) T.z_int (by decide +kernel) (pa_cons (pe_op op_add (pe_op op_add (pv 7) pe_int) (pe_call G_l_draw (hr.mono (by decide)) (by rfl) T.g_l_draw T.k_l_draw T.b_l_draw .nil pass0 (pa_cons (pv 0) (pa_cons (pe_op op_sub (pv 1) pe_int) pa_nil)))) pa_nil)) (pv 1)))
              (pss_cons (ps_set (i := 9) sc_l_stalls.nd rfl (by first | exact Or.inl rfl | exact Or.inr rfl) (pe_call G_l_over (hr.mono (by decide)) (by rfl) T.g_l_over T.k_l_over T.b_l_over .nil pass0 (pa_cons (pe_ix ix_list (pv 3) (pv 8) (fun _ _ => rfl)) (pa_cons (pe_ix ix_list (pv 3) (pv 7) (fun _ _ => rfl)) pa_nil))))
              (C8.pss_cut (ps_if (pt_not (pt_val (pv 5)))
                (pss_one (ps_set (i := 9) sc_l_stalls.nd rfl (by first | exact Or.inl rfl | exact Or.inr rfl) (pe_call G_l_times (hr.mono (by decide)) (by rfl) T.g_l_times T.k_l_times T.b_l_times .nil pass0 (pa_cons (pv 9) (pa_cons (pe_ix ix_tup (pe_tup (pa_cons (pe_tup (pa_cons pe_int (pa_cons pe_int pa_nil))) (pa_cons (pe_tup (pa_cons pe_int (pa_cons pe_int pa_nil))) (pa_cons (pe_tup (pa_cons pe_int (pa_cons pe_int pa_nil))) (pa_cons (pe_tup (pa_cons pe_int (pa_cons pe_int pa_nil))) pa_nil))))) (pe_call G_l_draw (hr.mono (by decide)) (by rfl) T.g_l_draw T.k_l_draw T.b_l_draw .nil pass0 (pa_cons (pv 0) (pa_cons pe_int pa_nil))) (fun _ _ => rfl)) pa_nil)))))
                pss_nil)
              (pss_one (ps_expr (pe_bm PySem.F.plainAttrs_list PySem.F.slot_list_append PySem.F.type_list_append mt_append (pv 6) (pa_cons (pe_call G_l_stall (hr.mono (by decide)) (by rfl) T.g_l_stall T.k_l_stall T.b_l_stall .nil pass0 (pa_cons (pv 0) (pa_cons (pv 7) (pa_cons (pv 8) (pa_cons (pv 9) pa_nil))))) pa_nil))))))))))
        pss_nil)
      (pss_one (ps_ret (pv 6))))))), ?_⟩
    walk_at "r"
    refine ⟨by omega, by omega, fun Sc nSc => ?_⟩
    have nScD := dk.ne nSc
    refine lc_range (lo := 0) (n := n) (fun j H' => ∃ ys rs, Fw D H H' ∧ H' Sc = some (.lst ys) ∧ Fs K H' ys rs ∧ rs.length = j ∧ (∀ r ∈ rs, 0 < r ∧ Bd 2 r) ∧ Src M D H' (c + j)) ?_ ?_ ?_
    · exact ⟨[], [], Same.fw (same_upd nSc), upd_same, .nil, rfl, by simp, dk.same (same_upd nSc)⟩
    · rintro j H' hj ⟨ys, rs, f1, hSc, hfs, hlr, hrs, k⟩
      have hly := hfs.len
      walk_at "r"
      refine ⟨rfl, ?_⟩
      walk_at "r"
      intro m0 nm0
      have sm0 := same_upd (o := .tup [V.int 1, .int 1]) nm0
      have im0 : IsF K (upd H' m0 (.tup [V.int 1, .int 1])) (.ref m0) (1) := isF_new (by decide) (by decide)
      generalize upd H' m0 (.tup [V.int 1, .int 1]) = Hm0 at *
      walk_at "r"
      intro m1 nm1
      have sm1 := same_upd (o := .tup [V.int 2, .int 1]) nm1
      have im1 : IsF K (upd Hm0 m1 (.tup [V.int 2, .int 1])) (.ref m1) (2) := isF_new (by decide) (by decide)
      generalize upd Hm0 m1 (.tup [V.int 2, .int 1]) = Hm1 at *
      walk_at "r"
      intro m2 nm2
      have sm2 := same_upd (o := .tup [V.int 1, .int 2]) nm2
      have im2 : IsF K (upd Hm1 m2 (.tup [V.int 1, .int 2])) (.ref m2) (mkRat 1 2) := isF_new (by decide) (by decide)
      generalize upd Hm1 m2 (.tup [V.int 1, .int 2]) = Hm2 at *
      walk_at "r"
      intro m3 nm3
      have sm3 := same_upd (o := .tup [V.int 3, .int 1]) nm3
      have im3 : IsF K (upd Hm2 m3 (.tup [V.int 3, .int 1])) (.ref m3) (3) := isF_new (by decide) (by decide)
      generalize upd Hm2 m3 (.tup [V.int 3, .int 1]) = Hm3 at *
      walk_at "r"
      intro mt nmt
      have smt := same_upd (o := .tup [V.ref m0, V.ref m1, V.ref m2, V.ref m3]) nmt
      have hmt : upd Hm3 mt (.tup [V.ref m0, V.ref m1, V.ref m2, V.ref m3]) mt = some (.tup [V.ref m0, V.ref m1, V.ref m2, V.ref m3]) := upd_same
      generalize upd Hm3 mt (.tup [V.ref m0, V.ref m1, V.ref m2, V.ref m3]) = Hmt at *
      have km : Same H' Hmt := ((((sm0).trans sm1).trans sm2).trans sm3).trans smt
      have im0 := im0.same ((((sm1).trans sm2).trans sm3).trans smt)
      have im1 := im1.same (((sm2).trans sm3).trans smt)
      have im2 := im2.same ((sm3).trans smt)
      have im3 := im3.same (smt)
      walk_at "r"
      have kk := k.same km
      refine ⟨_, _, _, rfl, ⟨by decide, by decide⟩, kk, by omega, fun H2 r2 w2 k2 a2 b2 => ?_⟩
      have t2 : Tps Hmt H2 := kk.tps w2
      obtain ⟨vm, qm, em, im, bm, zm⟩ : ∃ (v : V) (q : Rat), atI [V.ref m0, V.ref m1, V.ref m2, V.ref m3] r2 = some v ∧ IsF K H2 v q ∧ Bd 2 q ∧ 0 < q := by
        rcases (show r2 = 0 ∨ r2 = 1 ∨ r2 = 2 ∨ r2 = 3 by omega) with rfl | rfl | rfl | rfl
        · exact ⟨_, _, rfl, im0.ts (t2), ⟨by decide, by decide⟩, by decide⟩
        · exact ⟨_, _, rfl, im1.ts (t2), ⟨by decide, by decide⟩, by decide⟩
        · exact ⟨_, _, rfl, im2.ts (t2), ⟨by decide, by decide⟩, by decide⟩
        · exact ⟨_, _, rfl, im3.ts (t2), ⟨by decide, by decide⟩, by decide⟩
      refine rd_ixT (t2 _ _ hmt) em ?_
      have hSc2 := w2 _ _ nScD (km _ _ hSc)
      have tp := tps_put (H1 := H2) (o := .lst (ys ++ [vm])) hSc2
      refine ⟨ys, hSc2, small1000 (by omega), ys ++ [vm], rs ++ [qm], fun b o hb' h => (upd_ne (ne_of_none h nSc)).trans (w2 _ _ hb' (km _ _ (f1 _ _ hb' h))), upd_same, ?_, by simp [hlr], ?_, (k2.put nScD).mono (by omega)⟩
      · exact Paired.snoc (((hfs.same km).ts t2).ts tp) (im.ts tp)
      · intro r hr
        rcases List.mem_append.mp hr with h | h
        · exact hrs r h
        · rw [List.mem_singleton.mp h]
          exact ⟨zm, bm⟩
    rintro H1 ⟨ys, rs, f1, hSc, hfs, hlr, hrs, k1⟩
    have hly := hfs.len
    walk_at "r"
    refine ⟨_, _, _, rfl, ⟨by decide, by decide⟩, k1, by omega, fun H2 r2 w2 k2 a2 b2 => ?_⟩
    have f2 := f1.trans w2
    have hSc2 := w2 _ _ nScD hSc
    have hfs2 := hfs.ts (k1.tps w2)
    walk_at "r"
    generalize decide (r2 = 0) = ev
    intro S nS
    have s3 := same_upd (o := .lst ([] : List V)) nS
    have hS3 : upd H2 S (.lst []) S = some (.lst []) := upd_same
    have nSD := k2.ne nS
    have nSa : H S = none := by
      cases e : H S with
      | none => rfl
      | some o => exact absurd ((f2 _ _ nSD e).symm.trans nS) (by simp)
    generalize upd H2 S (.lst []) = H3 at *
    have k3 := k2.same s3
    have f3 := f2.trans (Same.fw s3)
    have hSc3 := s3 _ _ hSc2
    have hfs3 := hfs2.same s3
    have hScS : Sc ≠ S := ne_of_none hSc2 nS
    clear f1 hSc hfs k1 w2 f2 hSc2 hfs2 k2 s3
    walk_at "r"
    walk_at "if"
    · rename_i hn1
      walk_at "r"
      refine ⟨_, _, _, rfl, ⟨by omega, by omega⟩, k3, by omega, fun H4 r4 w4 k4 a4 b4 => ?_⟩
      walk_at "r"
      refine ⟨by omega, by omega, ?_⟩
      refine for_range (lo := 0) (n := r4.toNat) (fun i σ H' => ∃ (t3 t4 t6 t7 t8 : Option V) (xs : List V) (ss : List Stl), σ = [some (.ref D), some (.int (n : Nat)), some (.int (most : Nat)), some (.ref Sc), t4, some (.bl ev), some (.ref S), t6, t7, t8] ∧ Fw D H H' ∧ Src M D H' (c + 20 + 6 * i) ∧ H' Sc = some (.lst ys) ∧ Fs K H' ys rs ∧
        H' S = some (.lst xs) ∧ Sts K H' xs ss ∧ ss.length = i ∧ ∀ s ∈ ss, OkSt n s ∧ BdSt 20 s ∧ Bd 10 s.r) ?_ ?_ ?_
      · exact ⟨none, _, _, _, _, [], [], rfl, f3.trans w4, k4.mono (by omega), w4 _ _ nScD hSc3, hfs3.ts (k3.tps w4), w4 _ _ nSD hS3, .nil, rfl, by simp⟩
      · rintro i σ H5 hi ⟨t3, t4, t6, t7, t8, xs, ss, rfl, f5, k5, hSc5, hfs5, hS5, hst5, hls, hok⟩
        have hi : i < 16 := by omega
        have hlx := hst5.len
        walk_at "r"
        refine ⟨_, _, _, rfl, ⟨by omega, by omega⟩, k5, by omega, fun H6 r6 w6 k6 a6 b6 => ?_⟩
        walk_at "r"
        refine ⟨_, _, _, rfl, ⟨by omega, by omega⟩, k6, by omega, fun H7 r7 w7 k7 a7 b7 => ?_⟩
        obtain ⟨m1, m2, m3⟩ := other_ne a6 b6 a7 (show r7 < (n : Nat) - 1 by omega)
        obtain ⟨u, rfl⟩ := Int.eq_ofNat_of_zero_le a6
        obtain ⟨v, hv⟩ := Int.eq_ofNat_of_zero_le m1
        have w67 := w6.trans w7
        have t67 : Tps H5 H7 := fun b xs h => k6.tps w7 _ _ (k5.tps w6 _ _ h)
        have hSc7 := w67 _ _ nScD hSc5
        have hfs7 := hfs5.ts t67
        rw [hv] at m2 m3
        obtain ⟨vu, hvu, iu⟩ := hfs7.getD' (i := u) (by omega)
        obtain ⟨vv, hvv, iv⟩ := hfs7.getD' (i := v) (by omega)
        obtain ⟨pu, bu⟩ := hrs _ (getD_mem' (l := rs) (i := u) (by omega))
        obtain ⟨pv, bv⟩ := hrs _ (getD_mem' (l := rs) (i := v) (by omega))
        walk_at "r"
        rw [hv]
        walk_at "r"
        refine rd_ixL hSc7 (at_some hvv) ?_
        walk_at "r"
        refine rd_ixL hSc7 (at_some hvu) ?_
        walk_at "r"
        refine ⟨_, _, _, _, rfl, iv, iu, pu, bv.mono (by decide), bu.mono (by decide), fun H8 vx s8 ix => ?_⟩
        have k8 := k7.same s8
        have bx : Bd 4 (rs.getD v 0 / rs.getD u 0) := bv.div (ne_of_pos pu) bu
        have px : 0 < rs.getD v 0 / rs.getD u 0 := div_pos' pv pu
        generalize rs.getD v 0 / rs.getD u 0 = x at *
        walk_at "r"
        refine ⟨fun σ H' => ∃ (vx' : V) (x' : Rat), σ = [some (.ref D), some (.int (n : Nat)), some (.int (most : Nat)), some (.ref Sc), some (.int (0 + (i : Nat))), some (.bl ev), some (.ref S), some (.int (u : Nat)), some (.int (v : Nat)), some vx'] ∧ Fw D H8 H' ∧ Src M D H' (c + 20 + 6 * i + 3) ∧ IsF K H' vx' x' ∧ Bd 6 x' ∧ 0 < x', ?_, ?_⟩
        · cases ev
          · walk_at "r"
            intro e0 ne0
            have se0 := same_upd (o := .tup [V.int 1, .int 1]) ne0
            have ie0 : IsF K (upd H8 e0 (.tup [V.int 1, .int 1])) (.ref e0) (1) := isF_new (by decide) (by decide)
            generalize upd H8 e0 (.tup [V.int 1, .int 1]) = He0 at *
            walk_at "r"
            intro e1 ne1
            have se1 := same_upd (o := .tup [V.int 2, .int 1]) ne1
            have ie1 : IsF K (upd He0 e1 (.tup [V.int 2, .int 1])) (.ref e1) (2) := isF_new (by decide) (by decide)
            generalize upd He0 e1 (.tup [V.int 2, .int 1]) = He1 at *
            walk_at "r"
            intro e2 ne2
            have se2 := same_upd (o := .tup [V.int 1, .int 2]) ne2
            have ie2 : IsF K (upd He1 e2 (.tup [V.int 1, .int 2])) (.ref e2) (mkRat 1 2) := isF_new (by decide) (by decide)
            generalize upd He1 e2 (.tup [V.int 1, .int 2]) = He2 at *
            walk_at "r"
            intro e3 ne3
            have se3 := same_upd (o := .tup [V.int 3, .int 2]) ne3
            have ie3 : IsF K (upd He2 e3 (.tup [V.int 3, .int 2])) (.ref e3) (mkRat 3 2) := isF_new (by decide) (by decide)
            generalize upd He2 e3 (.tup [V.int 3, .int 2]) = He3 at *
            walk_at "r"
            intro et net
            have set := same_upd (o := .tup [V.ref e0, V.ref e1, V.ref e2, V.ref e3]) net
            have het : upd He3 et (.tup [V.ref e0, V.ref e1, V.ref e2, V.ref e3]) et = some (.tup [V.ref e0, V.ref e1, V.ref e2, V.ref e3]) := upd_same
            generalize upd He3 et (.tup [V.ref e0, V.ref e1, V.ref e2, V.ref e3]) = Het at *
            have ke : Same H8 Het := ((((se0).trans se1).trans se2).trans se3).trans set
            have ie0 := ie0.same ((((se1).trans se2).trans se3).trans set)
            have ie1 := ie1.same (((se2).trans se3).trans set)
            have ie2 := ie2.same ((se3).trans set)
            have ie3 := ie3.same (set)
            walk_at "r"
            have kk := k8.same ke
            refine ⟨_, _, _, rfl, ⟨by decide, by decide⟩, kk, by omega, fun H9 r9 w9 k9 a9 b9 => ?_⟩
            have t9 : Tps Het H9 := kk.tps w9
            obtain ⟨ve, qe, ee, ie, be, ze⟩ : ∃ (v : V) (q : Rat), atI [V.ref e0, V.ref e1, V.ref e2, V.ref e3] r9 = some v ∧ IsF K H9 v q ∧ Bd 2 q ∧ 0 < q := by
              rcases (show r9 = 0 ∨ r9 = 1 ∨ r9 = 2 ∨ r9 = 3 by omega) with rfl | rfl | rfl | rfl
              · exact ⟨_, _, rfl, ie0.ts (t9), ⟨by decide, by decide⟩, by decide⟩
              · exact ⟨_, _, rfl, ie1.ts (t9), ⟨by decide, by decide⟩, by decide⟩
              · exact ⟨_, _, rfl, ie2.ts (t9), ⟨by decide, by decide⟩, by decide⟩
              · exact ⟨_, _, rfl, ie3.ts (t9), ⟨by decide, by decide⟩, by decide⟩
            refine rd_ixT (t9 _ _ het) ee ?_
            walk_at "r"
            refine ⟨_, _, _, _, rfl, (ix.same ke).ts t9, ie, bx.mono (by decide), be.mono (by decide), fun H10 v10 s10 h10 => ?_⟩
            walk_at "r"
            exact ⟨v10, _, rfl, ((Same.fw ke).trans w9).trans (Same.fw s10), (k9.same s10).mono (by omega), h10, bx.mul be, Rat.mul_pos px ze⟩
          · walk_at "r"
            exact ⟨vx, x, rfl, Same.fw (Same.refl _), k8.mono (by omega), ix, bx.mono (by decide), px⟩
        rintro σ H9 ⟨vx', x', rfl, w9, k9, ix9, bx9, px9⟩
        have bx9 := bx9.mono (show 6 ≤ 10 by decide)
        have hSc8 := s8 _ _ hSc7
        have t89 : Tps H8 H9 := k8.tps w9
        have t59 : Tps H5 H9 := fun b xs h => t89 _ _ (s8 _ _ (t67 _ _ h))
        have hS9 := w9 _ _ nSD (s8 _ _ (w67 _ _ nSD hS5))
        have hSc9 := w9 _ _ nScD hSc8
        have hfs9 := hfs5.ts t59
        have hst9 := hst5.ts t59
        have f9 := (f5.trans w67).trans ((Same.fw s8).trans w9)
        clear f5 k5 hSc5 hfs5 hS5 hst5 w6 w7 k6 k7 w67 t67 hSc7 hfs7 iu iv s8 ix k8 hSc8 t89 t59 w9
        walk_at "r"
        refine ⟨Or.inl ⟨rfl, _, Or.inl (Or.inl hS9)⟩, ?_⟩
        walk_at "r"
        refine ⟨D, _, n, u, v, vx', x', rfl, k9, by omega, ix9, bx9, px9, by omega, by omega, by omega, fun H10 z s w10 k10 is ok bs br _ _ => ?_⟩
        have hS10 := w10 _ _ nSD hS9
        have t10 : Tps H9 H10 := k9.tps w10
        have tp := tps_put (H1 := H10) (o := .lst (xs ++ [z])) hS10
        refine ⟨S, xs, z, rfl, rfl, hS10, small1000 (by omega), ?_⟩
        refine ⟨none, _, _, _, _, xs ++ [z], ss ++ [s], rfl, fun b o hb h => (upd_ne (ne_of_none h nSa)).trans (w10 _ _ hb (f9 _ _ hb h)), (k10.put nSD).mono (by omega), (upd_ne hScS).trans (w10 _ _ nScD hSc9), (hfs9.ts t10).ts tp, upd_same, ((hst9.ts t10).snoc' is).ts tp, by simp [hls], fun t ht => ?_⟩
        rcases List.mem_append.mp ht with h | h
        · exact hok t h
        · rw [List.mem_singleton.mp h]
          exact ⟨ok, bs, br⟩
      · rintro σ H5 ⟨t3, t4, t6, t7, t8, xs, ss, rfl, f5, k5, hSc5, hfs5, hS5, hst5, hls, hok⟩
        walk_at "r"
        exact q _ _ _ _ f5 (k5.mono (by omega)) nSa hS5 hst5 (by omega) hok
    · walk_at "r"
      exact q _ _ _ _ f3 (k3.mono (by omega)) nSa hS3 .nil (by simp) (by simp)
end
end My
namespace My
open PySem PySem.Spec PyProof.Rows L2
theorem tuple_mul1 (l : Addr) (items : Array Value) (n : Nat) (dd : Option Addr) (sl : Array (Option Value)) (u : Tok) :
    Meets (Builtin.«tuple.__mul__» ⟨[.ref l, .int 1 u], []⟩) (fun _ R s => s.heap.get? l = some { cls := .type "tuple", dict := dd, data := .seq items n, slots := sl } ∧ R (.ok (.ret (Value.ref l))) s) :=
  .of_wp fun prog w A R s h => by
    obtain ⟨hp, g, d, tk, os⟩ := s
    obtain ⟨hl, h⟩ := h
    have f1 := AutoSeq1.idx_int
    have c0 : (decide ((1 : Int) < -(2 ^ 63)) || decide ((1 : Int) ≥ 2 ^ 63)) = false := by decide
    have c1 : (items.isEmpty || (1 : Int) == 1) = true := by simp
    wp_walk using wpAny_loadPart' hl
    repeat (first
      | (refine wpAny_ite_false (decide_eq_false (by rw [c0]; exact Bool.false_ne_true)) ?_; wp_walk using wpAny_loadPart' hl)
      | (refine wpAny_ite_true (decide_eq_true c1) ?_; wp_walk using wpAny_loadPart' hl))
    exact ⟨_, rfl, h⟩
def rRepU (K : PySem.W.Frag) : R2 := fun x y H Q => ∃ l k xs, x = .ref l ∧ y = .int k ∧ SqT K H l xs ∧ xs ≠ [] ∧ ((2 ≤ k ∧ k ≤ 1000 ∧ xs.length ≤ 1000 ∧ ∀ p, H p = none → Q (.ref p) (upd H p (.tup (List.replicate k.toNat xs).flatten))) ∨ (k = 1 ∧ Q (.ref l) H))
theorem op_repU {X : Cx} : OpR X (binaryOp .Mult) (rRepU X.K) := by
  intro pins s σ H x y v u Q I rx ry h
  obtain ⟨l, k, xs, e1, e2, hT, hne, h⟩ := h
  rcases h with ⟨h1, h2, hz, q⟩ | ⟨rfl, q⟩
  · exact op_repT pins s σ H x y v u Q I rx ry ⟨l, k, xs, e1, e2, hT, hne, h1, h2, hz, q⟩
  subst e1 e2
  have rx' := rx
  cases rx
  obtain ⟨t, rfl⟩ := ry
  obtain ⟨its, r, ⟨⟨cls, dd, data, sl⟩, ho, hc, n, hd⟩, hs⟩ := I.tuple hT
  simp only at hc hd
  subst hc hd
  refine wpAny_binaryOp_repeat_ref (T := "tuple") (U := "int") (by decide) ⟨_, ho, rfl⟩ (fun s' => typeIs_int s' 1 t) noFill_tuple_mul F.fills_int_mul F.slot_int_rmul repeat_tuple F.slot_int_index.lookup
    (call_meets F.slot_int_rmul (typeIs_int s 1 t) F.entry_int_rmul (F.args_int_rmul_2 _ _) (int_rmul_tuple 1 t l its.toArray n dd sl)
      ⟨ho, rfl, ⟨_, ho, rfl⟩, call_meets F.slot_tuple_mul ⟨_, ho, rfl⟩ F.entry_tuple_mul (F.args_tuple_mul_2 _ _) (tuple_mul1 l its.toArray n dd sl t) ⟨ho, ?_⟩⟩)
  exact ⟨_, H, I, rx', q⟩
end My
namespace My
open PySem PySem.Spec PyProof.Rows L2
variable {K : PySem.W.Frag}
theorem Tk_take {ks : List Nat} {i k : Nat} (h : ks[i]? = some k) : Tk (ks.take (i + 1)) = Tk (ks.take i) + (k + 1) := by
  unfold Tk
  rw [take_at h, List.map_append, List.sum_append]
  simp
theorem Tk_take_le (ks : List Nat) (i : Nat) : Tk (ks.take i) ≤ Tk ks := by
  unfold Tk
  induction ks generalizing i with
  | nil => simp
  | cons k ks ih =>
    cases i with
    | zero => simp
    | succ i =>
      rw [List.take_succ_cons, List.map_cons, List.map_cons, List.sum_cons, List.sum_cons]
      have := ih i
      omega
theorem fair_at {i : Int} (h0 : 0 ≤ i) (h1 : i < 8) : ∃ n : Nat, 1 ≤ n ∧ n ≤ 8 ∧ atI [V.int 2, V.int 2, V.int 3, V.int 3, V.int 3, V.int 4, V.int 4, V.int 5] i = some (.int (n : Nat)) := by
  rcases (show i = 0 ∨ i = 1 ∨ i = 2 ∨ i = 3 ∨ i = 4 ∨ i = 5 ∨ i = 6 ∨ i = 7 by omega) with rfl | rfl | rfl | rfl | rfl | rfl | rfl | rfl
  · exact ⟨2, by decide, by decide, rfl⟩
  · exact ⟨2, by decide, by decide, rfl⟩
  · exact ⟨3, by decide, by decide, rfl⟩
  · exact ⟨3, by decide, by decide, rfl⟩
  · exact ⟨3, by decide, by decide, rfl⟩
  · exact ⟨4, by decide, by decide, rfl⟩
  · exact ⟨4, by decide, by decide, rfl⟩
  · exact ⟨5, by decide, by decide, rfl⟩
theorem fs_rep' {H : Hp} {x : V} {r : Rat} (h : IsF K H x r) : ∀ n : Nat, Fs K H (List.replicate n x) (List.replicate n r)
  | 0 => .nil
  | n + 1 => .cons h (fs_rep' h n)
theorem flat_one' {α : Type} (x : α) : ∀ n : Nat, (List.replicate n [x]).flatten = List.replicate n x
  | 0 => rfl
  | n + 1 => by rw [List.replicate_succ, List.flatten_cons, flat_one' x n, List.replicate_succ]; rfl
section
variable {P : Program} {w : World} {K : PySem.W.Frag} {mg : Str → Option Value} {base : Heap} {f_is_integer f_is_row f_is_fraction f_is_some f_lowest f_multiplied f_squared f_lies_below f_is_stall f_is_ware f_check_ware f_check_two f_across f_hold_of f_is_index f_check_some f_is_step f_end_of f_is_walk f_check_route f_rule_behind f_rule_of f_out_by f_route_out f_routes_on f_best_route f_l_is_integer f_l_source f_l_draw f_l_made f_l_plus f_l_times f_l_over f_l_below f_l_some f_l_stall f_l_stalls f_l_piece f_l_pair f_l_same f_l_rule f_l_comes f_l_routes f_l_fair f_l_web f_l_best f_law f_Web_init f_Web_eq c_BadWare c_Web c_NO_STEPS : Addr} {d_is_integer d_is_row d_is_fraction d_is_some d_lowest d_multiplied d_squared d_lies_below d_is_stall d_is_ware d_check_ware d_check_two d_across d_hold_of d_is_index d_check_some d_is_step d_end_of d_is_walk d_check_route d_rule_behind d_rule_of d_out_by d_route_out d_routes_on d_best_route d_l_is_integer d_l_source d_l_draw d_l_made d_l_plus d_l_times d_l_over d_l_below d_l_some d_l_stall d_l_stalls d_l_piece d_l_pair d_l_same d_l_rule d_l_comes d_l_routes d_l_fair d_l_web d_l_best d_law d_Web_init d_Web_eq : FuncData}
def sp_lfair (K : PySem.W.Frag) (M : Nat) : Sp := fun vs H Q _ => ∃ (D : Addr) (c : Nat), vs = [.ref D] ∧ Src M D H c ∧ c ≤ 2 ^ 36 ∧
  ∀ H' L S n xs ss, Fw D H H' → Src M D H' (c + 250) → H' L = some (.lst [.ref S, .int (n : Nat)]) → S ≠ D → H' S = some (.lst xs) → Sts K H' xs ss → ss.length ≤ 16 → (∀ s ∈ ss, OkSt n s ∧ BdSt 20 s ∧ Bd 10 s.r) → 1 ≤ n → n ≤ 8 → Q (.ref L) H'
theorem ok_l_fair {M : Nat} (hM : 64 ≤ M) (hM2 : M ≤ 1048576) (T : Txt K mg f_is_integer f_is_row f_is_fraction f_is_some f_lowest f_multiplied f_squared f_lies_below f_is_stall f_is_ware f_check_ware f_check_two f_across f_hold_of f_is_index f_check_some f_is_step f_end_of f_is_walk f_check_route f_rule_behind f_rule_of f_out_by f_route_out f_routes_on f_best_route f_l_is_integer f_l_source f_l_draw f_l_made f_l_plus f_l_times f_l_over f_l_below f_l_some f_l_stall f_l_stalls f_l_piece f_l_pair f_l_same f_l_rule f_l_comes f_l_routes f_l_fair f_l_web f_l_best f_law f_Web_init f_Web_eq c_BadWare c_Web c_NO_STEPS d_is_integer d_is_row d_is_fraction d_is_some d_lowest d_multiplied d_squared d_lies_below d_is_stall d_is_ware d_check_ware d_check_two d_across d_hold_of d_is_index d_check_some d_is_step d_end_of d_is_walk d_check_route d_rule_behind d_rule_of d_out_by d_route_out d_routes_on d_best_route d_l_is_integer d_l_source d_l_draw d_l_made d_l_plus d_l_times d_l_over d_l_below d_l_some d_l_stall d_l_stalls d_l_piece d_l_pair d_l_same d_l_rule d_l_comes d_l_routes d_l_fair d_l_web d_l_best d_law d_Web_init d_Web_eq) : FnOk P w K mg base CX0 5 f_l_fair d_l_fair ["_law_source_here"] (sp_lfair K M) := by
  have G_l_draw : FnOk P w K mg base CX0 1 f_l_draw d_l_draw ["_law_source_here", "_law_many"] (sp_draw M) := ok_l_draw hM hM2 T
  have G_l_stalls : FnOk P w K mg base CX0 4 f_l_stalls d_l_stalls ["_law_source_here", "_law_wares", "_law_most"] (sp_lstalls K M) := ok_l_stalls hM hM2 T
  refine T.F_l_fair.ok sc_l_fair (fun vs H Q E h => ?_) (fun cdv A outer sh H vs Q E hr h => ?_)
  · obtain ⟨D, c, rfl, _⟩ := h
    rfl
  · obtain ⟨D, c, rfl, dk, hc, q⟩ := h
    refine ⟨_, (pss_cons (ps_set (i := 1) sc_l_fair.nd rfl (by first | exact Or.inl rfl | exact Or.inr rfl) (pe_call G_l_draw (hr.mono (by decide)) (by rfl) T.g_l_draw T.k_l_draw T.b_l_draw .nil pass0 (pa_cons (pv 0) (pa_cons pe_int pa_nil))))
      (pss_cons (ps_set (i := 2) sc_l_fair.nd rfl (by first | exact Or.inl rfl | exact Or.inr rfl) (pe_ix ix_tup (pe_tup (pa_cons pe_int (pa_cons pe_int (pa_cons pe_int (pa_cons pe_int (pa_cons pe_int (pa_cons pe_int (pa_cons pe_int (pa_cons pe_int pa_nil))))))))) (pe_call G_l_draw (hr.mono (by decide)) (by rfl) T.g_l_draw T.k_l_draw T.b_l_draw .nil pass0 (pa_cons (pv 0) (pa_cons pe_int pa_nil))) (fun _ _ => rfl)))
      (pss_cons (ps_set (i := 3) sc_l_fair.nd rfl (by first | exact Or.inl rfl | exact Or.inr rfl) pe_int)
      (C8.pss_cut (ps_if (pt_cmpR op_eq (pv 1) pe_int (nomark _))
        (pss_cons (ps_set (i := 2) sc_l_fair.nd rfl (by first | exact Or.inl rfl | exact Or.inr rfl) pe_int)
          (pss_one (ps_set (i := 3) sc_l_fair.nd rfl (by first | exact Or.inl rfl | exact Or.inr rfl) pe_int)))
        pss_nil)
      (C8.pss_cut (ps_if (pt_cmpR op_eq (pv 1) pe_int (nomark _))
        (pss_one (ps_set (i := 2) sc_l_fair.nd rfl (by first | exact Or.inl rfl | exact Or.inr rfl) pe_int))
        pss_nil)
      (pss_one (ps_ret (pe_lst (pa_cons (pe_call G_l_stalls (hr.mono (by decide)) (by rfl) T.g_l_stalls T.k_l_stalls T.b_l_stalls .nil pass0 (pa_cons (pv 0) (pa_cons (pv 2) (pa_cons (pv 3) pa_nil)))) (pa_cons (pv 2) pa_nil)))))))))), ?_⟩
    walk_at "r"
    refine ⟨_, _, _, rfl, ⟨by decide, by decide⟩, dk, by omega, fun H1 pk w1 k1 a1 b1 => ?_⟩
    walk_at "r"
    intro pm nm
    have sm := same_upd (o := .tup [V.int 2, V.int 2, V.int 3, V.int 3, V.int 3, V.int 4, V.int 4, V.int 5]) nm
    have hm : upd H1 pm (.tup [V.int 2, V.int 2, V.int 3, V.int 3, V.int 3, V.int 4, V.int 4, V.int 5]) pm = some (.tup [V.int 2, V.int 2, V.int 3, V.int 3, V.int 3, V.int 4, V.int 4, V.int 5]) := upd_same
    generalize upd H1 pm (.tup [V.int 2, V.int 2, V.int 3, V.int 3, V.int 3, V.int 4, V.int 4, V.int 5]) = H2 at *
    have k2 := k1.same sm
    walk_at "r"
    refine ⟨_, _, _, rfl, ⟨by decide, by decide⟩, k2, by omega, fun H3 r3 w3 k3 a3 b3 => ?_⟩
    obtain ⟨n, n1, n8, en⟩ := fair_at a3 b3
    refine rd_ixT (k2.tps w3 _ _ hm) en ?_
    have f3 := (w1.trans (Same.fw sm)).trans w3
    walk_at "r"
    refine ⟨fun σ H' => ∃ n most : Nat, σ = [some (.ref D), some (.int pk), some (.int (n : Nat)), some (.int (most : Nat))] ∧ H' = H3 ∧ 1 ≤ n ∧ n ≤ 8 ∧ most ≤ 16, ?_, ?_⟩
    · walk_at "r"
      walk_at "if"
      · walk_at "r"
        exact ⟨8, 16, rfl, rfl, by decide, by decide, by decide⟩
      · walk_at "r"
        exact ⟨n, 7, rfl, rfl, n1, n8, by decide⟩
    rintro σ H4 ⟨n, most, rfl, eH, n1, n8, hmost⟩
    subst eH
    walk_at "r"
    refine ⟨fun σ H' => ∃ n : Nat, σ = [some (.ref D), some (.int pk), some (.int (n : Nat)), some (.int (most : Nat))] ∧ H' = H4 ∧ 1 ≤ n ∧ n ≤ 8, ?_, ?_⟩
    · walk_at "r"
      walk_at "if"
      · walk_at "r"
        exact ⟨rfl, by decide, by decide⟩
      · walk_at "r"
        exact ⟨rfl, n1, n8⟩
    rintro σ H5 ⟨n, rfl, eH, n1, n8⟩
    subst eH
    walk_at "r"
    refine ⟨D, _, n, most, rfl, k3, by omega, n1, n8, hmost, fun H6 S xs ss w6 k6 nS hS hst hl hok => ?_⟩
    walk_at "r"
    intro L nL
    have sl := same_upd (o := .lst [V.ref S, .int (n : Nat)]) nL
    exact q _ _ _ n _ _ ((f3.trans w6).trans (Same.fw sl)) ((k6.same sl).mono (by omega)) upd_same (k3.ne nS) (sl _ _ hS) (hst.same sl) hl hok n1 n8
def sp_lweb (K : PySem.W.Frag) (C : Addr) : Sp := fun vs H Q _ => ∃ (S : Addr) (n : Nat) (xs : List V) (ss : List Stl), vs = [.ref S, .int (n : Nat)] ∧ H S = some (.lst xs) ∧ Sts K H xs ss ∧ ss.length ≤ 16 ∧ 1 ≤ n ∧ n ≤ 8 ∧ (∀ s ∈ ss, OkSt n s ∧ BdSt 8000 s) ∧ ∀ H' u, Same H H' → IsWeb K C H' u n ss → Q u H'
theorem ok_l_web (T : Txt K mg f_is_integer f_is_row f_is_fraction f_is_some f_lowest f_multiplied f_squared f_lies_below f_is_stall f_is_ware f_check_ware f_check_two f_across f_hold_of f_is_index f_check_some f_is_step f_end_of f_is_walk f_check_route f_rule_behind f_rule_of f_out_by f_route_out f_routes_on f_best_route f_l_is_integer f_l_source f_l_draw f_l_made f_l_plus f_l_times f_l_over f_l_below f_l_some f_l_stall f_l_stalls f_l_piece f_l_pair f_l_same f_l_rule f_l_comes f_l_routes f_l_fair f_l_web f_l_best f_law f_Web_init f_Web_eq c_BadWare c_Web c_NO_STEPS d_is_integer d_is_row d_is_fraction d_is_some d_lowest d_multiplied d_squared d_lies_below d_is_stall d_is_ware d_check_ware d_check_two d_across d_hold_of d_is_index d_check_some d_is_step d_end_of d_is_walk d_check_route d_rule_behind d_rule_of d_out_by d_route_out d_routes_on d_best_route d_l_is_integer d_l_source d_l_draw d_l_made d_l_plus d_l_times d_l_over d_l_below d_l_some d_l_stall d_l_stalls d_l_piece d_l_pair d_l_same d_l_rule d_l_comes d_l_routes d_l_fair d_l_web d_l_best d_law d_Web_init d_Web_eq) : FnOk P w K mg base CX0 7 f_l_web d_l_web ["_law_stalls_here", "_law_wares"] (sp_lweb K c_Web) := by
  have G_Web_init : FnOk P w K mg base CX0 5 f_Web_init d_Web_init ["self", "wares", "stalls"] (sp_web K c_Web) := ok_Web_init T
  refine T.F_l_web.ok sc_l_web (fun vs H Q E h => ?_) (fun cdv A outer sh H vs Q E hr h => ?_)
  · obtain ⟨S, n, xs, ss, rfl, _⟩ := h
    rfl
  · obtain ⟨S, n, xs, ss, rfl, hS, hst, l16, n1, n8, hok, q⟩ := h
    have hlen := hst.len
    refine ⟨_, (pss_one (ps_ret (pe_make T.w_Web.mks G_Web_init (hr.mono (by decide)) (by rfl) T.w_Web.g T.b_Web_init .nil pass0 (pa_cons (pv 1) (pa_cons (pv 0) pa_nil))))), ?_⟩
    walk_at "r"
    intro x6 dx6 nx nd ne
    have xS := ne_of_none hS nx
    have dS := ne_of_none hS nd
    refine ⟨x6, dx6, S, n, xs, ss, rfl, upd_same, .inl ((upd_ne xS).trans ((upd_ne dS).trans hS)), n1, n8, by omega, ?_, hok, fun H6 hweb kp => ⟨rfl, ?_⟩⟩
    · refine hst.ts fun b zs hb => ?_
      rw [upd_ne (ne_of_none hb nx), upd_ne (ne_of_none hb nd)]
      exact hb
    · exact q _ _ (Same.made nx nd kp) hweb
end
end My
namespace My
open PySem PySem.Spec PyProof.Rows L2
variable {K : PySem.W.Frag}
theorem rd_slLs {H : Hp} {Q : VK} {a : Addr} {xs : List V} {lo hi : Option Int} (h : H a = some (.lst xs)) (q : ∀ p H', Same H H' → H' p = some (.lst (cutV xs lo hi)) → Q (.ref p) H') : rSlL K (.ref a) lo hi H Q := rd_slL (.of h) fun p np => q p _ (same_upd np) upd_same
theorem rd_cats {H : Hp} {Q : VK} {a b : Addr} {xs ys : List V} (h1 : H a = some (.lst xs)) (h2 : H b = some (.lst ys)) (hl : xs.length + ys.length ≤ 1000) (q : ∀ p H', H p = none → Same H H' → H' p = some (.lst (xs ++ ys)) → Q (.ref p) H') : rCat (.ref a) (.ref b) H Q :=
  ⟨a, b, xs, ys, rfl, rfl, h1, h2, Nat.le_of_lt (small1000 hl), fun p np => q p _ np (same_upd np) upd_same⟩
theorem none_of {H H' : Hp} {p : Addr} (s : Same H H') (n : H' p = none) : H p = none := by
  cases e : H p with
  | none => rfl
  | some o => exact absurd ((s _ _ e).symm.trans n) (by simp)
/-- two things that are the same, so deep -/
def Sm (K : PySem.W.Frag) (H : Hp) : Nat → V → V → Prop
  | 0, x, y => ∃ i : Int, x = .int i ∧ y = .int i
  | d + 1, x, y => (∃ i : Int, x = .int i ∧ y = .int i) ∨ ∃ (p q : Addr) (xs ys : List V), x = .ref p ∧ y = .ref q ∧ Tp K H p xs ∧ Tp K H q ys ∧ xs.length = ys.length ∧ xs.length ≤ 100 ∧ ∀ (i : Nat) (a b : V), xs[i]? = some a → ys[i]? = some b → Sm K H d a b
theorem Sm.same {H H' : Hp} (s : Same H H') : ∀ {d : Nat} {x y : V}, Sm K H d x y → Sm K H' d x y
  | 0, _, _, h => h
  | d + 1, x, y, h => by
    rcases h with h | ⟨p, q, xs, ys, e1, e2, h1, h2, h3, h4, h5⟩
    · exact .inl h
    · exact .inr ⟨p, q, xs, ys, e1, e2, h1.same s, h2.same s, h3, h4, fun i a b ha hb => Sm.same s (h5 i a b ha hb)⟩
theorem sm_fr {H : Hp} {x y : V} {r : Rat} (h1 : IsF K H x r) (h2 : IsF K H y r) : Sm K H 1 x y := by
  obtain ⟨p, rfl, h1⟩ := h1
  obtain ⟨q, rfl, h2⟩ := h2
  refine .inr ⟨p, q, _, _, rfl, rfl, h1, h2, rfl, by show 2 ≤ 100; decide, fun i a b ha hb => ?_⟩
  rw [ha] at hb
  cases hb
  match i, ha with
  | 0, ha => exact ⟨_, (Option.some.inj ha).symm, (Option.some.inj ha).symm⟩
  | 1, ha => exact ⟨_, (Option.some.inj ha).symm, (Option.some.inj ha).symm⟩
theorem sm_up {H : Hp} {d : Nat} {x y : V} (h : ∃ i : Int, x = .int i ∧ y = .int i) : Sm K H (d + 1) x y := .inl h
theorem sm_st {H : Hp} {x y : V} {s : Stl} (h1 : IsSt K H x s) (h2 : IsSt K H y s) : Sm K H 2 x y := by
  obtain ⟨p, va, vb, vr, rfl, hp, ia, ib, ir⟩ := h1
  obtain ⟨q, wa, wb, wr, rfl, hq, ja, jb, jr⟩ := h2
  refine .inr ⟨p, q, _, _, rfl, rfl, .inl hp, .inl hq, rfl, by show 5 ≤ 100; decide, fun i a b ha hb => ?_⟩
  match i, ha, hb with
  | 0, ha, hb => exact .inl ⟨_, (Option.some.inj ha).symm, (Option.some.inj hb).symm⟩
  | 1, ha, hb => exact .inl ⟨_, (Option.some.inj ha).symm, (Option.some.inj hb).symm⟩
  | 2, ha, hb =>
    cases ha
    cases hb
    exact sm_fr ia ja
  | 3, ha, hb =>
    cases ha
    cases hb
    exact sm_fr ib jb
  | 4, ha, hb =>
    cases ha
    cases hb
    exact sm_fr ir jr
theorem sm_sts {H : Hp} {p q : Addr} {xs ys : List V} {ss : List Stl} (hp : H p = some (.tup xs)) (hq : H q = some (.tup ys)) (h1 : Sts K H xs ss) (h2 : Sts K H ys ss) (l : ss.length ≤ 100) : Sm K H 3 (.ref p) (.ref q) := by
  have l1 := h1.len
  have l2 := h2.len
  refine .inr ⟨p, q, xs, ys, rfl, rfl, .inl hp, .inl hq, by omega, by omega, fun i a b ha hb => ?_⟩
  obtain ⟨s, hs, is⟩ := h1.at ha
  obtain ⟨t, ht, it⟩ := h2.at hb
  rw [hs] at ht
  cases ht
  exact sm_st is it
theorem isi_tp_lst {H : Hp} {Q : VK} {p : Addr} {xs : List V} (h : Tp K H p xs) (q : Q (.bl false) H) : rIsi K [.ref p, .ty "list"] H Q := by
  rcases h with h | (h | ⟨_, h⟩) | ⟨o, its, n, h1, h2, _⟩
  · exact ⟨_, _, _, _, _, rfl, .ty _, .base (.tup h), kit_ty (by decide +kernel), q⟩
  · cases h
  · cases h
  · exact ⟨_, _, _, _, _, rfl, .ty _, .kTuple h1 h2, kit_ty (by decide +kernel), q⟩
theorem isi_int_str {H : Hp} {Q : VK} {i : Int} (q : Q (.bl false) H) : rIsi K [.int i, .ty "str"] H Q := ⟨_, _, _, _, _, rfl, .ty _, .base (.int _), kit_ty (by decide +kernel), q⟩
section
variable {P : Program} {w : World} {K : PySem.W.Frag} {mg : Str → Option Value} {base : Heap} {f_is_integer f_is_row f_is_fraction f_is_some f_lowest f_multiplied f_squared f_lies_below f_is_stall f_is_ware f_check_ware f_check_two f_across f_hold_of f_is_index f_check_some f_is_step f_end_of f_is_walk f_check_route f_rule_behind f_rule_of f_out_by f_route_out f_routes_on f_best_route f_l_is_integer f_l_source f_l_draw f_l_made f_l_plus f_l_times f_l_over f_l_below f_l_some f_l_stall f_l_stalls f_l_piece f_l_pair f_l_same f_l_rule f_l_comes f_l_routes f_l_fair f_l_web f_l_best f_law f_Web_init f_Web_eq c_BadWare c_Web c_NO_STEPS : Addr} {d_is_integer d_is_row d_is_fraction d_is_some d_lowest d_multiplied d_squared d_lies_below d_is_stall d_is_ware d_check_ware d_check_two d_across d_hold_of d_is_index d_check_some d_is_step d_end_of d_is_walk d_check_route d_rule_behind d_rule_of d_out_by d_route_out d_routes_on d_best_route d_l_is_integer d_l_source d_l_draw d_l_made d_l_plus d_l_times d_l_over d_l_below d_l_some d_l_stall d_l_stalls d_l_piece d_l_pair d_l_same d_l_rule d_l_comes d_l_routes d_l_fair d_l_web d_l_best d_law d_Web_init d_Web_eq : FuncData}
def sp_lmove (K : PySem.W.Frag) : Sp := fun vs H Q _ => ∃ (S : Addr) (i wn n : Nat) (vx : V) (x : Rat) (xs : List V) (ss : List Stl) (s : Stl), vs = [.ref S, .int (i : Nat), .int (wn : Nat), vx] ∧ H S = some (.lst xs) ∧ Sts K H xs ss ∧ ss[i]? = some s ∧ ss.length ≤ 16 ∧ OkSt n s ∧ (wn = s.u ∨ wn = s.v) ∧ IsF K H vx x ∧ 0 < x ∧ BdSt 100 s ∧ Bd 10 s.r ∧ Bd 900 x ∧
  ∀ H' p v S' xs', Same H H' → H' p = some (.lst [v, .ref S']) → H' S' = some (.lst xs') → Sts K H' xs' (ss.set i (s.behind wn x)) → IsF K H' v (s.out (s.behind wn x) wn) → H S' = none → Q (.ref p) H'
/-- nothing is promised -/
def sp_no : Sp := fun _ _ _ _ => False
theorem ok_same_no (T : Txt K mg f_is_integer f_is_row f_is_fraction f_is_some f_lowest f_multiplied f_squared f_lies_below f_is_stall f_is_ware f_check_ware f_check_two f_across f_hold_of f_is_index f_check_some f_is_step f_end_of f_is_walk f_check_route f_rule_behind f_rule_of f_out_by f_route_out f_routes_on f_best_route f_l_is_integer f_l_source f_l_draw f_l_made f_l_plus f_l_times f_l_over f_l_below f_l_some f_l_stall f_l_stalls f_l_piece f_l_pair f_l_same f_l_rule f_l_comes f_l_routes f_l_fair f_l_web f_l_best f_law f_Web_init f_Web_eq c_BadWare c_Web c_NO_STEPS d_is_integer d_is_row d_is_fraction d_is_some d_lowest d_multiplied d_squared d_lies_below d_is_stall d_is_ware d_check_ware d_check_two d_across d_hold_of d_is_index d_check_some d_is_step d_end_of d_is_walk d_check_route d_rule_behind d_rule_of d_out_by d_route_out d_routes_on d_best_route d_l_is_integer d_l_source d_l_draw d_l_made d_l_plus d_l_times d_l_over d_l_below d_l_some d_l_stall d_l_stalls d_l_piece d_l_pair d_l_same d_l_rule d_l_comes d_l_routes d_l_fair d_l_web d_l_best d_law d_Web_init d_Web_eq) : FnOk P w K mg base CX0 1 f_l_same d_l_same ["_law_told", "_law_due"] sp_no :=
  T.F_l_same.ok sc_l_same (fun vs H Q E h => h.elim) (fun cdv A outer sh H vs Q E hr h => h.elim)
end
end My
namespace My
open PySem PySem.Spec PyProof.Rows L2
variable {K : PySem.W.Frag}
theorem isiT_int {H : Hp} {Q : VK} {p : Addr} {i : Int} (h : H p = some (.tup [V.ty "list", .ty "tuple"])) (q : Q (.bl false) H) : rIsiT K [.int i, .ref p] H Q :=
  ⟨_, _, _, _, _, false, rfl, h, .cons (.ty _) (.cons (.ty _) .nil), .base (.int _), kitAny_cons (b := false) (kit_ty (by decide +kernel)) (fun _ => kitAny_cons (b := false) (kit_ty (by decide +kernel)) (fun _ => rfl) (fun z => Bool.noConfusion z)) (fun z => Bool.noConfusion z), q⟩
theorem isiT_tp {H : Hp} {Q : VK} {p a : Addr} {xs : List V} (h : H p = some (.tup [V.ty "list", .ty "tuple"])) (ha : Tp K H a xs) (q : Q (.bl true) H) : rIsiT K [.ref a, .ref p] H Q := by
  rcases ha with ha | (ha | ⟨_, ha⟩) | ⟨o, its, n, h1, h2, _⟩
  · exact ⟨_, _, _, _, _, true, rfl, h, .cons (.ty _) (.cons (.ty _) .nil), .base (.tup ha), kitAny_cons (b := false) (kit_ty (by decide +kernel)) (fun _ => kitAny_cons (b := true) (kit_ty (by decide +kernel)) (fun z => Bool.noConfusion z) (fun _ => rfl)) (fun z => Bool.noConfusion z), q⟩
  · cases ha
  · cases ha
  · exact ⟨_, _, _, _, _, true, rfl, h, .cons (.ty _) (.cons (.ty _) .nil), .kTuple h1 h2, kitAny_cons (b := false) (kit_ty (by decide +kernel)) (fun _ => kitAny_cons (b := true) (kit_ty (by decide +kernel)) (fun z => Bool.noConfusion z) (fun _ => rfl)) (fun z => Bool.noConfusion z), q⟩
theorem fn_or61 {P : Program} {w : World} {mg : Str → Option Value} {base : Heap} {CX : CXT} {k : Nat} {f : Addr} {fd : FuncData} {ps : List Str} {sp sp' : Sp} (F : FnOk P w K mg base CX k f fd ps sp)
    (G : FnOk P w K mg base CX k f fd ps sp') : FnOk P w K mg base CX k f fd ps (fun vs H Q E => sp vs H Q E ∨ sp' vs H Q E) :=
  ⟨fun vs H Q E q => q.elim (F.len vs H Q E) (G.len vs H Q E), fun A outer s H args us vs Q E hr he hb hv hs => hs.elim (F.run A outer s H args us vs Q E hr he hb hv) (G.run A outer s H args us vs Q E hr he hb hv)⟩
theorem isiT_lstT {H : Hp} {Q : VK} {p a : Addr} {xs : List V} (h : H p = some (.tup [V.ty "list", .ty "tuple"])) (ha : H a = some (.lst xs)) (q : Q (.bl true) H) : rIsiT K [.ref a, .ref p] H Q :=
  ⟨_, _, _, _, _, true, rfl, h, .cons (.ty _) (.cons (.ty _) .nil), .base (.lst ha), kitAny_cons (b := true) (kit_ty (by decide +kernel)) (fun z => Bool.noConfusion z) (fun _ => rfl), q⟩
theorem isi_lst2 {H : Hp} {Q : VK} {p : Addr} {xs : List V} (h : H p = some (.lst xs)) (q : Q (.bl true) H) : rIsi K [.ref p, .ty "list"] H Q := ⟨_, _, _, _, _, rfl, .ty _, .base (.lst h), kit_ty (by decide +kernel), q⟩
section
variable {P : Program} {w : World} {K : PySem.W.Frag} {mg : Str → Option Value} {base : Heap} {f_is_integer f_is_row f_is_fraction f_is_some f_lowest f_multiplied f_squared f_lies_below f_is_stall f_is_ware f_check_ware f_check_two f_across f_hold_of f_is_index f_check_some f_is_step f_end_of f_is_walk f_check_route f_rule_behind f_rule_of f_out_by f_route_out f_routes_on f_best_route f_l_is_integer f_l_source f_l_draw f_l_made f_l_plus f_l_times f_l_over f_l_below f_l_some f_l_stall f_l_stalls f_l_piece f_l_pair f_l_same f_l_rule f_l_comes f_l_routes f_l_fair f_l_web f_l_best f_law f_Web_init f_Web_eq c_BadWare c_Web c_NO_STEPS : Addr} {d_is_integer d_is_row d_is_fraction d_is_some d_lowest d_multiplied d_squared d_lies_below d_is_stall d_is_ware d_check_ware d_check_two d_across d_hold_of d_is_index d_check_some d_is_step d_end_of d_is_walk d_check_route d_rule_behind d_rule_of d_out_by d_route_out d_routes_on d_best_route d_l_is_integer d_l_source d_l_draw d_l_made d_l_plus d_l_times d_l_over d_l_below d_l_some d_l_stall d_l_stalls d_l_piece d_l_pair d_l_same d_l_rule d_l_comes d_l_routes d_l_fair d_l_web d_l_best d_law d_Web_init d_Web_eq : FuncData}
theorem ok_l_is_integer (T : Txt K mg f_is_integer f_is_row f_is_fraction f_is_some f_lowest f_multiplied f_squared f_lies_below f_is_stall f_is_ware f_check_ware f_check_two f_across f_hold_of f_is_index f_check_some f_is_step f_end_of f_is_walk f_check_route f_rule_behind f_rule_of f_out_by f_route_out f_routes_on f_best_route f_l_is_integer f_l_source f_l_draw f_l_made f_l_plus f_l_times f_l_over f_l_below f_l_some f_l_stall f_l_stalls f_l_piece f_l_pair f_l_same f_l_rule f_l_comes f_l_routes f_l_fair f_l_web f_l_best f_law f_Web_init f_Web_eq c_BadWare c_Web c_NO_STEPS d_is_integer d_is_row d_is_fraction d_is_some d_lowest d_multiplied d_squared d_lies_below d_is_stall d_is_ware d_check_ware d_check_two d_across d_hold_of d_is_index d_check_some d_is_step d_end_of d_is_walk d_check_route d_rule_behind d_rule_of d_out_by d_route_out d_routes_on d_best_route d_l_is_integer d_l_source d_l_draw d_l_made d_l_plus d_l_times d_l_over d_l_below d_l_some d_l_stall d_l_stalls d_l_piece d_l_pair d_l_same d_l_rule d_l_comes d_l_routes d_l_fair d_l_web d_l_best d_law d_Web_init d_Web_eq) : FnOk P w K mg base CX0 1 f_l_is_integer d_l_is_integer ["_law_thing"] sp_is_integer := by
  refine T.F_l_is_integer.ok sc_l_is_integer (fun vs H Q E h => ?_) (fun cdv A outer s H vs Q E hr h => ?_)
  · obtain ⟨i, rfl, _⟩ := h
    rfl
  · obtain ⟨i, rfl, q⟩ := h
    refine ⟨_, (pss_one (ps_ret (pe_and (pe_callB call_isi (by rfl) T.z_isinstance (by decide +kernel) (pa_cons (pv 0) (pa_cons (pe_bltn (v := .ty "int") (u := .type "int") (by rfl) T.z_int (by decide +kernel) rfl) pa_nil))) (pe_one (pe_not (pe_callB call_isi (by rfl) T.z_isinstance (by decide +kernel) (pa_cons (pv 0) (pa_cons (pe_bltn (v := .ty "bool") (u := .type "bool") (by rfl) T.z_bool (by decide +kernel) rfl) pa_nil)))))))), ?_⟩
    walk_at "r"
    exact q
def sp_same (K : PySem.W.Frag) (d : Nat) : Sp := fun vs H Q _ => ∃ x y : V, vs = [x, y] ∧ Sm K H d x y ∧ ∀ H', Same H H' → Q (.bl true) H'
theorem ok_same0 (T : Txt K mg f_is_integer f_is_row f_is_fraction f_is_some f_lowest f_multiplied f_squared f_lies_below f_is_stall f_is_ware f_check_ware f_check_two f_across f_hold_of f_is_index f_check_some f_is_step f_end_of f_is_walk f_check_route f_rule_behind f_rule_of f_out_by f_route_out f_routes_on f_best_route f_l_is_integer f_l_source f_l_draw f_l_made f_l_plus f_l_times f_l_over f_l_below f_l_some f_l_stall f_l_stalls f_l_piece f_l_pair f_l_same f_l_rule f_l_comes f_l_routes f_l_fair f_l_web f_l_best f_law f_Web_init f_Web_eq c_BadWare c_Web c_NO_STEPS d_is_integer d_is_row d_is_fraction d_is_some d_lowest d_multiplied d_squared d_lies_below d_is_stall d_is_ware d_check_ware d_check_two d_across d_hold_of d_is_index d_check_some d_is_step d_end_of d_is_walk d_check_route d_rule_behind d_rule_of d_out_by d_route_out d_routes_on d_best_route d_l_is_integer d_l_source d_l_draw d_l_made d_l_plus d_l_times d_l_over d_l_below d_l_some d_l_stall d_l_stalls d_l_piece d_l_pair d_l_same d_l_rule d_l_comes d_l_routes d_l_fair d_l_web d_l_best d_law d_Web_init d_Web_eq) : FnOk P w K mg base CX0 3 f_l_same d_l_same ["_law_told", "_law_due"] (sp_same K 0) := by
  have G_l_same : FnOk P w K mg base CX0 1 f_l_same d_l_same ["_law_told", "_law_due"] sp_no := ok_same_no T
  have G_l_is_integer : FnOk P w K mg base CX0 1 f_l_is_integer d_l_is_integer ["_law_thing"] sp_is_integer := ok_l_is_integer T
  refine T.F_l_same.ok sc_l_same (fun vs H Q E h => ?_) (fun cdv A outer sh H vs Q E hr h => ?_)
  · obtain ⟨x, y, rfl, _⟩ := h
    rfl
  · obtain ⟨x, y, rfl, hxy, q⟩ := h
    refine ⟨_, (pss_cons (ps_if (pt_val (pe_callB call_isiT (by rfl) T.z_isinstance (by decide +kernel) (pa_cons (pv 1) (pa_cons (pe_tup (pa_cons (pe_bltn (v := .ty "list") (u := .type "list") (by rfl) T.z_list (by decide +kernel) rfl) (pa_cons (pe_bltn (v := .ty "tuple") (u := .type "tuple") (by rfl) T.z_tuple (by decide +kernel) rfl) pa_nil))) pa_nil))))
        (pss_cons (ps_if (PW.pt (pw_or (pt_cmpR op_ne (pe_callB call_isi (by rfl) T.z_isinstance (by decide +kernel) (pa_cons (pv 0) (pa_cons (pe_bltn (v := .ty "list") (u := .type "list") (by rfl) T.z_list (by decide +kernel) rfl) pa_nil))) (pe_callB call_isi (by rfl) T.z_isinstance (by decide +kernel) (pa_cons (pv 1) (pa_cons (pe_bltn (v := .ty "list") (u := .type "list") (by rfl) T.z_list (by decide +kernel) rfl) pa_nil))) (nomark _)) (pw_or (pt_not (pt_val (pe_callB call_isiT (by rfl) T.z_isinstance (by decide +kernel) (pa_cons (pv 0) (pa_cons (pe_tup (pa_cons (pe_bltn (v := .ty "list") (u := .type "list") (by rfl) T.z_list (by decide +kernel) rfl) (pa_cons (pe_bltn (v := .ty "tuple") (u := .type "tuple") (by rfl) T.z_tuple (by decide +kernel) rfl) pa_nil))) pa_nil))))) (pw_or1 (pt_cmpR op_ne (pe_callB call_lenN (by rfl) T.z_len (by decide +kernel) (pa_cons (pv 0) pa_nil)) (pe_callB call_lenN (by rfl) T.z_len (by decide +kernel) (pa_cons (pv 1) pa_nil)) (nomark _))))))
            (pss_one (ps_ret pe_bl))
            pss_nil)
          (pss_one (ps_ret (pe_callB (cr_all rfl) (by rfl) T.z_all (by decide +kernel) (pa_cons (pe_lc (own := [("_law_one", 2), ("_law_other", 3)]) (g := gTup K 2 (gCons (gName 2) (gCons (gName 3) (gNil)))) rfl sc_l_same.nd (My.pi_zipP (by rfl) T.z_zip (pa_cons (pv 0) (pa_cons (pv 1) pa_nil))) (blkOk_by (own := [("_law_one", 2), ("_law_other", 3)]) (N := N_l_same) (sc := defScope s_l_same) (by decide +kernel)) (fun _ _ _ _ _ => (pg_tup rfl (pgs_cons (pg_name (i := 2) sc_l_same.nd rfl (by first | exact Or.inl rfl | exact Or.inr rfl)) (pgs_cons (pg_name (i := 3) sc_l_same.nd rfl (by first | exact Or.inl rfl | exact Or.inr rfl)) pgs_nil)))) (fun _ _ _ _ _ => pts_nil) (fun _ _ _ _ _ => (pe_call G_l_same (hr.mono (by decide)) (by rfl) T.g_l_same T.k_l_same T.b_l_same .nil pass0 (pa_cons (pv 2) (pa_cons (pv 3) pa_nil))))) pa_nil)))))
        pss_nil)
      (pss_cons (ps_if (pt_cmpR op_isN (pv 1) pe_non (nomark _))
        (pss_one (ps_ret (pe_cmpR op_isN (pv 0) pe_non (nomark _))))
        pss_nil)
      (pss_cons (ps_if (pt_val (pe_callB call_isi (by rfl) T.z_isinstance (by decide +kernel) (pa_cons (pv 1) (pa_cons (pe_bltn (v := .ty "bool") (u := .type "bool") (by rfl) T.z_bool (by decide +kernel) rfl) pa_nil))))
        (pss_one (ps_ret (pe_and (pe_callB call_isi (by rfl) T.z_isinstance (by decide +kernel) (pa_cons (pv 0) (pa_cons (pe_bltn (v := .ty "bool") (u := .type "bool") (by rfl) T.z_bool (by decide +kernel) rfl) pa_nil))) (pe_one (pe_cmpR op_eq (pv 0) (pv 1) (nomark _))))))
        pss_nil)
      (pss_cons (ps_if (pt_val (pe_callB call_isi (by rfl) T.z_isinstance (by decide +kernel) (pa_cons (pv 1) (pa_cons (pe_bltn (v := .ty "str") (u := .type "str") (by rfl) T.z_str (by decide +kernel) rfl) pa_nil))))
        (pss_one (ps_ret (pe_and (pe_callB call_isi (by rfl) T.z_isinstance (by decide +kernel) (pa_cons (pv 0) (pa_cons (pe_bltn (v := .ty "str") (u := .type "str") (by rfl) T.z_str (by decide +kernel) rfl) pa_nil))) (pe_one (pe_cmpR op_eq (pv 0) (pv 1) (nomark _))))))
        pss_nil)
      (pss_one (ps_ret (pe_and (pe_call G_l_is_integer (hr.mono (by decide)) (by rfl) T.g_l_is_integer T.k_l_is_integer T.b_l_is_integer .nil pass0 (pa_cons (pv 0) pa_nil)) (pe_one (pe_cmpR op_eq (pv 0) (pv 1) (nomark _)))))))))), ?_⟩
    · obtain ⟨i, rfl, rfl⟩ := hxy
      walk_at "r"
      intro p np
      have s1 := same_upd (o := .tup [V.ty "list", .ty "tuple"]) np
      walk_at "r"
      refine isiT_int upd_same ?_
      generalize upd H p (.tup [V.ty "list", .ty "tuple"]) = H1 at *
      walk_at "r"
      refine ⟨rfl, ?_⟩
      rw [decide_eq_false (show ¬ V.int i = V.non from fun z => by cases z)]
      walk_at "r"
      refine isi_int_str ?_
      walk_at "r"
      refine ⟨_, rfl, ?_⟩
      walk_at "r"
      rw [decide_eq_true rfl]
      exact q _ s1
theorem ok_same1 (T : Txt K mg f_is_integer f_is_row f_is_fraction f_is_some f_lowest f_multiplied f_squared f_lies_below f_is_stall f_is_ware f_check_ware f_check_two f_across f_hold_of f_is_index f_check_some f_is_step f_end_of f_is_walk f_check_route f_rule_behind f_rule_of f_out_by f_route_out f_routes_on f_best_route f_l_is_integer f_l_source f_l_draw f_l_made f_l_plus f_l_times f_l_over f_l_below f_l_some f_l_stall f_l_stalls f_l_piece f_l_pair f_l_same f_l_rule f_l_comes f_l_routes f_l_fair f_l_web f_l_best f_law f_Web_init f_Web_eq c_BadWare c_Web c_NO_STEPS d_is_integer d_is_row d_is_fraction d_is_some d_lowest d_multiplied d_squared d_lies_below d_is_stall d_is_ware d_check_ware d_check_two d_across d_hold_of d_is_index d_check_some d_is_step d_end_of d_is_walk d_check_route d_rule_behind d_rule_of d_out_by d_route_out d_routes_on d_best_route d_l_is_integer d_l_source d_l_draw d_l_made d_l_plus d_l_times d_l_over d_l_below d_l_some d_l_stall d_l_stalls d_l_piece d_l_pair d_l_same d_l_rule d_l_comes d_l_routes d_l_fair d_l_web d_l_best d_law d_Web_init d_Web_eq) : FnOk P w K mg base CX0 4 f_l_same d_l_same ["_law_told", "_law_due"] (sp_same K 1) := by
  have G_l_same : FnOk P w K mg base CX0 3 f_l_same d_l_same ["_law_told", "_law_due"] (sp_same K 0) := ok_same0 T
  have G_l_is_integer : FnOk P w K mg base CX0 1 f_l_is_integer d_l_is_integer ["_law_thing"] sp_is_integer := ok_l_is_integer T
  refine T.F_l_same.ok sc_l_same (fun vs H Q E h => ?_) (fun cdv A outer sh H vs Q E hr h => ?_)
  · obtain ⟨x, y, rfl, _⟩ := h
    rfl
  · obtain ⟨x, y, rfl, hxy, q⟩ := h
    refine ⟨_, (pss_cons (ps_if (pt_val (pe_callB call_isiT (by rfl) T.z_isinstance (by decide +kernel) (pa_cons (pv 1) (pa_cons (pe_tup (pa_cons (pe_bltn (v := .ty "list") (u := .type "list") (by rfl) T.z_list (by decide +kernel) rfl) (pa_cons (pe_bltn (v := .ty "tuple") (u := .type "tuple") (by rfl) T.z_tuple (by decide +kernel) rfl) pa_nil))) pa_nil))))
        (pss_cons (ps_if (PW.pt (pw_or (pt_cmpR op_ne (pe_callB call_isi (by rfl) T.z_isinstance (by decide +kernel) (pa_cons (pv 0) (pa_cons (pe_bltn (v := .ty "list") (u := .type "list") (by rfl) T.z_list (by decide +kernel) rfl) pa_nil))) (pe_callB call_isi (by rfl) T.z_isinstance (by decide +kernel) (pa_cons (pv 1) (pa_cons (pe_bltn (v := .ty "list") (u := .type "list") (by rfl) T.z_list (by decide +kernel) rfl) pa_nil))) (nomark _)) (pw_or (pt_not (pt_val (pe_callB call_isiT (by rfl) T.z_isinstance (by decide +kernel) (pa_cons (pv 0) (pa_cons (pe_tup (pa_cons (pe_bltn (v := .ty "list") (u := .type "list") (by rfl) T.z_list (by decide +kernel) rfl) (pa_cons (pe_bltn (v := .ty "tuple") (u := .type "tuple") (by rfl) T.z_tuple (by decide +kernel) rfl) pa_nil))) pa_nil))))) (pw_or1 (pt_cmpR op_ne (pe_callB call_lenN (by rfl) T.z_len (by decide +kernel) (pa_cons (pv 0) pa_nil)) (pe_callB call_lenN (by rfl) T.z_len (by decide +kernel) (pa_cons (pv 1) pa_nil)) (nomark _))))))
            (pss_one (ps_ret pe_bl))
            pss_nil)
          (pss_one (ps_ret (pe_callB (cr_all rfl) (by rfl) T.z_all (by decide +kernel) (pa_cons (pe_lc (own := [("_law_one", 2), ("_law_other", 3)]) (g := gTup K 2 (gCons (gName 2) (gCons (gName 3) (gNil)))) rfl sc_l_same.nd (My.pi_zipP (by rfl) T.z_zip (pa_cons (pv 0) (pa_cons (pv 1) pa_nil))) (blkOk_by (own := [("_law_one", 2), ("_law_other", 3)]) (N := N_l_same) (sc := defScope s_l_same) (by decide +kernel)) (fun _ _ _ _ _ => (pg_tup rfl (pgs_cons (pg_name (i := 2) sc_l_same.nd rfl (by first | exact Or.inl rfl | exact Or.inr rfl)) (pgs_cons (pg_name (i := 3) sc_l_same.nd rfl (by first | exact Or.inl rfl | exact Or.inr rfl)) pgs_nil)))) (fun _ _ _ _ _ => pts_nil) (fun _ _ _ _ _ => (pe_call G_l_same (hr.mono (by decide)) (by rfl) T.g_l_same T.k_l_same T.b_l_same .nil pass0 (pa_cons (pv 2) (pa_cons (pv 3) pa_nil))))) pa_nil)))))
        pss_nil)
      (pss_cons (ps_if (pt_cmpR op_isN (pv 1) pe_non (nomark _))
        (pss_one (ps_ret (pe_cmpR op_isN (pv 0) pe_non (nomark _))))
        pss_nil)
      (pss_cons (ps_if (pt_val (pe_callB call_isi (by rfl) T.z_isinstance (by decide +kernel) (pa_cons (pv 1) (pa_cons (pe_bltn (v := .ty "bool") (u := .type "bool") (by rfl) T.z_bool (by decide +kernel) rfl) pa_nil))))
        (pss_one (ps_ret (pe_and (pe_callB call_isi (by rfl) T.z_isinstance (by decide +kernel) (pa_cons (pv 0) (pa_cons (pe_bltn (v := .ty "bool") (u := .type "bool") (by rfl) T.z_bool (by decide +kernel) rfl) pa_nil))) (pe_one (pe_cmpR op_eq (pv 0) (pv 1) (nomark _))))))
        pss_nil)
      (pss_cons (ps_if (pt_val (pe_callB call_isi (by rfl) T.z_isinstance (by decide +kernel) (pa_cons (pv 1) (pa_cons (pe_bltn (v := .ty "str") (u := .type "str") (by rfl) T.z_str (by decide +kernel) rfl) pa_nil))))
        (pss_one (ps_ret (pe_and (pe_callB call_isi (by rfl) T.z_isinstance (by decide +kernel) (pa_cons (pv 0) (pa_cons (pe_bltn (v := .ty "str") (u := .type "str") (by rfl) T.z_str (by decide +kernel) rfl) pa_nil))) (pe_one (pe_cmpR op_eq (pv 0) (pv 1) (nomark _))))))
        pss_nil)
      (pss_one (ps_ret (pe_and (pe_call G_l_is_integer (hr.mono (by decide)) (by rfl) T.g_l_is_integer T.k_l_is_integer T.b_l_is_integer .nil pass0 (pa_cons (pv 0) pa_nil)) (pe_one (pe_cmpR op_eq (pv 0) (pv 1) (nomark _)))))))))), ?_⟩
    rcases hxy with ⟨i, rfl, rfl⟩ | ⟨p, q', xs, ys, rfl, rfl, h1, h2, hl, h100, hs⟩
    · walk_at "r"
      intro p np
      have s1 := same_upd (o := .tup [V.ty "list", .ty "tuple"]) np
      walk_at "r"
      refine isiT_int upd_same ?_
      generalize upd H p (.tup [V.ty "list", .ty "tuple"]) = H1 at *
      walk_at "r"
      refine ⟨rfl, ?_⟩
      rw [decide_eq_false (show ¬ V.int i = V.non from fun z => by cases z)]
      walk_at "r"
      refine isi_int_str ?_
      walk_at "r"
      refine ⟨_, rfl, ?_⟩
      walk_at "r"
      rw [decide_eq_true rfl]
      exact q _ s1
    · walk_at "r"
      intro pt npt
      have s1 := same_upd (o := .tup [V.ty "list", .ty "tuple"]) npt
      walk_at "r"
      refine isiT_tp upd_same (h2.same s1) ?_
      generalize upd H pt (.tup [V.ty "list", .ty "tuple"]) = H1 at *
      have h11 := h1.same s1
      have h21 := h2.same s1
      walk_at "r"
      refine isi_tp_lst h11 ?_
      walk_at "r"
      refine isi_tp_lst h21 ?_
      walk_at "r"
      intro pu npu
      have s2 := same_upd (o := .tup [V.ty "list", .ty "tuple"]) npu
      walk_at "r"
      refine isiT_tp upd_same (h11.same s2) ?_
      generalize upd H1 pu (.tup [V.ty "list", .ty "tuple"]) = H2 at *
      have h12 := h11.same s2
      have h22 := h21.same s2
      walk_at "r"
      refine rd_zipP ?_
      walk_at "r"
      refine ⟨p, q', xs, ys, rfl, ?_⟩
      refine lc_zipP (R := fun H v (b : Bool) => v = .bl b) (fun _ _ _ _ _ h => h) (f := fun _ => some true) (by omega) hl (.inr ⟨h12.sq, h22.sq⟩) (fun i a b ha hb H' Q' N s4 hy _ T2 nT => ?_) (fun D H' hlst => ?_) rfl
      · have sm := same_upd (o := .tup [a, b]) nT
        walk_at "r"
        refine ⟨rfl, ?_⟩
        walk_at "r"
        exact ⟨a, b, rfl, ((Sm.same s4 (Sm.same s2 (Sm.same s1 (hs i a b ha hb))))).same sm, fun H5 s5 => hy true _ _ rfl (sm.trans s5) rfl⟩
      · obtain ⟨s4, bs, hD, hbs⟩ := hlst
        rw [upTo_map] at hbs
        have e := bools_of hbs
        subst e
        walk_at "r"
        refine ⟨D, _, rfl, .of hD, ?_⟩
        rw [all_true _ (by simp)]
        exact q _ ((s1.trans s2).trans s4)
theorem ok_same2 (T : Txt K mg f_is_integer f_is_row f_is_fraction f_is_some f_lowest f_multiplied f_squared f_lies_below f_is_stall f_is_ware f_check_ware f_check_two f_across f_hold_of f_is_index f_check_some f_is_step f_end_of f_is_walk f_check_route f_rule_behind f_rule_of f_out_by f_route_out f_routes_on f_best_route f_l_is_integer f_l_source f_l_draw f_l_made f_l_plus f_l_times f_l_over f_l_below f_l_some f_l_stall f_l_stalls f_l_piece f_l_pair f_l_same f_l_rule f_l_comes f_l_routes f_l_fair f_l_web f_l_best f_law f_Web_init f_Web_eq c_BadWare c_Web c_NO_STEPS d_is_integer d_is_row d_is_fraction d_is_some d_lowest d_multiplied d_squared d_lies_below d_is_stall d_is_ware d_check_ware d_check_two d_across d_hold_of d_is_index d_check_some d_is_step d_end_of d_is_walk d_check_route d_rule_behind d_rule_of d_out_by d_route_out d_routes_on d_best_route d_l_is_integer d_l_source d_l_draw d_l_made d_l_plus d_l_times d_l_over d_l_below d_l_some d_l_stall d_l_stalls d_l_piece d_l_pair d_l_same d_l_rule d_l_comes d_l_routes d_l_fair d_l_web d_l_best d_law d_Web_init d_Web_eq) : FnOk P w K mg base CX0 5 f_l_same d_l_same ["_law_told", "_law_due"] (sp_same K 2) := by
  have G_l_same : FnOk P w K mg base CX0 4 f_l_same d_l_same ["_law_told", "_law_due"] (sp_same K 1) := ok_same1 T
  have G_l_is_integer : FnOk P w K mg base CX0 1 f_l_is_integer d_l_is_integer ["_law_thing"] sp_is_integer := ok_l_is_integer T
  refine T.F_l_same.ok sc_l_same (fun vs H Q E h => ?_) (fun cdv A outer sh H vs Q E hr h => ?_)
  · obtain ⟨x, y, rfl, _⟩ := h
    rfl
  · obtain ⟨x, y, rfl, hxy, q⟩ := h
    refine ⟨_, (pss_cons (ps_if (pt_val (pe_callB call_isiT (by rfl) T.z_isinstance (by decide +kernel) (pa_cons (pv 1) (pa_cons (pe_tup (pa_cons (pe_bltn (v := .ty "list") (u := .type "list") (by rfl) T.z_list (by decide +kernel) rfl) (pa_cons (pe_bltn (v := .ty "tuple") (u := .type "tuple") (by rfl) T.z_tuple (by decide +kernel) rfl) pa_nil))) pa_nil))))
        (pss_cons (ps_if (PW.pt (pw_or (pt_cmpR op_ne (pe_callB call_isi (by rfl) T.z_isinstance (by decide +kernel) (pa_cons (pv 0) (pa_cons (pe_bltn (v := .ty "list") (u := .type "list") (by rfl) T.z_list (by decide +kernel) rfl) pa_nil))) (pe_callB call_isi (by rfl) T.z_isinstance (by decide +kernel) (pa_cons (pv 1) (pa_cons (pe_bltn (v := .ty "list") (u := .type "list") (by rfl) T.z_list (by decide +kernel) rfl) pa_nil))) (nomark _)) (pw_or (pt_not (pt_val (pe_callB call_isiT (by rfl) T.z_isinstance (by decide +kernel) (pa_cons (pv 0) (pa_cons (pe_tup (pa_cons (pe_bltn (v := .ty "list") (u := .type "list") (by rfl) T.z_list (by decide +kernel) rfl) (pa_cons (pe_bltn (v := .ty "tuple") (u := .type "tuple") (by rfl) T.z_tuple (by decide +kernel) rfl) pa_nil))) pa_nil))))) (pw_or1 (pt_cmpR op_ne (pe_callB call_lenN (by rfl) T.z_len (by decide +kernel) (pa_cons (pv 0) pa_nil)) (pe_callB call_lenN (by rfl) T.z_len (by decide +kernel) (pa_cons (pv 1) pa_nil)) (nomark _))))))
            (pss_one (ps_ret pe_bl))
            pss_nil)
          (pss_one (ps_ret (pe_callB (cr_all rfl) (by rfl) T.z_all (by decide +kernel) (pa_cons (pe_lc (own := [("_law_one", 2), ("_law_other", 3)]) (g := gTup K 2 (gCons (gName 2) (gCons (gName 3) (gNil)))) rfl sc_l_same.nd (My.pi_zipP (by rfl) T.z_zip (pa_cons (pv 0) (pa_cons (pv 1) pa_nil))) (blkOk_by (own := [("_law_one", 2), ("_law_other", 3)]) (N := N_l_same) (sc := defScope s_l_same) (by decide +kernel)) (fun _ _ _ _ _ => (pg_tup rfl (pgs_cons (pg_name (i := 2) sc_l_same.nd rfl (by first | exact Or.inl rfl | exact Or.inr rfl)) (pgs_cons (pg_name (i := 3) sc_l_same.nd rfl (by first | exact Or.inl rfl | exact Or.inr rfl)) pgs_nil)))) (fun _ _ _ _ _ => pts_nil) (fun _ _ _ _ _ => (pe_call G_l_same (hr.mono (by decide)) (by rfl) T.g_l_same T.k_l_same T.b_l_same .nil pass0 (pa_cons (pv 2) (pa_cons (pv 3) pa_nil))))) pa_nil)))))
        pss_nil)
      (pss_cons (ps_if (pt_cmpR op_isN (pv 1) pe_non (nomark _))
        (pss_one (ps_ret (pe_cmpR op_isN (pv 0) pe_non (nomark _))))
        pss_nil)
      (pss_cons (ps_if (pt_val (pe_callB call_isi (by rfl) T.z_isinstance (by decide +kernel) (pa_cons (pv 1) (pa_cons (pe_bltn (v := .ty "bool") (u := .type "bool") (by rfl) T.z_bool (by decide +kernel) rfl) pa_nil))))
        (pss_one (ps_ret (pe_and (pe_callB call_isi (by rfl) T.z_isinstance (by decide +kernel) (pa_cons (pv 0) (pa_cons (pe_bltn (v := .ty "bool") (u := .type "bool") (by rfl) T.z_bool (by decide +kernel) rfl) pa_nil))) (pe_one (pe_cmpR op_eq (pv 0) (pv 1) (nomark _))))))
        pss_nil)
      (pss_cons (ps_if (pt_val (pe_callB call_isi (by rfl) T.z_isinstance (by decide +kernel) (pa_cons (pv 1) (pa_cons (pe_bltn (v := .ty "str") (u := .type "str") (by rfl) T.z_str (by decide +kernel) rfl) pa_nil))))
        (pss_one (ps_ret (pe_and (pe_callB call_isi (by rfl) T.z_isinstance (by decide +kernel) (pa_cons (pv 0) (pa_cons (pe_bltn (v := .ty "str") (u := .type "str") (by rfl) T.z_str (by decide +kernel) rfl) pa_nil))) (pe_one (pe_cmpR op_eq (pv 0) (pv 1) (nomark _))))))
        pss_nil)
      (pss_one (ps_ret (pe_and (pe_call G_l_is_integer (hr.mono (by decide)) (by rfl) T.g_l_is_integer T.k_l_is_integer T.b_l_is_integer .nil pass0 (pa_cons (pv 0) pa_nil)) (pe_one (pe_cmpR op_eq (pv 0) (pv 1) (nomark _)))))))))), ?_⟩
    rcases hxy with ⟨i, rfl, rfl⟩ | ⟨p, q', xs, ys, rfl, rfl, h1, h2, hl, h100, hs⟩
    · walk_at "r"
      intro p np
      have s1 := same_upd (o := .tup [V.ty "list", .ty "tuple"]) np
      walk_at "r"
      refine isiT_int upd_same ?_
      generalize upd H p (.tup [V.ty "list", .ty "tuple"]) = H1 at *
      walk_at "r"
      refine ⟨rfl, ?_⟩
      rw [decide_eq_false (show ¬ V.int i = V.non from fun z => by cases z)]
      walk_at "r"
      refine isi_int_str ?_
      walk_at "r"
      refine ⟨_, rfl, ?_⟩
      walk_at "r"
      rw [decide_eq_true rfl]
      exact q _ s1
    · walk_at "r"
      intro pt npt
      have s1 := same_upd (o := .tup [V.ty "list", .ty "tuple"]) npt
      walk_at "r"
      refine isiT_tp upd_same (h2.same s1) ?_
      generalize upd H pt (.tup [V.ty "list", .ty "tuple"]) = H1 at *
      have h11 := h1.same s1
      have h21 := h2.same s1
      walk_at "r"
      refine isi_tp_lst h11 ?_
      walk_at "r"
      refine isi_tp_lst h21 ?_
      walk_at "r"
      intro pu npu
      have s2 := same_upd (o := .tup [V.ty "list", .ty "tuple"]) npu
      walk_at "r"
      refine isiT_tp upd_same (h11.same s2) ?_
      generalize upd H1 pu (.tup [V.ty "list", .ty "tuple"]) = H2 at *
      have h12 := h11.same s2
      have h22 := h21.same s2
      walk_at "r"
      refine rd_zipP ?_
      walk_at "r"
      refine ⟨p, q', xs, ys, rfl, ?_⟩
      refine lc_zipP (R := fun H v (b : Bool) => v = .bl b) (fun _ _ _ _ _ h => h) (f := fun _ => some true) (by omega) hl (.inr ⟨h12.sq, h22.sq⟩) (fun i a b ha hb H' Q' N s4 hy _ T2 nT => ?_) (fun D H' hlst => ?_) rfl
      · have sm := same_upd (o := .tup [a, b]) nT
        walk_at "r"
        refine ⟨rfl, ?_⟩
        walk_at "r"
        exact ⟨a, b, rfl, ((Sm.same s4 (Sm.same s2 (Sm.same s1 (hs i a b ha hb))))).same sm, fun H5 s5 => hy true _ _ rfl (sm.trans s5) rfl⟩
      · obtain ⟨s4, bs, hD, hbs⟩ := hlst
        rw [upTo_map] at hbs
        have e := bools_of hbs
        subst e
        walk_at "r"
        refine ⟨D, _, rfl, .of hD, ?_⟩
        rw [all_true _ (by simp)]
        exact q _ ((s1.trans s2).trans s4)
theorem ok_same3 (T : Txt K mg f_is_integer f_is_row f_is_fraction f_is_some f_lowest f_multiplied f_squared f_lies_below f_is_stall f_is_ware f_check_ware f_check_two f_across f_hold_of f_is_index f_check_some f_is_step f_end_of f_is_walk f_check_route f_rule_behind f_rule_of f_out_by f_route_out f_routes_on f_best_route f_l_is_integer f_l_source f_l_draw f_l_made f_l_plus f_l_times f_l_over f_l_below f_l_some f_l_stall f_l_stalls f_l_piece f_l_pair f_l_same f_l_rule f_l_comes f_l_routes f_l_fair f_l_web f_l_best f_law f_Web_init f_Web_eq c_BadWare c_Web c_NO_STEPS d_is_integer d_is_row d_is_fraction d_is_some d_lowest d_multiplied d_squared d_lies_below d_is_stall d_is_ware d_check_ware d_check_two d_across d_hold_of d_is_index d_check_some d_is_step d_end_of d_is_walk d_check_route d_rule_behind d_rule_of d_out_by d_route_out d_routes_on d_best_route d_l_is_integer d_l_source d_l_draw d_l_made d_l_plus d_l_times d_l_over d_l_below d_l_some d_l_stall d_l_stalls d_l_piece d_l_pair d_l_same d_l_rule d_l_comes d_l_routes d_l_fair d_l_web d_l_best d_law d_Web_init d_Web_eq) : FnOk P w K mg base CX0 6 f_l_same d_l_same ["_law_told", "_law_due"] (sp_same K 3) := by
  have G_l_same : FnOk P w K mg base CX0 5 f_l_same d_l_same ["_law_told", "_law_due"] (sp_same K 2) := ok_same2 T
  have G_l_is_integer : FnOk P w K mg base CX0 1 f_l_is_integer d_l_is_integer ["_law_thing"] sp_is_integer := ok_l_is_integer T
  refine T.F_l_same.ok sc_l_same (fun vs H Q E h => ?_) (fun cdv A outer sh H vs Q E hr h => ?_)
  · obtain ⟨x, y, rfl, _⟩ := h
    rfl
  · obtain ⟨x, y, rfl, hxy, q⟩ := h
    refine ⟨_, (pss_cons (ps_if (pt_val (pe_callB call_isiT (by rfl) T.z_isinstance (by decide +kernel) (pa_cons (pv 1) (pa_cons (pe_tup (pa_cons (pe_bltn (v := .ty "list") (u := .type "list") (by rfl) T.z_list (by decide +kernel) rfl) (pa_cons (pe_bltn (v := .ty "tuple") (u := .type "tuple") (by rfl) T.z_tuple (by decide +kernel) rfl) pa_nil))) pa_nil))))
        (pss_cons (ps_if (PW.pt (pw_or (pt_cmpR op_ne (pe_callB call_isi (by rfl) T.z_isinstance (by decide +kernel) (pa_cons (pv 0) (pa_cons (pe_bltn (v := .ty "list") (u := .type "list") (by rfl) T.z_list (by decide +kernel) rfl) pa_nil))) (pe_callB call_isi (by rfl) T.z_isinstance (by decide +kernel) (pa_cons (pv 1) (pa_cons (pe_bltn (v := .ty "list") (u := .type "list") (by rfl) T.z_list (by decide +kernel) rfl) pa_nil))) (nomark _)) (pw_or (pt_not (pt_val (pe_callB call_isiT (by rfl) T.z_isinstance (by decide +kernel) (pa_cons (pv 0) (pa_cons (pe_tup (pa_cons (pe_bltn (v := .ty "list") (u := .type "list") (by rfl) T.z_list (by decide +kernel) rfl) (pa_cons (pe_bltn (v := .ty "tuple") (u := .type "tuple") (by rfl) T.z_tuple (by decide +kernel) rfl) pa_nil))) pa_nil))))) (pw_or1 (pt_cmpR op_ne (pe_callB call_lenN (by rfl) T.z_len (by decide +kernel) (pa_cons (pv 0) pa_nil)) (pe_callB call_lenN (by rfl) T.z_len (by decide +kernel) (pa_cons (pv 1) pa_nil)) (nomark _))))))
            (pss_one (ps_ret pe_bl))
            pss_nil)
          (pss_one (ps_ret (pe_callB (cr_all rfl) (by rfl) T.z_all (by decide +kernel) (pa_cons (pe_lc (own := [("_law_one", 2), ("_law_other", 3)]) (g := gTup K 2 (gCons (gName 2) (gCons (gName 3) (gNil)))) rfl sc_l_same.nd (My.pi_zipP (by rfl) T.z_zip (pa_cons (pv 0) (pa_cons (pv 1) pa_nil))) (blkOk_by (own := [("_law_one", 2), ("_law_other", 3)]) (N := N_l_same) (sc := defScope s_l_same) (by decide +kernel)) (fun _ _ _ _ _ => (pg_tup rfl (pgs_cons (pg_name (i := 2) sc_l_same.nd rfl (by first | exact Or.inl rfl | exact Or.inr rfl)) (pgs_cons (pg_name (i := 3) sc_l_same.nd rfl (by first | exact Or.inl rfl | exact Or.inr rfl)) pgs_nil)))) (fun _ _ _ _ _ => pts_nil) (fun _ _ _ _ _ => (pe_call G_l_same (hr.mono (by decide)) (by rfl) T.g_l_same T.k_l_same T.b_l_same .nil pass0 (pa_cons (pv 2) (pa_cons (pv 3) pa_nil))))) pa_nil)))))
        pss_nil)
      (pss_cons (ps_if (pt_cmpR op_isN (pv 1) pe_non (nomark _))
        (pss_one (ps_ret (pe_cmpR op_isN (pv 0) pe_non (nomark _))))
        pss_nil)
      (pss_cons (ps_if (pt_val (pe_callB call_isi (by rfl) T.z_isinstance (by decide +kernel) (pa_cons (pv 1) (pa_cons (pe_bltn (v := .ty "bool") (u := .type "bool") (by rfl) T.z_bool (by decide +kernel) rfl) pa_nil))))
        (pss_one (ps_ret (pe_and (pe_callB call_isi (by rfl) T.z_isinstance (by decide +kernel) (pa_cons (pv 0) (pa_cons (pe_bltn (v := .ty "bool") (u := .type "bool") (by rfl) T.z_bool (by decide +kernel) rfl) pa_nil))) (pe_one (pe_cmpR op_eq (pv 0) (pv 1) (nomark _))))))
        pss_nil)
      (pss_cons (ps_if (pt_val (pe_callB call_isi (by rfl) T.z_isinstance (by decide +kernel) (pa_cons (pv 1) (pa_cons (pe_bltn (v := .ty "str") (u := .type "str") (by rfl) T.z_str (by decide +kernel) rfl) pa_nil))))
        (pss_one (ps_ret (pe_and (pe_callB call_isi (by rfl) T.z_isinstance (by decide +kernel) (pa_cons (pv 0) (pa_cons (pe_bltn (v := .ty "str") (u := .type "str") (by rfl) T.z_str (by decide +kernel) rfl) pa_nil))) (pe_one (pe_cmpR op_eq (pv 0) (pv 1) (nomark _))))))
        pss_nil)
      (pss_one (ps_ret (pe_and (pe_call G_l_is_integer (hr.mono (by decide)) (by rfl) T.g_l_is_integer T.k_l_is_integer T.b_l_is_integer .nil pass0 (pa_cons (pv 0) pa_nil)) (pe_one (pe_cmpR op_eq (pv 0) (pv 1) (nomark _)))))))))), ?_⟩
    rcases hxy with ⟨i, rfl, rfl⟩ | ⟨p, q', xs, ys, rfl, rfl, h1, h2, hl, h100, hs⟩
    · walk_at "r"
      intro p np
      have s1 := same_upd (o := .tup [V.ty "list", .ty "tuple"]) np
      walk_at "r"
      refine isiT_int upd_same ?_
      generalize upd H p (.tup [V.ty "list", .ty "tuple"]) = H1 at *
      walk_at "r"
      refine ⟨rfl, ?_⟩
      rw [decide_eq_false (show ¬ V.int i = V.non from fun z => by cases z)]
      walk_at "r"
      refine isi_int_str ?_
      walk_at "r"
      refine ⟨_, rfl, ?_⟩
      walk_at "r"
      rw [decide_eq_true rfl]
      exact q _ s1
    · walk_at "r"
      intro pt npt
      have s1 := same_upd (o := .tup [V.ty "list", .ty "tuple"]) npt
      walk_at "r"
      refine isiT_tp upd_same (h2.same s1) ?_
      generalize upd H pt (.tup [V.ty "list", .ty "tuple"]) = H1 at *
      have h11 := h1.same s1
      have h21 := h2.same s1
      walk_at "r"
      refine isi_tp_lst h11 ?_
      walk_at "r"
      refine isi_tp_lst h21 ?_
      walk_at "r"
      intro pu npu
      have s2 := same_upd (o := .tup [V.ty "list", .ty "tuple"]) npu
      walk_at "r"
      refine isiT_tp upd_same (h11.same s2) ?_
      generalize upd H1 pu (.tup [V.ty "list", .ty "tuple"]) = H2 at *
      have h12 := h11.same s2
      have h22 := h21.same s2
      walk_at "r"
      refine rd_zipP ?_
      walk_at "r"
      refine ⟨p, q', xs, ys, rfl, ?_⟩
      refine lc_zipP (R := fun H v (b : Bool) => v = .bl b) (fun _ _ _ _ _ h => h) (f := fun _ => some true) (by omega) hl (.inr ⟨h12.sq, h22.sq⟩) (fun i a b ha hb H' Q' N s4 hy _ T2 nT => ?_) (fun D H' hlst => ?_) rfl
      · have sm := same_upd (o := .tup [a, b]) nT
        walk_at "r"
        refine ⟨rfl, ?_⟩
        walk_at "r"
        exact ⟨a, b, rfl, ((Sm.same s4 (Sm.same s2 (Sm.same s1 (hs i a b ha hb))))).same sm, fun H5 s5 => hy true _ _ rfl (sm.trans s5) rfl⟩
      · obtain ⟨s4, bs, hD, hbs⟩ := hlst
        rw [upTo_map] at hbs
        have e := bools_of hbs
        subst e
        walk_at "r"
        refine ⟨D, _, rfl, .of hD, ?_⟩
        rw [all_true _ (by simp)]
        exact q _ ((s1.trans s2).trans s4)
def SmL (K : PySem.W.Frag) (H : Hp) (x y : V) : Prop := ∃ (p q : Addr) (xs ys : List V), x = .ref p ∧ y = .ref q ∧ H p = some (.lst xs) ∧ H q = some (.lst ys) ∧ xs.length = ys.length ∧ xs.length ≤ 100 ∧ ∀ (i : Nat) (a b : V), xs[i]? = some a → ys[i]? = some b → Sm K H 2 a b
def sp_sameL (K : PySem.W.Frag) : Sp := fun vs H Q _ => ∃ x y : V, vs = [x, y] ∧ SmL K H x y ∧ ∀ H', Same H H' → Q (.bl true) H'
theorem ok_sameL (T : Txt K mg f_is_integer f_is_row f_is_fraction f_is_some f_lowest f_multiplied f_squared f_lies_below f_is_stall f_is_ware f_check_ware f_check_two f_across f_hold_of f_is_index f_check_some f_is_step f_end_of f_is_walk f_check_route f_rule_behind f_rule_of f_out_by f_route_out f_routes_on f_best_route f_l_is_integer f_l_source f_l_draw f_l_made f_l_plus f_l_times f_l_over f_l_below f_l_some f_l_stall f_l_stalls f_l_piece f_l_pair f_l_same f_l_rule f_l_comes f_l_routes f_l_fair f_l_web f_l_best f_law f_Web_init f_Web_eq c_BadWare c_Web c_NO_STEPS d_is_integer d_is_row d_is_fraction d_is_some d_lowest d_multiplied d_squared d_lies_below d_is_stall d_is_ware d_check_ware d_check_two d_across d_hold_of d_is_index d_check_some d_is_step d_end_of d_is_walk d_check_route d_rule_behind d_rule_of d_out_by d_route_out d_routes_on d_best_route d_l_is_integer d_l_source d_l_draw d_l_made d_l_plus d_l_times d_l_over d_l_below d_l_some d_l_stall d_l_stalls d_l_piece d_l_pair d_l_same d_l_rule d_l_comes d_l_routes d_l_fair d_l_web d_l_best d_law d_Web_init d_Web_eq) : FnOk P w K mg base CX0 6 f_l_same d_l_same ["_law_told", "_law_due"] (sp_sameL K) := by
  have G_l_same : FnOk P w K mg base CX0 5 f_l_same d_l_same ["_law_told", "_law_due"] (sp_same K 2) := ok_same2 T
  have G_l_is_integer : FnOk P w K mg base CX0 1 f_l_is_integer d_l_is_integer ["_law_thing"] sp_is_integer := ok_l_is_integer T
  refine T.F_l_same.ok sc_l_same (fun vs H Q E h => ?_) (fun cdv A outer sh H vs Q E hr h => ?_)
  · obtain ⟨x, y, rfl, _⟩ := h
    rfl
  · obtain ⟨x, y, rfl, ⟨p, q', xs, ys, rfl, rfl, h1, h2, hl, h100, hs⟩, q⟩ := h
    refine ⟨_, (pss_cons (ps_if (pt_val (pe_callB call_isiT (by rfl) T.z_isinstance (by decide +kernel) (pa_cons (pv 1) (pa_cons (pe_tup (pa_cons (pe_bltn (v := .ty "list") (u := .type "list") (by rfl) T.z_list (by decide +kernel) rfl) (pa_cons (pe_bltn (v := .ty "tuple") (u := .type "tuple") (by rfl) T.z_tuple (by decide +kernel) rfl) pa_nil))) pa_nil))))
        (pss_cons (ps_if (PW.pt (pw_or (pt_cmpR op_ne (pe_callB call_isi (by rfl) T.z_isinstance (by decide +kernel) (pa_cons (pv 0) (pa_cons (pe_bltn (v := .ty "list") (u := .type "list") (by rfl) T.z_list (by decide +kernel) rfl) pa_nil))) (pe_callB call_isi (by rfl) T.z_isinstance (by decide +kernel) (pa_cons (pv 1) (pa_cons (pe_bltn (v := .ty "list") (u := .type "list") (by rfl) T.z_list (by decide +kernel) rfl) pa_nil))) (nomark _)) (pw_or (pt_not (pt_val (pe_callB call_isiT (by rfl) T.z_isinstance (by decide +kernel) (pa_cons (pv 0) (pa_cons (pe_tup (pa_cons (pe_bltn (v := .ty "list") (u := .type "list") (by rfl) T.z_list (by decide +kernel) rfl) (pa_cons (pe_bltn (v := .ty "tuple") (u := .type "tuple") (by rfl) T.z_tuple (by decide +kernel) rfl) pa_nil))) pa_nil))))) (pw_or1 (pt_cmpR op_ne (pe_callB call_lenN (by rfl) T.z_len (by decide +kernel) (pa_cons (pv 0) pa_nil)) (pe_callB call_lenN (by rfl) T.z_len (by decide +kernel) (pa_cons (pv 1) pa_nil)) (nomark _))))))
            (pss_one (ps_ret pe_bl))
            pss_nil)
          (pss_one (ps_ret (pe_callB (cr_all rfl) (by rfl) T.z_all (by decide +kernel) (pa_cons (pe_lc (own := [("_law_one", 2), ("_law_other", 3)]) (g := gTup K 2 (gCons (gName 2) (gCons (gName 3) (gNil)))) rfl sc_l_same.nd (My.pi_zipP (by rfl) T.z_zip (pa_cons (pv 0) (pa_cons (pv 1) pa_nil))) (blkOk_by (own := [("_law_one", 2), ("_law_other", 3)]) (N := N_l_same) (sc := defScope s_l_same) (by decide +kernel)) (fun _ _ _ _ _ => (pg_tup rfl (pgs_cons (pg_name (i := 2) sc_l_same.nd rfl (by first | exact Or.inl rfl | exact Or.inr rfl)) (pgs_cons (pg_name (i := 3) sc_l_same.nd rfl (by first | exact Or.inl rfl | exact Or.inr rfl)) pgs_nil)))) (fun _ _ _ _ _ => pts_nil) (fun _ _ _ _ _ => (pe_call G_l_same (hr.mono (by decide)) (by rfl) T.g_l_same T.k_l_same T.b_l_same .nil pass0 (pa_cons (pv 2) (pa_cons (pv 3) pa_nil))))) pa_nil)))))
        pss_nil)
      (pss_cons (ps_if (pt_cmpR op_isN (pv 1) pe_non (nomark _))
        (pss_one (ps_ret (pe_cmpR op_isN (pv 0) pe_non (nomark _))))
        pss_nil)
      (pss_cons (ps_if (pt_val (pe_callB call_isi (by rfl) T.z_isinstance (by decide +kernel) (pa_cons (pv 1) (pa_cons (pe_bltn (v := .ty "bool") (u := .type "bool") (by rfl) T.z_bool (by decide +kernel) rfl) pa_nil))))
        (pss_one (ps_ret (pe_and (pe_callB call_isi (by rfl) T.z_isinstance (by decide +kernel) (pa_cons (pv 0) (pa_cons (pe_bltn (v := .ty "bool") (u := .type "bool") (by rfl) T.z_bool (by decide +kernel) rfl) pa_nil))) (pe_one (pe_cmpR op_eq (pv 0) (pv 1) (nomark _))))))
        pss_nil)
      (pss_cons (ps_if (pt_val (pe_callB call_isi (by rfl) T.z_isinstance (by decide +kernel) (pa_cons (pv 1) (pa_cons (pe_bltn (v := .ty "str") (u := .type "str") (by rfl) T.z_str (by decide +kernel) rfl) pa_nil))))
        (pss_one (ps_ret (pe_and (pe_callB call_isi (by rfl) T.z_isinstance (by decide +kernel) (pa_cons (pv 0) (pa_cons (pe_bltn (v := .ty "str") (u := .type "str") (by rfl) T.z_str (by decide +kernel) rfl) pa_nil))) (pe_one (pe_cmpR op_eq (pv 0) (pv 1) (nomark _))))))
        pss_nil)
      (pss_one (ps_ret (pe_and (pe_call G_l_is_integer (hr.mono (by decide)) (by rfl) T.g_l_is_integer T.k_l_is_integer T.b_l_is_integer .nil pass0 (pa_cons (pv 0) pa_nil)) (pe_one (pe_cmpR op_eq (pv 0) (pv 1) (nomark _)))))))))), ?_⟩
    walk_at "r"
    intro pt npt
    have s1 := same_upd (o := .tup [V.ty "list", .ty "tuple"]) npt
    walk_at "r"
    refine isiT_lstT upd_same (s1 _ _ h2) ?_
    generalize upd H pt (.tup [V.ty "list", .ty "tuple"]) = H1 at *
    have h11 := s1 _ _ h1
    have h21 := s1 _ _ h2
    walk_at "r"
    refine isi_lst2 h11 ?_
    walk_at "r"
    refine isi_lst2 h21 ?_
    walk_at "r"
    intro pu npu
    have s2 := same_upd (o := .tup [V.ty "list", .ty "tuple"]) npu
    walk_at "r"
    refine isiT_lstT upd_same (s2 _ _ h11) ?_
    generalize upd H1 pu (.tup [V.ty "list", .ty "tuple"]) = H2 at *
    have h12 := s2 _ _ h11
    have h22 := s2 _ _ h21
    walk_at "r"
    refine rd_zipP ?_
    walk_at "r"
    refine ⟨p, q', xs, ys, rfl, ?_⟩
    refine lc_zipP (R := fun H v (b : Bool) => v = .bl b) (fun _ _ _ _ _ h => h) (f := fun _ => some true) (by omega) hl (.inl ⟨.of h12, .of h22⟩) (fun i a b ha hb H' Q' N s4 hy _ T2 nT => ?_) (fun D H' hlst => ?_) rfl
    · have sm := same_upd (o := .tup [a, b]) nT
      walk_at "r"
      refine ⟨rfl, ?_⟩
      walk_at "r"
      exact ⟨a, b, rfl, ((Sm.same s4 (Sm.same s2 (Sm.same s1 (hs i a b ha hb))))).same sm, fun H5 s5 => hy true _ _ rfl (sm.trans s5) rfl⟩
    · obtain ⟨s4, bs, hD, hbs⟩ := hlst
      rw [upTo_map] at hbs
      have e := bools_of hbs
      subst e
      walk_at "r"
      refine ⟨D, _, rfl, .of hD, ?_⟩
      rw [all_true _ (by simp)]
      exact q _ ((s1.trans s2).trans s4)
theorem Sm.up {H : Hp} : ∀ {d : Nat} {x y : V}, Sm K H d x y → Sm K H (d + 1) x y
  | 0, _, _, h => .inl h
  | d + 1, x, y, h => by
    rcases h with h | ⟨p, q, xs, ys, e1, e2, h1, h2, h3, h4, h5⟩
    · exact .inl h
    · exact .inr ⟨p, q, xs, ys, e1, e2, h1, h2, h3, h4, fun i a b ha hb => (h5 i a b ha hb).up⟩
theorem sml_frs {H : Hp} {p q : Addr} {xs ys : List V} {rs : List Rat} (hp : H p = some (.lst xs)) (hq : H q = some (.lst ys)) (h1 : Fs K H xs rs) (h2 : Fs K H ys rs) (l : rs.length ≤ 100) : SmL K H (.ref p) (.ref q) := by
  have l1 := h1.len
  have l2 := h2.len
  refine ⟨p, q, xs, ys, rfl, rfl, hp, hq, by omega, by omega, fun i a b ha hb => ?_⟩
  obtain ⟨r, hr, ir⟩ := Paired.at h1 ha
  obtain ⟨t, ht, it⟩ := Paired.at h2 hb
  rw [hr] at ht
  cases ht
  exact (sm_fr ir it).up
theorem sm_mv {H : Hp} {x y : V} {m : Mv} (h1 : IsM K H x m) (h2 : IsM K H y m) : Sm K H 2 x y := by
  obtain ⟨p, vx, rfl, hp, ix⟩ := h1
  obtain ⟨q, wx, rfl, hq, jx⟩ := h2
  refine .inr ⟨p, q, _, _, rfl, rfl, .inl hp, .inl hq, rfl, by show 3 ≤ 100; decide, fun i a b ha hb => ?_⟩
  match i, ha, hb with
  | 0, ha, hb => exact .inl ⟨_, (Option.some.inj ha).symm, (Option.some.inj hb).symm⟩
  | 1, ha, hb => exact .inl ⟨_, (Option.some.inj ha).symm, (Option.some.inj hb).symm⟩
  | 2, ha, hb =>
    cases ha
    cases hb
    exact sm_fr ix jx
theorem sml_mvs {H : Hp} {p q : Addr} {xs ys : List V} {ms : List Mv} (hp : H p = some (.lst xs)) (hq : H q = some (.lst ys)) (h1 : Paired (IsM K H) xs ms) (h2 : Paired (IsM K H) ys ms) (l : ms.length ≤ 100) : SmL K H (.ref p) (.ref q) := by
  have l1 := Paired.length h1
  have l2 := Paired.length h2
  refine ⟨p, q, xs, ys, rfl, rfl, hp, hq, by omega, by omega, fun i a b ha hb => ?_⟩
  obtain ⟨r, hr, ir⟩ := Paired.at h1 ha
  obtain ⟨t, ht, it⟩ := Paired.at h2 hb
  rw [hr] at ht
  cases ht
  exact sm_mv ir it
end
end My
namespace My
open PySem PySem.Spec PyProof.Rows L2
variable {K : PySem.W.Frag}
theorem Tri.bd {B : Nat} {x : Rat × Rat} {m b l : Int} (h : Tri B x m b l) : Bd B x.1 ∧ Bd B x.2 := by
  have m0 := h.m0
  have b0 := h.b0
  rw [h.e1, h.e2]
  exact ⟨Bd.divInt (by omega) (na_lt (by omega) h.mB) (na_lt (by omega) h.bB), Bd.divInt (by omega) (na_lt h.l0 h.lB) (na_lt (by omega) h.bB)⟩
section
variable {P : Program} {w : World} {K : PySem.W.Frag} {mg : Str → Option Value} {base : Heap} {f_is_integer f_is_row f_is_fraction f_is_some f_lowest f_multiplied f_squared f_lies_below f_is_stall f_is_ware f_check_ware f_check_two f_across f_hold_of f_is_index f_check_some f_is_step f_end_of f_is_walk f_check_route f_rule_behind f_rule_of f_out_by f_route_out f_routes_on f_best_route f_l_is_integer f_l_source f_l_draw f_l_made f_l_plus f_l_times f_l_over f_l_below f_l_some f_l_stall f_l_stalls f_l_piece f_l_pair f_l_same f_l_rule f_l_comes f_l_routes f_l_fair f_l_web f_l_best f_law f_Web_init f_Web_eq c_BadWare c_Web c_NO_STEPS : Addr} {d_is_integer d_is_row d_is_fraction d_is_some d_lowest d_multiplied d_squared d_lies_below d_is_stall d_is_ware d_check_ware d_check_two d_across d_hold_of d_is_index d_check_some d_is_step d_end_of d_is_walk d_check_route d_rule_behind d_rule_of d_out_by d_route_out d_routes_on d_best_route d_l_is_integer d_l_source d_l_draw d_l_made d_l_plus d_l_times d_l_over d_l_below d_l_some d_l_stall d_l_stalls d_l_piece d_l_pair d_l_same d_l_rule d_l_comes d_l_routes d_l_fair d_l_web d_l_best d_law d_Web_init d_Web_eq : FuncData}
def sp_lrule (K : PySem.W.Frag) : Sp := fun vs H Q _ => ∃ (S : Addr) (v : V) (n : Nat) (xs : List V) (ss : List Stl) (st : List (Nat × Nat)), vs = [.ref S, v] ∧ H S = some (.lst xs) ∧ Sts K H xs ss ∧ IsRt K H v st ∧ (∀ p ∈ st, ∃ s, ss[p.1]? = some s ∧ (p.2 = s.u ∨ p.2 = s.v)) ∧ st.length ≤ 16 ∧ (∀ s ∈ ss, OkSt n s ∧ BdSt 20 s) ∧
  ∀ H' p v1 v2, Same H H' → H' p = some (.tup [v1, v2]) → IsF K H' v1 (ruleR ss st).1 → IsF K H' v2 (ruleR ss st).2 → Q (.ref p) H'
theorem ok_l_rule (T : Txt K mg f_is_integer f_is_row f_is_fraction f_is_some f_lowest f_multiplied f_squared f_lies_below f_is_stall f_is_ware f_check_ware f_check_two f_across f_hold_of f_is_index f_check_some f_is_step f_end_of f_is_walk f_check_route f_rule_behind f_rule_of f_out_by f_route_out f_routes_on f_best_route f_l_is_integer f_l_source f_l_draw f_l_made f_l_plus f_l_times f_l_over f_l_below f_l_some f_l_stall f_l_stalls f_l_piece f_l_pair f_l_same f_l_rule f_l_comes f_l_routes f_l_fair f_l_web f_l_best f_law f_Web_init f_Web_eq c_BadWare c_Web c_NO_STEPS d_is_integer d_is_row d_is_fraction d_is_some d_lowest d_multiplied d_squared d_lies_below d_is_stall d_is_ware d_check_ware d_check_two d_across d_hold_of d_is_index d_check_some d_is_step d_end_of d_is_walk d_check_route d_rule_behind d_rule_of d_out_by d_route_out d_routes_on d_best_route d_l_is_integer d_l_source d_l_draw d_l_made d_l_plus d_l_times d_l_over d_l_below d_l_some d_l_stall d_l_stalls d_l_piece d_l_pair d_l_same d_l_rule d_l_comes d_l_routes d_l_fair d_l_web d_l_best d_law d_Web_init d_Web_eq) : FnOk P w K mg base CX0 3 f_l_rule d_l_rule ["_law_stalls_here", "_law_route"] (sp_lrule K) := by
  have G_l_plus : FnOk P w K mg base CX0 2 f_l_plus d_l_plus ["_law_one", "_law_other"] (sp_two9 K (· + ·)) := ok_l_plus T
  have G_l_times : FnOk P w K mg base CX0 2 f_l_times d_l_times ["_law_one", "_law_other"] (sp_two9 K (· * ·)) := ok_l_times T
  have G_l_over : FnOk P w K mg base CX0 2 f_l_over d_l_over ["_law_one", "_law_other"] (sp_over K) := ok_l_over T
  refine T.F_l_rule.ok sc_l_rule (fun vs H Q E h => ?_) (fun cdv A outer sh H vs Q E hr h => ?_)
  · obtain ⟨S, v, n, xs, ss, st, rfl, _⟩ := h
    rfl
  · obtain ⟨S, v, n, xs, ss, st, rfl, hS, hst, ⟨tw, vw, rfl, htw, hpw⟩, hm, l16, hok, q⟩ := h
    have lw := Paired.length hpw
    have hok1 : ∀ s ∈ ss, OkSt n s := fun s hs => (hok s hs).1
    refine ⟨_, (pss_cons (ps_set (i := 2) sc_l_rule.nd rfl (by first | exact Or.inl rfl | exact Or.inr rfl) (pe_tup (pa_cons pe_int (pa_cons pe_int pa_nil))))
      (pss_cons (ps_set (i := 3) sc_l_rule.nd rfl (by first | exact Or.inl rfl | exact Or.inr rfl) (pe_tup (pa_cons pe_int (pa_cons pe_int pa_nil))))
      (pss_cons (ps_for PassesOwn.never rfl (pi_tup (pv 1)) (pg_tup rfl (pgs_cons (pg_name (i := 4) sc_l_rule.nd rfl (by first | exact Or.inl rfl | exact Or.inr rfl)) (pgs_cons (pg_name (i := 5) sc_l_rule.nd rfl (by first | exact Or.inl rfl | exact Or.inr rfl)) pgs_nil)))
        (pss_cons (ps_asg (pe_ix ix_list (pv 0) (pv 4) (fun _ _ => rfl)) (pg_tup rfl (pgs_cons (pg_name (i := 6) sc_l_rule.nd rfl (by first | exact Or.inl rfl | exact Or.inr rfl)) (pgs_cons (pg_name (i := 7) sc_l_rule.nd rfl (by first | exact Or.inl rfl | exact Or.inr rfl)) (pgs_cons (pg_name (i := 8) sc_l_rule.nd rfl (by first | exact Or.inl rfl | exact Or.inr rfl)) (pgs_cons (pg_name (i := 9) sc_l_rule.nd rfl (by first | exact Or.inl rfl | exact Or.inr rfl)) (pgs_cons (pg_name (i := 10) sc_l_rule.nd rfl (by first | exact Or.inl rfl | exact Or.inr rfl)) pgs_nil)))))))
          (pss_cons (ps_asg (pe_ifExp (pt_cmpR op_eq (pv 5) (pv 6) (nomark _)) (pe_tup (pa_cons (pv 8) (pa_cons (pv 9) pa_nil))) (pe_tup (pa_cons (pv 9) (pa_cons (pv 8) pa_nil)))) (pg_tup rfl (pgs_cons (pg_name (i := 11) sc_l_rule.nd rfl (by first | exact Or.inl rfl | exact Or.inr rfl)) (pgs_cons (pg_name (i := 12) sc_l_rule.nd rfl (by first | exact Or.inl rfl | exact Or.inr rfl)) pgs_nil))))
          (pss_cons (ps_set (i := 3) sc_l_rule.nd rfl (by first | exact Or.inl rfl | exact Or.inr rfl) (pe_call G_l_plus (hr.mono (by decide)) (by rfl) T.g_l_plus T.k_l_plus T.b_l_plus .nil pass0 (pa_cons (pv 3) (pa_cons (pe_call G_l_over (hr.mono (by decide)) (by rfl) T.g_l_over T.k_l_over T.b_l_over .nil pass0 (pa_cons (pv 2) (pa_cons (pv 11) pa_nil))) pa_nil))))
          (pss_one (ps_set (i := 2) sc_l_rule.nd rfl (by first | exact Or.inl rfl | exact Or.inr rfl) (pe_call G_l_over (hr.mono (by decide)) (by rfl) T.g_l_over T.k_l_over T.b_l_over .nil pass0 (pa_cons (pe_call G_l_times (hr.mono (by decide)) (by rfl) T.g_l_times T.k_l_times T.b_l_times .nil pass0 (pa_cons (pv 2) (pa_cons (pv 12) pa_nil))) (pa_cons (pv 11) pa_nil)))))))))
      (pss_one (ps_ret (pe_tup (pa_cons (pv 2) (pa_cons (pv 3) pa_nil)))))))), ?_⟩
    walk_at "r"
    intro p0 np0
    have s0 := same_upd (o := .tup [V.int 1, .int 1]) np0
    have i0 : IsF K (upd H p0 (.tup [V.int 1, .int 1])) (.ref p0) 1 := isF_new (by decide) (by decide)
    generalize upd H p0 (.tup [V.int 1, .int 1]) = H1 at *
    walk_at "r"
    intro p1 np1
    have s1 := same_upd (o := .tup [V.int 0, .int 1]) np1
    have i1 : IsF K (upd H1 p1 (.tup [V.int 0, .int 1])) (.ref p1) 0 := isF_new (by decide) (by decide)
    generalize upd H1 p1 (.tup [V.int 0, .int 1]) = H2 at *
    have k2 := s0.trans s1
    walk_at "r"
    refine ⟨⟨_, .of (k2 _ _ htw)⟩, ?_⟩
    refine for_tup (K := K) (a := tw) (xs := vw) (fun i σ H' => ∃ (vr vl : V) (t4 t5 t6 t7 t8 t9 t10 t11 t12 : Option V), σ = [some (.ref S), some (.ref tw), some vr, some vl, t4, t5, t6, t7, t8, t9, t10, t11, t12] ∧ Same H H' ∧ IsF K H' vr (ruleR ss (st.take i)).1 ∧ IsF K H' vl (ruleR ss (st.take i)).2) ?_ ?_ ?_ ?_
    · exact ⟨_, _, _, _, _, _, _, _, _, _, _, rfl, k2, i0.same s1, i1⟩
    · rintro i σ H' _ ⟨vr, vl, t4, t5, t6, t7, t8, t9, t10, t11, t12, rfl, s2, _⟩
      exact .of (s2 _ _ htw)
    · rintro i z σ H' hx ⟨vr, vl, t4, t5, t6, t7, t8, t9, t10, t11, t12, rfl, s2, ivr, ivl⟩
      have hil := (List.getElem?_eq_some_iff.mp hx).1
      obtain ⟨⟨ix, wn⟩, hpi, pq, rfl, hpq⟩ := Paired.at hpw hx
      obtain ⟨s, hs, hwn⟩ := hm _ (List.mem_of_getElem? hpi)
      have oks := hok1 s (List.mem_of_getElem? hs)
      have bs := (hok s (List.mem_of_getElem? hs)).2
      obtain ⟨zs, hzs, izs⟩ := (hst.same s2).get hs
      obtain ⟨ps, va, vb, vr', rfl, hps, ia, ib, ir⟩ := id izs
      have hpq2 := s2 _ _ hpq
      obtain ⟨m, b, l, tri⟩ := tri_all hok hm i (by omega)
      obtain ⟨b1, b2⟩ := tri.bd
      have k0 := hold_pos2 oks wn
      have bk := hold_bd2 bs wn
      have by' := hold_bd2 bs (s.other wn)
      have goal : ∀ (H3 : Hp) (vh vt : V) (t4 t5 t6 t7 t8 t9 t10 : Option V), Same H' H3 → IsF K H3 vh (s.hold wn) → IsF K H3 vt (s.hold (s.other wn)) → True := fun _ _ _ _ _ _ _ _ _ _ _ _ _ => trivial
      walk_at "r"
      refine rd_ixL (s2 _ _ hS) (at_some hzs) ?_
      by_cases e : wn = s.u
      · have e' : ((wn : Nat) : Int) = (s.u : Nat) := by omega
        have eh : s.hold wn = s.a := if_pos e
        have et : s.hold (s.other wn) = s.b := by
          rw [show s.other wn = s.v from if_pos e]
          exact if_neg fun z => oks.ne z.symm
        rw [eh] at k0 bk
        rw [et] at by'
        walk_at "r"
        intro pt npt
        have s3 := same_upd (o := .tup [va, vb]) npt
        have hpt : upd H' pt (.tup [va, vb]) pt = some (.tup [va, vb]) := upd_same
        generalize upd H' pt (.tup [va, vb]) = H3 at *
        walk_at "r"
        refine ⟨_, _, _, _, rfl, ivr.same s3, ia.same s3, k0, b1.mono (by omega), bk.mono (by decide), fun H4 v4 s4 h4 => ?_⟩
        walk_at "r"
        refine ⟨_, _, _, _, rfl, (ivl.same s3).same s4, h4, b2.mono (by omega), (b1.div (ne_of_pos k0) bk).mono (by omega), fun H5 v5 s5 h5 => ?_⟩
        have k5 := (s3.trans s4).trans s5
        walk_at "r"
        refine ⟨_, _, _, _, rfl, ivr.same k5, ib.same k5, b1.mono (by omega), by'.mono (by decide), fun H6 v6 s6 h6 => ?_⟩
        walk_at "r"
        refine ⟨_, _, _, _, rfl, h6, (ia.same k5).same s6, k0, (b1.mul by').mono (by omega), bk.mono (by decide), fun H7 v7 s7 h7 => ?_⟩
        walk_at "r"
        refine ⟨_, _, _, _, _, _, _, _, _, _, _, rfl, (s2.trans k5).trans (s6.trans s7), ?_, ?_⟩
        · rw [ruleR_take hpi hs]
          show IsF K H7 v7 ((ruleR ss (st.take i)).1 * s.hold (s.other wn) / s.hold wn)
          rw [eh, et]
          exact h7
        · rw [ruleR_take hpi hs]
          show IsF K H7 v5 ((ruleR ss (st.take i)).2 + (ruleR ss (st.take i)).1 / s.hold wn)
          rw [eh]
          exact (h5.same s6).same s7
      · have e' : ¬ ((wn : Nat) : Int) = (s.u : Nat) := by omega
        have ev : wn = s.v := hwn.resolve_left e
        have eh : s.hold wn = s.b := if_neg e
        have et : s.hold (s.other wn) = s.a := by
          rw [show s.other wn = s.u from if_neg e]
          exact if_pos rfl
        rw [eh] at k0 bk
        rw [et] at by'
        walk_at "r"
        intro pt npt
        have s3 := same_upd (o := .tup [vb, va]) npt
        have hpt : upd H' pt (.tup [vb, va]) pt = some (.tup [vb, va]) := upd_same
        generalize upd H' pt (.tup [vb, va]) = H3 at *
        walk_at "r"
        refine ⟨_, _, _, _, rfl, ivr.same s3, ib.same s3, k0, b1.mono (by omega), bk.mono (by decide), fun H4 v4 s4 h4 => ?_⟩
        walk_at "r"
        refine ⟨_, _, _, _, rfl, (ivl.same s3).same s4, h4, b2.mono (by omega), (b1.div (ne_of_pos k0) bk).mono (by omega), fun H5 v5 s5 h5 => ?_⟩
        have k5 := (s3.trans s4).trans s5
        walk_at "r"
        refine ⟨_, _, _, _, rfl, ivr.same k5, ia.same k5, b1.mono (by omega), by'.mono (by decide), fun H6 v6 s6 h6 => ?_⟩
        walk_at "r"
        refine ⟨_, _, _, _, rfl, h6, (ib.same k5).same s6, k0, (b1.mul by').mono (by omega), bk.mono (by decide), fun H7 v7 s7 h7 => ?_⟩
        walk_at "r"
        refine ⟨_, _, _, _, _, _, _, _, _, _, _, rfl, (s2.trans k5).trans (s6.trans s7), ?_, ?_⟩
        · rw [ruleR_take hpi hs]
          show IsF K H7 v7 ((ruleR ss (st.take i)).1 * s.hold (s.other wn) / s.hold wn)
          rw [eh, et]
          exact h7
        · rw [ruleR_take hpi hs]
          show IsF K H7 v5 ((ruleR ss (st.take i)).2 + (ruleR ss (st.take i)).1 / s.hold wn)
          rw [eh]
          exact (h5.same s6).same s7
    · rintro σ H' ⟨vr, vl, t4, t5, t6, t7, t8, t9, t10, t11, t12, rfl, s2, ivr, ivl⟩
      rw [lw, List.take_length] at ivr ivl
      walk_at "r"
      intro p4 np4
      have s4 := same_upd (o := .tup [vr, vl]) np4
      exact q _ p4 vr vl (s2.trans s4) upd_same (ivr.same s4) (ivl.same s4)
def sp_lcomes (K : PySem.W.Frag) : Sp := fun vs H Q _ => ∃ (p : Addr) (v1 v2 u : V) (x : Rat × Rat) (a : Rat), vs = [.ref p, u] ∧ H p = some (.tup [v1, v2]) ∧ IsF K H v1 x.1 ∧ IsF K H v2 x.2 ∧ IsF K H u a ∧ 0 < x.1 ∧ 0 ≤ x.2 ∧ 0 < a ∧ Bd 700 x.1 ∧ Bd 700 x.2 ∧ Bd 1500 a ∧ ∀ H' z, Same H H' → IsF K H' z (comes x a) → Q z H'
theorem ok_l_comes (T : Txt K mg f_is_integer f_is_row f_is_fraction f_is_some f_lowest f_multiplied f_squared f_lies_below f_is_stall f_is_ware f_check_ware f_check_two f_across f_hold_of f_is_index f_check_some f_is_step f_end_of f_is_walk f_check_route f_rule_behind f_rule_of f_out_by f_route_out f_routes_on f_best_route f_l_is_integer f_l_source f_l_draw f_l_made f_l_plus f_l_times f_l_over f_l_below f_l_some f_l_stall f_l_stalls f_l_piece f_l_pair f_l_same f_l_rule f_l_comes f_l_routes f_l_fair f_l_web f_l_best f_law f_Web_init f_Web_eq c_BadWare c_Web c_NO_STEPS d_is_integer d_is_row d_is_fraction d_is_some d_lowest d_multiplied d_squared d_lies_below d_is_stall d_is_ware d_check_ware d_check_two d_across d_hold_of d_is_index d_check_some d_is_step d_end_of d_is_walk d_check_route d_rule_behind d_rule_of d_out_by d_route_out d_routes_on d_best_route d_l_is_integer d_l_source d_l_draw d_l_made d_l_plus d_l_times d_l_over d_l_below d_l_some d_l_stall d_l_stalls d_l_piece d_l_pair d_l_same d_l_rule d_l_comes d_l_routes d_l_fair d_l_web d_l_best d_law d_Web_init d_Web_eq) : FnOk P w K mg base CX0 3 f_l_comes d_l_comes ["_law_rule_here", "_law_amount"] (sp_lcomes K) := by
  have G_l_plus : FnOk P w K mg base CX0 2 f_l_plus d_l_plus ["_law_one", "_law_other"] (sp_two9 K (· + ·)) := ok_l_plus T
  have G_l_times : FnOk P w K mg base CX0 2 f_l_times d_l_times ["_law_one", "_law_other"] (sp_two9 K (· * ·)) := ok_l_times T
  have G_l_over : FnOk P w K mg base CX0 2 f_l_over d_l_over ["_law_one", "_law_other"] (sp_over K) := ok_l_over T
  refine T.F_l_comes.ok sc_l_comes (fun vs H Q E h => ?_) (fun cdv A outer sh H vs Q E hr h => ?_)
  · obtain ⟨p, v1, v2, u, x, a, rfl, _⟩ := h
    rfl
  · obtain ⟨p, v1, v2, u, x, a, rfl, hp, i1, i2, iu, x1, x2, a0, b1, b2, ba, q⟩ := h
    have z : 0 ≤ x.2 * a := Rat.mul_nonneg x2 (Rat.le_of_lt a0)
    refine ⟨_, (pss_one (ps_ret (pe_call G_l_over (hr.mono (by decide)) (by rfl) T.g_l_over T.k_l_over T.b_l_over .nil pass0 (pa_cons (pe_call G_l_times (hr.mono (by decide)) (by rfl) T.g_l_times T.k_l_times T.b_l_times .nil pass0 (pa_cons (pe_ix ix_tup (pv 0) pe_int (fun _ _ => rfl)) (pa_cons (pv 1) pa_nil))) (pa_cons (pe_call G_l_plus (hr.mono (by decide)) (by rfl) T.g_l_plus T.k_l_plus T.b_l_plus .nil pass0 (pa_cons (pe_tup (pa_cons pe_int (pa_cons pe_int pa_nil))) (pa_cons (pe_call G_l_times (hr.mono (by decide)) (by rfl) T.g_l_times T.k_l_times T.b_l_times .nil pass0 (pa_cons (pe_ix ix_tup (pv 0) pe_int (fun _ _ => rfl)) (pa_cons (pv 1) pa_nil))) pa_nil))) pa_nil))))), ?_⟩
    walk_at "r"
    refine ⟨_, _, _, _, rfl, i1, iu, b1.mono (by decide), ba.mono (by decide), fun H1 w1 s1 h1 => ?_⟩
    walk_at "r"
    intro p0 np0
    have s0 := same_upd (o := .tup [V.int 1, .int 1]) np0
    have i0 : IsF K (upd H1 p0 (.tup [V.int 1, .int 1])) (.ref p0) 1 := isF_new (by decide) (by decide)
    generalize upd H1 p0 (.tup [V.int 1, .int 1]) = H2 at *
    have k2 := s1.trans s0
    have hp2 := k2 _ _ hp
    walk_at "r"
    refine ⟨_, _, _, _, rfl, i2.same k2, iu.same k2, b2.mono (by decide), ba.mono (by decide), fun H3 w3 s3 h3 => ?_⟩
    walk_at "r"
    refine ⟨_, _, _, _, rfl, i0.same s3, h3, ⟨by decide, by decide⟩, (b2.mul ba).mono (by decide), fun H4 w4 s4 h4 => ?_⟩
    have b4 : Bd 2202 (1 + x.2 * a) := ((show Bd 1 (1 : Rat) from ⟨by decide, by decide⟩).add (b2.mul ba)).mono (by decide)
    walk_at "r"
    exact ⟨_, _, _, _, rfl, ((h1.same s0).same s3).same s4, h4, by show (0 : Rat) < 1 + x.2 * a; grind, (b1.mul ba).mono (by decide), b4.mono (by decide), fun H5 w5 s5 h5 => q _ _ (((k2.trans s3).trans s4).trans s5) h5⟩
def purseR (n f : Nat) (a : Rat) : List Rat := (List.range n).map fun v => if v = f then a else 0
def sp_lpurse (K : PySem.W.Frag) : Sp := fun vs H Q _ => ∃ (n f : Nat) (u : V) (a : Rat), vs = [.int (n : Nat), .int (f : Nat), u] ∧ n ≤ 8 ∧ IsF K H u a ∧ ∀ H' z, Same H H' → IsFs K H' z (purseR n f a) → Q z H'
end
end My
namespace My
open PySem PySem.Spec PyProof.Rows L2
variable {K : PySem.W.Frag}
theorem atI_end {xs : List V} {i : Nat} {x : V} (h : xs[i]? = some x) (hl : xs.length = i + 1) : atI xs (-1) = some x := by
  have e : xs = xs.take i ++ [x] := by
    have := take_snoc h
    rw [← hl, List.take_length] at this
    exact this
  rw [e]
  exact atI_last _ _
/-- the ware that a route ends at -/
def endR (ss : List Stl) (st : List (Nat × Nat)) : Nat := match st.getLast? with
  | some p => match ss[p.1]? with
    | some s => s.other p.2
    | none => 0
  | none => 0
theorem endR_is {ss : List Stl} {st : List (Nat × Nat)} {i : Nat} {p : Nat × Nat} {s : Stl} (h : st[i]? = some p) (hl : st.length = i + 1) (hs : ss[p.1]? = some s) : endR ss st = s.other p.2 := by
  have e : st = st.take i ++ [p] := by
    have := take_snoc h
    rw [← hl, List.take_length] at this
    exact this
  unfold endR
  rw [e, List.getLast?_concat]
  simp only [hs]
theorem other_sum {s : Stl} {w : Nat} (h : w = s.u ∨ w = s.v) (ne : s.u ≠ s.v) : ((s.u : Nat) : Int) + (s.v : Nat) - (w : Nat) = (s.other w : Nat) := by
  rcases h with rfl | rfl
  · rw [show s.other s.u = s.v from if_pos rfl]
    omega
  · rw [show s.other s.v = s.u from if_neg fun z => ne z.symm]
    omega
section
variable {P : Program} {w : World} {K : PySem.W.Frag} {mg : Str → Option Value} {base : Heap} {f_is_integer f_is_row f_is_fraction f_is_some f_lowest f_multiplied f_squared f_lies_below f_is_stall f_is_ware f_check_ware f_check_two f_across f_hold_of f_is_index f_check_some f_is_step f_end_of f_is_walk f_check_route f_rule_behind f_rule_of f_out_by f_route_out f_routes_on f_best_route f_l_is_integer f_l_source f_l_draw f_l_made f_l_plus f_l_times f_l_over f_l_below f_l_some f_l_stall f_l_stalls f_l_piece f_l_pair f_l_same f_l_rule f_l_comes f_l_routes f_l_fair f_l_web f_l_best f_law f_Web_init f_Web_eq c_BadWare c_Web c_NO_STEPS : Addr} {d_is_integer d_is_row d_is_fraction d_is_some d_lowest d_multiplied d_squared d_lies_below d_is_stall d_is_ware d_check_ware d_check_two d_across d_hold_of d_is_index d_check_some d_is_step d_end_of d_is_walk d_check_route d_rule_behind d_rule_of d_out_by d_route_out d_routes_on d_best_route d_l_is_integer d_l_source d_l_draw d_l_made d_l_plus d_l_times d_l_over d_l_below d_l_some d_l_stall d_l_stalls d_l_piece d_l_pair d_l_same d_l_rule d_l_comes d_l_routes d_l_fair d_l_web d_l_best d_law d_Web_init d_Web_eq : FuncData}
def sp_lend (K : PySem.W.Frag) : Sp := fun vs H Q _ => ∃ (S : Addr) (v : V) (n : Nat) (xs : List V) (ss : List Stl) (st : List (Nat × Nat)), vs = [.ref S, v] ∧ H S = some (.lst xs) ∧ Sts K H xs ss ∧ IsRt K H v st ∧ Rte ss st ∧ (∀ s ∈ ss, OkSt n s) ∧ Q (.int (endR ss st : Nat)) H
def sp_ldeal (K : PySem.W.Frag) : Sp := fun vs H Q _ => ∃ (S : Addr) (v u : V) (n : Nat) (xs : List V) (ss : List Stl) (st : List (Nat × Nat)) (a : Rat), vs = [.ref S, v, u] ∧ H S = some (.lst xs) ∧ Sts K H xs ss ∧ IsRt K H v st ∧ Rte ss st ∧ ss.length ≤ 16 ∧ (∀ s ∈ ss, OkSt n s ∧ BdSt 20 s ∧ Bd 10 s.r) ∧ IsF K H u a ∧ 0 < a ∧ Bd 100 a ∧
  ∀ H' p L ys z, Same H H' → H' p = some (.lst [.ref L, z]) → H' L = some (.lst ys) → Paired (IsM K H') ys (mvsR ss st a st.length) → IsF K H' z (comes (ruleR ss st) a) → Q (.ref p) H'
theorem mvsR_else {ss : List Stl} {st : List (Nat × Nat)} (rt : Rte ss st) {a : Rat} {i : Nat} {p : Nat × Nat} (hp : st[i]? = some p) : (after ss (mvsR ss st a i))[p.1]? = ss[p.1]? := by
  have gen : ∀ k, k ≤ i → (after ss (mvsR ss st a k))[p.1]? = ss[p.1]? := by
    intro k
    induction k with
    | zero => exact fun _ => rfl
    | succ k ih =>
      intro hk
      rw [mvsR_succ, after_app]
      have hil := (List.getElem?_eq_some_iff.mp hp).1
      have hne : (mvR ss st a k).i ≠ p.1 := fun z => by
        have e1 : (mvR ss st a k).i = (st[k]'(by omega)).1 := by
          unfold mvR
          rw [List.getD_eq_getElem?_getD, List.getElem?_eq_getElem (by omega)]
          rfl
        have e2 : p.1 = (st[i]'hil).1 := by rw [(List.getElem?_eq_some_iff.mp hp).2]
        have pw := List.pairwise_iff_getElem.mp rt.nd k i (by rw [List.length_map]; omega) (by rw [List.length_map]; omega) (by omega)
        rw [List.getElem_map, List.getElem_map] at pw
        exact pw (by rw [← e1, ← e2, z])
      show (mv1 (after ss (mvsR ss st a k)) (mvR ss st a k))[p.1]? = _
      rw [← ih (by omega)]
      unfold mv1
      split
      · rw [List.getElem?_set_ne hne]
      · rfl
  exact gen i (Nat.le_refl i)
theorem mv1_len' (ss : List Stl) (m : Mv) : (mv1 ss m).length = ss.length := by
  unfold mv1
  split
  · rw [List.length_set]
  · rfl
theorem after_len' (ms : List Mv) : ∀ ss : List Stl, (after ss ms).length = ss.length := by
  unfold after
  induction ms with
  | nil => exact fun _ => rfl
  | cons m ms ih =>
    intro ss
    rw [List.foldl_cons, ih, mv1_len']
end
end My
namespace My
open PySem PySem.Spec PyProof.Rows L2
variable {K : PySem.W.Frag}
theorem Paired.app {α β : Type} {R : α → β → Prop} {xs us : List α} {ys vs : List β} (h : Paired R xs ys) (g : Paired R us vs) : Paired R (xs ++ us) (ys ++ vs) := by
  induction h with
  | nil => exact g
  | cons h t ih => exact .cons h ih
/-- there by the one stalls of a row and back by the other ones -/
def wl1 (n : Nat) : List (Nat × Nat) := (List.range (n - 1)).map fun k => (k, k)
def wl2 (n : Nat) : List (Nat × Nat) := (List.range (n - 1)).map fun k => (2 * n - 3 - k, n - 1 - k)
def wl (n : Nat) : List (Nat × Nat) := wl1 n ++ wl2 n
def wlOk (n : Nat) : Bool := decide ((wl n).length = 2 * n - 2) && decide ((wl n).map Prod.fst).Nodup && (wl n).all (fun p => decide (p.1 < 2 * n - 2 ∧ (p.2 = p.1 % (n - 1) ∨ p.2 = p.1 % (n - 1) + 1))) &&
  (List.range (2 * n - 3)).all fun i => decide ((if ((wl n).getD i (0, 0)).2 = ((wl n).getD i (0, 0)).1 % (n - 1) then ((wl n).getD i (0, 0)).1 % (n - 1) + 1 else ((wl n).getD i (0, 0)).1 % (n - 1)) = ((wl n).getD (i + 1) (0, 0)).2)
theorem wl_ok {n : Nat} (h4 : 4 ≤ n) (h8 : n ≤ 8) : wlOk n = true := by
  rcases (show n = 4 ∨ n = 5 ∨ n = 6 ∨ n = 7 ∨ n = 8 by omega) with rfl | rfl | rfl | rfl | rfl <;> decide +kernel
theorem wl_rte {n : Nat} (h4 : 4 ≤ n) (h8 : n ≤ 8) {ss : List Stl} (hl : ss.length = 2 * n - 2) (hs : ∀ j s, ss[j]? = some s → s.u = j % (n - 1) ∧ s.v = j % (n - 1) + 1) : Rte ss (wl n) ∧ (wl n).length = 2 * n - 2 := by
  have h := wl_ok h4 h8
  unfold wlOk at h
  rw [Bool.and_eq_true, Bool.and_eq_true, Bool.and_eq_true, decide_eq_true_eq, decide_eq_true_eq, List.all_eq_true, List.all_eq_true] at h
  obtain ⟨⟨⟨h1, h2⟩, h3⟩, h4'⟩ := h
  refine ⟨⟨by omega, fun p hp => ?_, h2, fun i p q s e1 e2 e3 => ?_⟩, h1⟩
  · have z := of_decide_eq_true (h3 p hp)
    have hlt : p.1 < ss.length := by omega
    have e := List.getElem?_eq_getElem hlt
    obtain ⟨g1, g2⟩ := hs _ _ e
    refine ⟨_, e, ?_⟩
    rw [g1, g2]
    exact z.2
  · have hi := (List.getElem?_eq_some_iff.mp e2).1
    have z := of_decide_eq_true (h4' i (List.mem_range.mpr (by omega)))
    rw [List.getD_eq_getElem?_getD, List.getD_eq_getElem?_getD, e1, e2] at z
    obtain ⟨g1, g2⟩ := hs _ _ e3
    unfold Stl.other
    rw [g1, g2]
    exact z
section
variable {P : Program} {w : World} {K : PySem.W.Frag} {mg : Str → Option Value} {base : Heap} {f_is_integer f_is_row f_is_fraction f_is_some f_lowest f_multiplied f_squared f_lies_below f_is_stall f_is_ware f_check_ware f_check_two f_across f_hold_of f_is_index f_check_some f_is_step f_end_of f_is_walk f_check_route f_rule_behind f_rule_of f_out_by f_route_out f_routes_on f_best_route f_l_is_integer f_l_source f_l_draw f_l_made f_l_plus f_l_times f_l_over f_l_below f_l_some f_l_stall f_l_stalls f_l_piece f_l_pair f_l_same f_l_rule f_l_comes f_l_routes f_l_fair f_l_web f_l_best f_law f_Web_init f_Web_eq c_BadWare c_Web c_NO_STEPS : Addr} {d_is_integer d_is_row d_is_fraction d_is_some d_lowest d_multiplied d_squared d_lies_below d_is_stall d_is_ware d_check_ware d_check_two d_across d_hold_of d_is_index d_check_some d_is_step d_end_of d_is_walk d_check_route d_rule_behind d_rule_of d_out_by d_route_out d_routes_on d_best_route d_l_is_integer d_l_source d_l_draw d_l_made d_l_plus d_l_times d_l_over d_l_below d_l_some d_l_stall d_l_stalls d_l_piece d_l_pair d_l_same d_l_rule d_l_comes d_l_routes d_l_fair d_l_web d_l_best d_law d_Web_init d_Web_eq : FuncData}
def sp_lback (K : PySem.W.Frag) (M : Nat) : Sp := fun vs H Q _ => ∃ (D : Addr) (c n : Nat), vs = [.ref D, .int (n : Nat)] ∧ Src M D H c ∧ c ≤ 2 ^ 36 ∧ 4 ≤ n ∧ n ≤ 8 ∧
  ∀ H' p S v xs ss, Fw D H H' → Src M D H' (c + 100) → H' p = some (.lst [.ref S, v]) → S ≠ D → H' S = some (.lst xs) → Sts K H' xs ss → ss.length = 2 * n - 2 → (∀ s ∈ ss, OkSt n s ∧ BdSt 20 s ∧ Bd 10 s.r) → IsRt K H' v (wl n) → Rte ss (wl n) → (wl n).length = 2 * n - 2 → (∀ j s, ss[j]? = some s → s.u = j % (n - 1) ∧ s.v = j % (n - 1) + 1) → Q (.ref p) H'
end
end My
namespace My
open PySem PySem.Spec PyProof.Rows L2
variable {K : PySem.W.Frag}
theorem call_tuple_ofK {X : Cx} (h : X.K = K) : CallR X (.type "tuple") (fun xs H Q => ∃ p ys, xs = [.ref p] ∧ ((SqL K H p ys ∧ ∀ l, H l = none → Q (.ref l) (upd H l (.tup ys))) ∨ (SqT K H p ys ∧ Q (.ref p) H))) := h ▸ call_tuple_of
theorem frD_refl (r : Rat) : PyData.eqv (frD r) (frD r) = true := by rw [frD_eqv]; exact decide_eq_true rfl
theorem all_refl {α : Type} (f : α → PyData) (h : ∀ a, PyData.eqv (f a) (f a) = true) : ∀ l : List α, PyData.eqvAll (l.map f) (l.map f) = true
  | [] => rfl
  | a :: l => by
    show (PyData.eqv (f a) (f a) && PyData.eqvAll (l.map f) (l.map f)) = true
    rw [h, all_refl f h l]
    rfl
theorem all_lay {α : Type} (f : α → PyData) (h : ∀ a, PyData.canLay0 (f a) = true ∧ PyData.depth (f a) ≤ 2) : ∀ l : List α, PyData.canLayAll0 (l.map f) = true ∧ PyData.depthAll (l.map f) ≤ 2
  | [] => ⟨rfl, by show PyData.depthAll [] ≤ 2; decide⟩
  | a :: l => by
    obtain ⟨h1, h2⟩ := all_lay f h l
    obtain ⟨g1, g2⟩ := h a
    refine ⟨?_, ?_⟩
    · show (PyData.canLay0 (f a) && PyData.canLayAll0 (l.map f)) = true
      rw [h1, g1]
      rfl
    · show max (PyData.depth (f a)) (PyData.depthAll (l.map f)) ≤ 2
      omega
theorem shaped_list {α : Type} (f : α → PyData) (h : ∀ a, PyData.canLay0 (f a) = true ∧ PyData.depth (f a) ≤ 2) (l : List α) : SeqAt.shaped (.list (l.map f)) = true := by
  obtain ⟨h1, h2⟩ := all_lay f h l
  unfold SeqAt.shaped
  rw [Bool.and_eq_true]
  refine ⟨h1, decide_eq_true ?_⟩
  show PyData.depthAll (l.map f) + 1 ≤ 64
  omega
theorem shaped_tup {α : Type} (f : α → PyData) (h : ∀ a, PyData.canLay0 (f a) = true ∧ PyData.depth (f a) ≤ 2) (l : List α) : SeqAt.shaped (.tuple (l.map f)) = true := by
  obtain ⟨h1, h2⟩ := all_lay f h l
  unfold SeqAt.shaped
  rw [Bool.and_eq_true]
  refine ⟨h1, decide_eq_true ?_⟩
  show PyData.depthAll (l.map f) + 1 ≤ 64
  omega
theorem dps {α : Type} {R : Hp → V → α → Prop} {f : α → PyData} (hf : ∀ {H : Hp} {v : V} {a : α}, R H v a → Dp K H v (f a)) {H : Hp} {ys : List V} {as : List α} (h : Paired (R H) ys as) : DpAll K H ys (as.map f) := by
  induction h with
  | nil => exact .nil
  | cons h t ih => exact .cons (hf h) ih
theorem IsFs.dp {H : Hp} {v : V} {rs : List Rat} (h : IsFs K H v rs) : Dp K H v (.tuple (rs.map frD)) := by
  obtain ⟨L, ys, rfl, h1, h2⟩ := h
  exact .tup (.of h1) (dps (R := IsF K) (fun h => h.dp) h2)
theorem neFs {H : Hp} {v u : V} {rs : List Rat} {Q : VK} (h1 : IsFs K H v rs) (h2 : IsFs K H u rs) (q : Q (.bl false) H) : rNeD K v u H Q := by
  have sh := shaped_tup frD (fun m => ⟨rfl, Nat.le_succ 1⟩) rs
  refine ⟨_, _, h1.dp, h2.dp, sh, sh, ?_⟩
  rw [show PyData.eqv (.tuple (rs.map frD)) (.tuple (rs.map frD)) = true from all_refl frD frD_refl rs]
  exact q
theorem eqFs {H : Hp} {v u : V} {rs : List Rat} {Q : VK} (h1 : IsFs K H v rs) (h2 : IsFs K H u rs) (q : Q (.bl true) H) : rEqD K v u H Q := by
  have sh := shaped_tup frD (fun m => ⟨rfl, Nat.le_succ 1⟩) rs
  refine ⟨_, _, h1.dp, h2.dp, sh, sh, ?_⟩
  rw [show PyData.eqv (.tuple (rs.map frD)) (.tuple (rs.map frD)) = true from all_refl frD frD_refl rs]
  exact q
/-- own == and != of webs that are equal -/
theorem neWeb {C : Addr} {H : Hp} {v u : V} {n : Nat} {ss : List Stl} {Q : VK} (h1 : IsWeb K C H v n ss) (h2 : IsWeb K C H u n ss) (q : Q (.bl false) H) : rNeI C (BWeb K C) v u H Q := by
  obtain ⟨p, dx, t, xs, rfl, hp, _⟩ := id h1
  obtain ⟨p2, dx2, t2, xs2, rfl, hp2, _⟩ := id h2
  exact ⟨_, _, _, _, _, _, true, rfl, rfl, hp, hp2, ⟨n, n, _, _, h1, h2, by simp⟩, q⟩
theorem eqWeb {C : Addr} {H : Hp} {v u : V} {n : Nat} {ss : List Stl} {Q : VK} (h1 : IsWeb K C H v n ss) (h2 : IsWeb K C H u n ss) (q : Q (.bl true) H) : rEqI C (BWeb K C) v u H Q := by
  obtain ⟨p, dx, t, xs, rfl, hp, _⟩ := id h1
  obtain ⟨p2, dx2, t2, xs2, rfl, hp2, _⟩ := id h2
  exact ⟨_, _, _, _, _, _, true, rfl, rfl, hp, hp2, ⟨n, n, _, _, h1, h2, by simp⟩, q⟩
end My
namespace My
open PySem PySem.Spec PyProof.Rows L2
theorem Paired.take {α β : Type} {R : α → β → Prop} {xs : List α} {ys : List β} (h : Paired R xs ys) : ∀ i : Nat, Paired R (xs.take i) (ys.take i) := by
  induction h with
  | nil =>
    intro i
    rw [List.take_nil, List.take_nil]
    exact .nil
  | cons h t ih =>
    intro i
    cases i with
    | zero => exact .nil
    | succ i => exact .cons h (ih i)
theorem Paired.drop {α β : Type} {R : α → β → Prop} {xs : List α} {ys : List β} (h : Paired R xs ys) : ∀ i : Nat, Paired R (xs.drop i) (ys.drop i) := by
  induction h with
  | nil =>
    intro i
    rw [List.drop_nil, List.drop_nil]
    exact .nil
  | cons h t ih =>
    intro i
    cases i with
    | zero => exact .cons h t
    | succ i => exact ih i
variable {K : PySem.W.Frag}
theorem neNil {H : Hp} {S N : Addr} {xs : List V} {ss : List Stl} {Q : VK} (hS : H S = some (.lst xs)) (h : Sts K H xs ss) (hN : H N = some (.lst [])) (q : Q (.bl (!decide (ss = []))) H) : rNeD K (.ref S) (.ref N) H Q := by
  have sh := shaped_list stD (fun m => ⟨rfl, Nat.le_refl 2⟩) ss
  have sh2 := shaped_list stD (fun m => ⟨rfl, Nat.le_refl 2⟩) []
  refine ⟨_, _, .lst (.of hS) (dps (R := IsSt K) (f := stD) (fun h => h.dp) h), .lst (.of hN) .nil, sh, sh2, ?_⟩
  rw [show PyData.eqv (.list (ss.map stD)) (.list []) = decide (ss = []) from ?_]
  · exact q
  · cases ss with
    | nil => rfl
    | cons s ss => rfl
theorem row_of {H : Hp} {x : V} {rs : List Rat} (h : IsFs K H x rs) : IsRow K H x rs := by
  obtain ⟨t, ys, e, h1, h2⟩ := h
  exact ⟨t, ys, e, .inr h1, h2⟩
theorem rd_slA {H : Hp} {a : Addr} {xs : List V} {lo hi : Option Int} {Q : VK} (ha : H a = some (.tup xs)) (q : ∀ p H', Same H H' → H' p = some (.tup (cutV xs lo hi)) → Q (.ref p) H') : rSlA K (.ref a) lo hi H Q :=
  ⟨a, xs, rfl, .of ha, fun w => q a H (Same.refl _) (by
    have e : cutV xs lo hi = xs := by
      unfold cutV
      rw [w.1, w.2]
      simp
    rw [e]
    exact ha), fun _ p np => q p _ (same_upd np) upd_same⟩
def stepD (p : Nat × Nat) : PyData := .tuple [.int (p.1 : Nat), .int (p.2 : Nat)]
theorem neRt0 {H : Hp} {v : V} {N : Addr} {st : List (Nat × Nat)} {Q : VK} (h : IsRt K H v st) (hN : H N = some (.tup [])) (q : Q (.bl (!decide (st = []))) H) : rNeD K v (.ref N) H Q := by
  obtain ⟨t, vs, rfl, ht, hp⟩ := h
  have sh := shaped_tup stepD (fun m => ⟨rfl, Nat.le_succ 1⟩) st
  have sh2 := shaped_tup stepD (fun m => ⟨rfl, Nat.le_succ 1⟩) []
  refine ⟨.tuple (st.map stepD), .tuple [], .tup (.of ht) (dps (R := fun H v (p : Nat × Nat) => ∃ q, v = .ref q ∧ H q = some (.tup [V.int (p.1 : Nat), .int (p.2 : Nat)])) (f := stepD) (fun ⟨q, e, h⟩ => e ▸ .tup (.of h) (.cons (.int _) (.cons (.int _) .nil))) hp), .tup (.of hN) .nil, sh, sh2, ?_⟩
  rw [show PyData.eqv (.tuple (st.map stepD)) (.tuple []) = decide (st = []) from ?_]
  · exact q
  · cases st with
    | nil => rfl
    | cons s ss => rfl
theorem IsRt.tk {H : Hp} {p : Addr} {vs : List V} {st : List (Nat × Nat)} {k : Nat} (h : Paired (fun v (p : Nat × Nat) => ∃ q, v = .ref q ∧ H q = some (.tup [V.int (p.1 : Nat), .int (p.2 : Nat)])) vs st) (hp : H p = some (.tup (cutV vs none (some (k : Int))))) : IsRt K H (.ref p) (st.take k) := ⟨p, _, rfl, by rw [hp, cut_take], Paired.take h k⟩
theorem sm_two {H : Hp} {p q : Addr} {a b c d : V} {r s : Rat} (hp : H p = some (.tup [a, b])) (hq : H q = some (.tup [c, d])) (h1 : IsF K H a r) (h2 : IsF K H c r) (h3 : IsF K H b s) (h4 : IsF K H d s) : Sm K H 2 (.ref p) (.ref q) := by
  refine .inr ⟨p, q, _, _, rfl, rfl, .inl hp, .inl hq, rfl, by show 2 ≤ 100; decide, fun i x y hx hy => ?_⟩
  match i, hx, hy with
  | 0, hx, hy =>
    cases hx
    cases hy
    exact sm_fr h1 h2
  | 1, hx, hy =>
    cases hx
    cases hy
    exact sm_fr h3 h4
theorem endR_lt {n : Nat} {ss : List Stl} (hok : ∀ s ∈ ss, OkSt n s) {st : List (Nat × Nat)} (rt : Rte ss st) : endR ss st < n := by
  have l0 := rt.ne
  obtain ⟨k, hk⟩ : ∃ k, st.length = k + 1 := ⟨st.length - 1, by omega⟩
  have hp : st[k]? = some (st[k]'(by omega)) := List.getElem?_eq_getElem (by omega)
  obtain ⟨s, hs, hw⟩ := rt.mem _ (List.mem_of_getElem? hp)
  have ok := hok s (List.mem_of_getElem? hs)
  rw [endR_is hp hk hs]
  unfold Stl.other
  split
  · exact ok.v
  · exact ok.u
/-- the law's things of one web -/
structure G65 (K : PySem.W.Frag) (B D S w7 : Addr) (H0 : Hp) (n c : Nat) (vw : V) (xs : List V) (ss : List Stl) (wst : List (Nat × Nat)) (H : Hp) : Prop where
  dk : Src 1048576 D H c
  sm : Same H0 H
  web : IsWeb K B H (.ref w7) n ss
  fS : H S = some (.lst xs)
  st : Sts K H xs ss
  wh : IsRt K H vw wst
theorem same_fw {D : Addr} {H0 H H' : Hp} (n0 : H0 D = none) (s : Same H0 H) (f : Fw D H H') : Same H0 H' := fun b o h => f _ _ (ne_of_none h n0) (s b o h)
theorem Web.tps {B D : Addr} {M c n : Nat} {H H' : Hp} {x : V} {ss : List Stl} (d : Src M D H c) (f : Fw D H H') (h : IsWeb K B H x n ss) : IsWeb K B H' x n ss := by
  obtain ⟨p, dx, t, xs, e, h1, h2, h3⟩ := h
  obtain ⟨s0, s1, s2, s3, s4, h0, r⟩ := id d
  exact ⟨p, dx, t, xs, e, f _ _ (fun z => by rw [z, h0] at h1; cases h1) h1, d.tps f _ _ h2, h3.ts (d.tps f)⟩
section
variable {B D S w7 : Addr} {H0 : Hp} {n c c' : Nat} {vw : V} {xs : List V} {ss : List Stl} {wst : List (Nat × Nat)} {H H' : Hp}
theorem G65.same (g : G65 K B D S w7 H0 n c vw xs ss wst H) (s : Same H H') : G65 K B D S w7 H0 n c vw xs ss wst H' := ⟨g.dk.same s, g.sm.trans s, g.web.same s, s _ _ g.fS, g.st.same s, g.wh.same s⟩
theorem G65.fw (g : G65 K B D S w7 H0 n c vw xs ss wst H) (n0 : H0 D = none) (sD : S ≠ D) (f : Fw D H H') (k : Src 1048576 D H' c') : G65 K B D S w7 H0 n c' vw xs ss wst H' :=
  ⟨k, same_fw n0 g.sm f, Web.tps g.dk f g.web, f _ _ sD g.fS, g.st.ts (g.dk.tps f), g.wh.ts (g.dk.tps f)⟩
theorem G65.mono (g : G65 K B D S w7 H0 n c vw xs ss wst H) (h : c ≤ c') : G65 K B D S w7 H0 n c' vw xs ss wst H := ⟨g.dk.mono h, g.sm, g.web, g.fS, g.st, g.wh⟩
end
end My
namespace My
open PySem PySem.Spec PyProof.Rows L2
variable {K : PySem.W.Frag}
theorem in_ints (ns : List Nat) (x : Nat) : inV (.int (x : Nat)) ((ns.map fun b : Nat => (b : Int)).map V.int) = decide (x ∈ ns) := by
  induction ns with
  | nil => rfl
  | cons a ns ih =>
    rw [List.map_cons, List.map_cons]
    have e : inV (.int (x : Nat)) (V.int (a : Nat) :: (ns.map fun b : Nat => (b : Int)).map V.int) = (eqV (V.int (a : Nat)) (.int (x : Nat)) || inV (.int (x : Nat)) ((ns.map fun b : Nat => (b : Int)).map V.int)) := rfl
    rw [e, ih]
    by_cases c : a = x
    · subst c
      simp [eqV]
    · have c' : ¬ ((a : Nat) : Int) = (x : Nat) := by omega
      have c2 : ¬ x = a := fun z => c z.symm
      simp [eqV, c', c2]
theorem flat_ints (ns : List Int) : (ns.map V.int).all flatV = true := by
  induction ns with
  | nil => rfl
  | cons a ns ih => exact ih
theorem neI0 {H : Hp} {S N : Addr} {ns : List Int} {Q : VK} (hS : H S = some (.lst (ns.map V.int))) (hN : H N = some (.lst [])) (q : Q (.bl (!decide (ns = []))) H) : rNeD K (.ref S) (.ref N) H Q := by
  have all : ∀ ns : List Int, DpAll K H (ns.map V.int) (ns.map PyData.int) := by
    intro ns
    induction ns with
    | nil => exact .nil
    | cons n ns ih => exact .cons (.int n) ih
  have lay : ∀ ns : List Int, PyData.canLayAll0 (ns.map PyData.int) = true ∧ PyData.depthAll (ns.map PyData.int) ≤ 2 := by
    intro ns
    induction ns with
    | nil => exact ⟨rfl, by show PyData.depthAll [] ≤ 2; decide⟩
    | cons n ns ih =>
      refine ⟨?_, ?_⟩
      · show (PyData.canLay0 (PyData.int n) && PyData.canLayAll0 (ns.map PyData.int)) = true
        rw [ih.1]
        rfl
      · show max (PyData.depth (PyData.int n)) (PyData.depthAll (ns.map PyData.int)) ≤ 2
        have : PyData.depth (PyData.int n) ≤ 2 := Nat.zero_le 2
        omega
  have sh : ∀ ns : List Int, SeqAt.shaped (.list (ns.map PyData.int)) = true := fun ns => by
    obtain ⟨h1, h2⟩ := lay ns
    unfold SeqAt.shaped
    rw [Bool.and_eq_true]
    refine ⟨h1, decide_eq_true ?_⟩
    show PyData.depthAll (ns.map PyData.int) + 1 ≤ 64
    omega
  refine ⟨.list (ns.map PyData.int), .list [], .lst (.of hS) (all ns), .lst (.of hN) .nil, sh ns, sh [], ?_⟩
  rw [show PyData.eqv (.list (ns.map PyData.int)) (.list []) = decide (ns = []) from ?_]
  · exact q
  · cases ns with
    | nil => rfl
    | cons s ss => rfl
/-- a route begun: it goes on from w -/
structure Rbg (ss : List Stl) (st : List (Nat × Nat)) (w : Nat) : Prop where
  mem : ∀ p ∈ st, ∃ s, ss[p.1]? = some s ∧ (p.2 = s.u ∨ p.2 = s.v)
  nd : (st.map Prod.fst).Nodup
  ch : ∀ i p q s, st[i]? = some p → st[i + 1]? = some q → ss[p.1]? = some s → s.other p.2 = q.2
  on : ∀ i p s, st[i]? = some p → st.length = i + 1 → ss[p.1]? = some s → s.other p.2 = w
theorem Rbg.nil (ss : List Stl) (w : Nat) : Rbg ss [] w := ⟨by simp, by simp, fun i p q s h => by simp at h, fun i p s h => by simp at h⟩
theorem Rbg.rte {ss : List Stl} {st : List (Nat × Nat)} {w : Nat} (h : Rbg ss st w) (h0 : 0 < st.length) : Rte ss st := ⟨h0, h.mem, h.nd, h.ch⟩
theorem Rbg.add {ss : List Stl} {st : List (Nat × Nat)} {w ix : Nat} {s : Stl} (h : Rbg ss st w) (hs : ss[ix]? = some s) (hw : w = s.u ∨ w = s.v) (hn : ¬ ix ∈ st.map Prod.fst) : Rbg ss (st ++ [(ix, w)]) (s.other w) := by
  refine ⟨fun p hp => ?_, ?_, fun i p q t h1 h2 ht => ?_, fun i p t h1 hl ht => ?_⟩
  · rcases List.mem_append.mp hp with z | z
    · exact h.mem p z
    · rw [List.mem_singleton.mp z]
      exact ⟨s, hs, hw⟩
  · rw [List.map_append]
    exact List.nodup_append.mpr ⟨h.nd, by simp, fun a ha b hb => by
      rw [List.mem_singleton.mp hb]
      exact fun z => hn (by rw [← show a = ix from z]; exact ha)⟩
  · by_cases c : i + 1 < st.length
    · rw [List.getElem?_append_left (by omega)] at h1
      rw [List.getElem?_append_left c] at h2
      exact h.ch i p q t h1 h2 ht
    · by_cases c2 : i + 1 = st.length
      · rw [List.getElem?_append_left (by omega)] at h1
        rw [List.getElem?_append_right (by omega), c2, Nat.sub_self] at h2
        cases h2
        exact h.on i p t h1 c2.symm ht
      · rw [List.getElem?_append_right (by omega)] at h2
        obtain ⟨j, hj⟩ : ∃ j, i + 1 - st.length = j + 1 := ⟨i + 1 - st.length - 1, by omega⟩
        rw [hj] at h2
        simp at h2
  · rw [List.length_append, List.length_singleton] at hl
    have e : i = st.length := by omega
    subst e
    rw [List.getElem?_append_right (Nat.le_refl _), Nat.sub_self] at h1
    cases h1
    rw [hs] at ht
    cases ht
    rfl
section
variable {P : Program} {w : World} {K : PySem.W.Frag} {mg : Str → Option Value} {base : Heap} {f_is_integer f_is_row f_is_fraction f_is_some f_lowest f_multiplied f_squared f_lies_below f_is_stall f_is_ware f_check_ware f_check_two f_across f_hold_of f_is_index f_check_some f_is_step f_end_of f_is_walk f_check_route f_rule_behind f_rule_of f_out_by f_route_out f_routes_on f_best_route f_l_is_integer f_l_source f_l_draw f_l_made f_l_plus f_l_times f_l_over f_l_below f_l_some f_l_stall f_l_stalls f_l_piece f_l_pair f_l_same f_l_rule f_l_comes f_l_routes f_l_fair f_l_web f_l_best f_law f_Web_init f_Web_eq c_BadWare c_Web c_NO_STEPS : Addr} {d_is_integer d_is_row d_is_fraction d_is_some d_lowest d_multiplied d_squared d_lies_below d_is_stall d_is_ware d_check_ware d_check_two d_across d_hold_of d_is_index d_check_some d_is_step d_end_of d_is_walk d_check_route d_rule_behind d_rule_of d_out_by d_route_out d_routes_on d_best_route d_l_is_integer d_l_source d_l_draw d_l_made d_l_plus d_l_times d_l_over d_l_below d_l_some d_l_stall d_l_stalls d_l_piece d_l_pair d_l_same d_l_rule d_l_comes d_l_routes d_l_fair d_l_web d_l_best d_law d_Web_init d_Web_eq : FuncData}
def sp_lroute (K : PySem.W.Frag) (M : Nat) : Sp := fun vs H Q _ => ∃ (D S : Addr) (c n most : Nat) (xs : List V) (ss : List Stl), vs = [.ref D, .ref S, .int (most : Nat)] ∧ Src M D H c ∧ c ≤ 2 ^ 38 ∧ S ≠ D ∧ H S = some (.lst xs) ∧ Sts K H xs ss ∧ 0 < ss.length ∧ ss.length ≤ 16 ∧ 1 ≤ most ∧ most ≤ 16 ∧ (∀ s ∈ ss, OkSt n s) ∧
  ∀ H' v st, Fw D H H' → Src M D H' (c + 20) → IsRt K H' v st → Rte ss st → Q v H'
end
end My
namespace My
open PySem PySem.Spec PyProof.Rows L2 PySem.W
variable {K : PySem.W.Frag}
/-! ### the order of routes -/
def pLt (p q : Nat × Nat) : Bool := decide (p.1 < q.1 ∨ (p.1 = q.1 ∧ p.2 < q.2))
def rLt : List (Nat × Nat) → List (Nat × Nat) → Bool
  | [], [] => false
  | [], _ :: _ => true
  | _ :: _, [] => false
  | p :: xs, q :: ys => if p = q then rLt xs ys else pLt p q
theorem pLt_tri {p q : Nat × Nat} (h : p ≠ q) : pLt p q = true ∨ pLt q p = true := by
  obtain ⟨a, b⟩ := p
  obtain ⟨c, d⟩ := q
  unfold pLt
  simp only [decide_eq_true_eq]
  by_cases e : a = c
  · subst e
    have : b ≠ d := fun z => h (by rw [z])
    omega
  · omega
theorem pLt_asym {p q : Nat × Nat} (h : pLt p q = true) : pLt q p = false := by
  unfold pLt at *
  simp only [decide_eq_true_eq, decide_eq_false_iff_not] at *
  omega
theorem pLt_trans {p q r : Nat × Nat} (h : pLt p q = true) (k : pLt q r = true) : pLt p r = true := by
  unfold pLt at *
  simp only [decide_eq_true_eq] at *
  omega
theorem pLt_irr (p : Nat × Nat) : pLt p p = false := by
  unfold pLt
  simp
theorem rLt_irr : ∀ l, rLt l l = false
  | [] => rfl
  | p :: l => by
    show (if p = p then rLt l l else pLt p p) = false
    rw [if_pos rfl, rLt_irr l]
theorem rLt_tri : ∀ {a b : List (Nat × Nat)}, a ≠ b → rLt a b = true ∨ rLt b a = true
  | [], [], h => absurd rfl h
  | [], _ :: _, _ => .inl rfl
  | _ :: _, [], _ => .inr rfl
  | p :: xs, q :: ys, h => by
    show (if p = q then rLt xs ys else pLt p q) = true ∨ (if q = p then rLt ys xs else pLt q p) = true
    by_cases e : p = q
    · subst e
      rw [if_pos rfl, if_pos rfl]
      exact rLt_tri fun z => h (by rw [z])
    · rw [if_neg e, if_neg (Ne.symm e)]
      exact pLt_tri e
theorem rLt_asym : ∀ {a b : List (Nat × Nat)}, rLt a b = true → rLt b a = false
  | [], [], h => by cases h
  | [], _ :: _, _ => rfl
  | _ :: _, [], h => by cases h
  | p :: xs, q :: ys, h => by
    have h : (if p = q then rLt xs ys else pLt p q) = true := h
    show (if q = p then rLt ys xs else pLt q p) = false
    by_cases e : p = q
    · subst e
      rw [if_pos rfl] at *
      exact rLt_asym h
    · rw [if_neg e] at h
      rw [if_neg (Ne.symm e)]
      exact pLt_asym h
theorem rLt_trans : ∀ {a b c : List (Nat × Nat)}, rLt a b = true → rLt b c = true → rLt a c = true
  | [], [], _, h, _ => by cases h
  | _ :: _, [], _, h, _ => by cases h
  | [], _ :: _, [], _, k => by cases k
  | _ :: _, _ :: _, [], _, k => by cases k
  | [], _ :: _, _ :: _, _, _ => rfl
  | p :: xs, q :: ys, r :: zs, h, k => by
    have h : (if p = q then rLt xs ys else pLt p q) = true := h
    have k : (if q = r then rLt ys zs else pLt q r) = true := k
    show (if p = r then rLt xs zs else pLt p r) = true
    by_cases e1 : p = q
    · subst e1
      rw [if_pos rfl] at h
      by_cases e2 : p = r
      · subst e2
        rw [if_pos rfl] at *
        exact rLt_trans h k
      · rw [if_neg e2] at *
        exact k
    · rw [if_neg e1] at h
      by_cases e2 : q = r
      · subst e2
        rw [if_neg e1]
        exact h
      · rw [if_neg e2] at k
        have t := pLt_trans h k
        have e3 : ¬ p = r := fun z => by
          subst z
          rw [pLt_irr] at t
          cases t
        rw [if_neg e3]
        exact t
theorem rLt_app (b : List (Nat × Nat)) : ∀ (l : List (Nat × Nat)) (x y : List (Nat × Nat)), b = l → rLt (l ++ x) (l ++ y) = rLt x y
  | [], _, _, _ => rfl
  | p :: l, x, y, _ => by
    show (if p = p then rLt (l ++ x) (l ++ y) else pLt p p) = rLt x y
    rw [if_pos rfl]
    exact rLt_app l l x y rfl
theorem rLt_pre {a b : List (Nat × Nat)} (h : b.take a.length = a) (hl : a.length < b.length) : rLt a b = true := by
  have e : b = a ++ b.drop a.length := by
    conv => lhs; rw [← List.take_append_drop a.length b, h]
  have t := rLt_app a a [] (b.drop a.length) rfl
  rw [List.append_nil] at t
  rw [e, t]
  cases ed : b.drop a.length with
  | nil =>
    have := congrArg List.length ed
    rw [List.length_drop] at this
    simp at this
    omega
  | cons x r => rfl
theorem rLt_diff {a b g : List (Nat × Nat)} {p q : Nat × Nat} (ha : a.take g.length = g) (hb : b.take g.length = g) (hp : a[g.length]? = some p) (hq : b[g.length]? = some q) (h : p.1 < q.1) : rLt a b = true := by
  have ea : a = g ++ p :: a.drop (g.length + 1) := by
    conv => lhs; rw [← List.take_append_drop g.length a, ha]
    congr 1
    rw [List.drop_eq_getElem_cons (List.getElem?_eq_some_iff.mp hp).1, (List.getElem?_eq_some_iff.mp hp).2]
  have eb : b = g ++ q :: b.drop (g.length + 1) := by
    conv => lhs; rw [← List.take_append_drop g.length b, hb]
    congr 1
    rw [List.drop_eq_getElem_cons (List.getElem?_eq_some_iff.mp hq).1, (List.getElem?_eq_some_iff.mp hq).2]
  rw [ea, eb, rLt_app g g _ _ rfl]
  show (if p = q then _ else pLt p q) = true
  rw [if_neg (fun z => by rw [z] at h; omega)]
  unfold pLt
  simp [h]
/-- the best of a set -/
structure BestR {α : Type} (v : α → Rat) (lt : α → α → Bool) (S : α → Prop) (x : α) : Prop where
  mem : S x
  top : ∀ y, S y → v y < v x ∨ (v y = v x ∧ lt y x = false)
theorem best_uniq {v : List (Nat × Nat) → Rat} {S : List (Nat × Nat) → Prop} {x y : List (Nat × Nat)} (h : BestR v rLt S x) (k : BestR v rLt S y) : x = y := by
  have a := h.top y k.mem
  have b := k.top x h.mem
  refine Classical.byContradiction fun ne => ?_
  have t := rLt_tri ne
  rcases a with a | ⟨_, a⟩
  · rcases b with b | ⟨b, _⟩
    · grind
    · grind
  · rcases b with b | ⟨b, b2⟩
    · grind
    · rw [a, b2] at t
      simp at t
def rtD (st : List (Nat × Nat)) : PyData := .tuple (st.map stepD)
theorem step_alike (p q : Nat × Nat) : alike (stepD p) (stepD q) = true := by
  show alikeAll [PyData.int (p.1 : Nat), .int (p.2 : Nat)] [PyData.int (q.1 : Nat), .int (q.2 : Nat)] = true
  simp [alikeAll, alike]
theorem rt_alike : ∀ a b : List (Nat × Nat), alikeAll (a.map stepD) (b.map stepD) = true
  | [], _ => by simp [alikeAll]
  | _ :: _, [] => by simp [alikeAll]
  | p :: a, q :: b => by
    show (alike (stepD p) (stepD q) && alikeAll (a.map stepD) (b.map stepD)) = true
    rw [step_alike, rt_alike a b]
    rfl
theorem step_eqv (p q : Nat × Nat) : PyData.eqv (stepD p) (stepD q) = decide (p = q) := by
  obtain ⟨a, b⟩ := p
  obtain ⟨c, d⟩ := q
  show (((a : Int) == (c : Int)) && (((b : Int) == (d : Int)) && true)) = decide ((a, b) = (c, d))
  by_cases e1 : a = c
  · by_cases e2 : b = d
    · simp [e1, e2]
    · have : ¬ (b : Int) = (d : Int) := by omega
      simp [e1, e2, this]
  · have : ¬ (a : Int) = (c : Int) := by omega
    simp [e1, this]
theorem step_lt (p q : Nat × Nat) : dataLt (stepD p) (stepD q) = pLt p q := by
  unfold stepD
  rw [dataLt_ii]
  unfold pLt
  rw [Bool.eq_iff_iff, decide_eq_true_eq, decide_eq_true_eq]
  omega
theorem row_lt : ∀ a b : List (Nat × Nat), rowLt (a.map stepD) (b.map stepD) = rLt a b
  | [], [] => lex_irrefl _
  | [], q :: b => by
    show rowLt [] (stepD q :: b.map stepD) = true
    unfold rowLt
    rw [toks_all_cons]
    simp only [keyToksAll]
    rw [PyProof.Rows.lex_diff (O := itemOrd) (by simp)]
    rfl
  | p :: a, [] => by
    show rowLt (stepD p :: a.map stepD) [] = false
    unfold rowLt
    rw [toks_all_cons]
    simp only [keyToksAll]
    rw [PyProof.Rows.lex_diff (O := itemOrd) (by simp)]
    rfl
  | p :: a, q :: b => by
    have e : rowLt (stepD p :: a.map stepD) (stepD q :: b.map stepD) = if p = q then rowLt (a.map stepD) (b.map stepD) else pLt p q := by
      unfold rowLt
      rw [dataLt_cons (step_alike p q), step_lt, step_eqv]
      by_cases h : p = q
      · rw [if_pos h, if_pos (decide_eq_true h)]
      · rw [if_neg h, if_neg (by simpa using h)]
    show rowLt (stepD p :: a.map stepD) (stepD q :: b.map stepD) = if p = q then rLt a b else pLt p q
    rw [e, row_lt a b]
theorem rt_lt (a b : List (Nat × Nat)) : dataLt (rtD a) (rtD b) = rLt a b := by
  unfold rtD
  rw [dataLt_tuple]
  exact row_lt a b
theorem IsRt.dp {H : Hp} {v : V} {st : List (Nat × Nat)} (h : IsRt K H v st) : Dp K H v (rtD st) := by
  obtain ⟨t, vs, rfl, ht, hp⟩ := h
  exact .tup (.of ht) (dps (R := fun H v (p : Nat × Nat) => ∃ q, v = .ref q ∧ H q = some (.tup [V.int (p.1 : Nat), .int (p.2 : Nat)])) (f := stepD) (fun ⟨q, e, h⟩ => e ▸ .tup (.of h) (.cons (.int _) (.cons (.int _) .nil))) hp)
theorem rt_depth (st : List (Nat × Nat)) : (rtD st).depth ≤ 60 := by
  obtain ⟨_, h2⟩ := all_lay stepD (fun m => ⟨rfl, Nat.le_succ 1⟩) st
  show PyData.depthAll (st.map stepD) + 1 ≤ 60
  omega
theorem ltRt {H : Hp} {v u : V} {a b : List (Nat × Nat)} {Q : VK} (h1 : IsRt K H v a) (h2 : IsRt K H u b) (q : Q (.bl (rLt a b)) H) : rLtD K v u H Q :=
  ⟨rtD a, rtD b, h1.dp, h2.dp, rt_alike a b, (fun z => by cases z), rt_depth a, by rw [rt_lt]; exact q⟩
/-- the ware that a route begins at -/
def begR (st : List (Nat × Nat)) : Nat := match st with
  | p :: _ => p.2
  | [] => 0
theorem begR_is {st : List (Nat × Nat)} {p : Nat × Nat} (h : st[0]? = some p) : begR st = p.2 := by
  cases st with
  | nil => cases h
  | cons a st =>
    cases h
    rfl
theorem begR_app {st : List (Nat × Nat)} {p : Nat × Nat} (h : 0 < st.length) : begR (st ++ [p]) = begR st := by
  cases st with
  | nil => exact absurd h (Nat.lt_irrefl 0)
  | cons a st => rfl
end My
namespace My
open PySem PySem.Spec PyProof.Rows L2
variable {K : PySem.W.Frag}
/-- a route begun at b and the ware that it has come to -/
structure Rgo (ss : List Stl) (b : Nat) (p : List (Nat × Nat) × Nat) : Prop where
  rb : Rbg ss p.1 p.2
  z : p.1.length = 0 → p.2 = b
  s : 0 < p.1.length → begR p.1 = b
theorem Rgo.nil (ss : List Stl) (b : Nat) : Rgo ss b ([], b) := ⟨Rbg.nil ss b, fun _ => rfl, fun z => absurd z (Nat.lt_irrefl 0)⟩
theorem Rgo.add {ss : List Stl} {b ix : Nat} {p : List (Nat × Nat) × Nat} {s : Stl} (h : Rgo ss b p) (hs : ss[ix]? = some s) (hw : p.2 = s.u ∨ p.2 = s.v) (hn : ¬ ix ∈ p.1.map Prod.fst) : Rgo ss b (p.1 ++ [(ix, p.2)], s.other p.2) := by
  refine ⟨h.rb.add hs hw hn, fun z => ?_, fun _ => ?_⟩
  · have z : (p.1 ++ [(ix, p.2)]).length = 0 := z
    rw [List.length_append] at z
    exact absurd z (by simp)
  · show begR (p.1 ++ [(ix, p.2)]) = b
    by_cases c : 0 < p.1.length
    · rw [begR_app c]
      exact h.s c
    · have e : p.1 = [] := List.length_eq_zero_iff.mp (by omega)
      rw [e]
      exact h.z (by rw [e]; rfl)
theorem Rgo.fin {ss : List Stl} {b : Nat} {p : List (Nat × Nat) × Nat} (h : Rgo ss b p) (h0 : 0 < p.1.length) : Rte ss p.1 ∧ begR p.1 = b ∧ endR ss p.1 = p.2 := by
  refine ⟨h.rb.rte h0, h.s h0, ?_⟩
  obtain ⟨k, hk⟩ : ∃ k, p.1.length = k + 1 := ⟨p.1.length - 1, by omega⟩
  have hp : p.1[k]? = some (p.1[k]'(by omega)) := List.getElem?_eq_getElem (by omega)
  obtain ⟨s, hs, _⟩ := h.rb.mem _ (List.mem_of_getElem? hp)
  rw [endR_is hp hk hs]
  exact h.rb.on k _ s hp hk hs
/-- the last step of a route -/
theorem Rgo.split {ss : List Stl} {b : Nat} {p : List (Nat × Nat) × Nat} (h : Rgo ss b p) (h0 : 0 < p.1.length) : ∃ (st : List (Nat × Nat)) (m w : Nat) (s : Stl), Rgo ss b (st, w) ∧ p.1 = st ++ [(m, w)] ∧ ss[m]? = some s ∧ ¬ m ∈ st.map Prod.fst ∧ (w = s.u ∨ w = s.v) ∧ p.2 = s.other w := by
  obtain ⟨st0, last⟩ := p
  have h0 : 0 < st0.length := h0
  obtain ⟨k, hk⟩ : ∃ k, st0.length = k + 1 := ⟨st0.length - 1, by omega⟩
  have hp : st0[k]? = some (st0[k]'(by omega)) := List.getElem?_eq_getElem (by omega)
  obtain ⟨⟨m, w⟩, emw⟩ : ∃ q : Nat × Nat, st0[k]'(by omega) = q := ⟨_, rfl⟩
  rw [emw] at hp
  have es : st0 = st0.take k ++ [(m, w)] := by
    have := take_snoc hp
    rw [← hk, List.take_length] at this
    exact this
  obtain ⟨s, hs, hw⟩ := h.rb.mem _ (List.mem_of_getElem? hp)
  have nd := h.rb.nd
  have nd : (st0.map Prod.fst).Nodup := nd
  rw [es, List.map_append] at nd
  have nm : ¬ m ∈ (st0.take k).map Prod.fst := fun z => (List.nodup_append.mp nd).2.2 m z m (by simp) rfl
  have lt : (st0.take k).length = k := by rw [List.length_take]; omega
  have at' : ∀ i q, (st0.take k)[i]? = some q → i < k ∧ st0[i]? = some q := fun i q e => by
    rw [List.getElem?_take] at e
    split at e
    · exact ⟨by assumption, e⟩
    · cases e
  refine ⟨st0.take k, m, w, s, ⟨⟨fun q hq => h.rb.mem q (List.mem_of_mem_take hq), (List.nodup_append.mp nd).1, fun i q r t e1 e2 ht => ?_, fun i q t e1 el ht => ?_⟩, fun z => ?_, fun z => ?_⟩, es, hs, nm, hw, ?_⟩
  · exact h.rb.ch i q r t (at' _ _ e1).2 (at' _ _ e2).2 ht
  · have el : (st0.take k).length = i + 1 := el
    have e3 : i + 1 = k := by omega
    have := h.rb.ch i q (m, w) t (at' _ _ e1).2 (by rw [e3]; exact hp) ht
    exact this
  · have z : (st0.take k).length = 0 := z
    have k0 : k = 0 := by omega
    subst k0
    have e := h.s h0
    have e : begR st0 = b := e
    rw [begR_is hp] at e
    exact e
  · have z : 0 < (st0.take k).length := z
    have e := h.s h0
    have e : begR st0 = b := e
    rw [es, begR_app (by omega)] at e
    exact e
  · exact (h.rb.on k _ s hp (by show st0.length = k + 1; omega) hs).symm
theorem Rgo.lt {ss : List Stl} {b : Nat} {p : List (Nat × Nat) × Nat} (h : Rgo ss b p) : p.1.length ≤ ss.length := by
  have := nodup_le ss.length (p.1.map Prod.fst) h.rb.nd fun x hx => by
    obtain ⟨q, hq, rfl⟩ := List.mem_map.mp hx
    obtain ⟨s, hs, _⟩ := h.rb.mem q hq
    exact (List.getElem?_eq_some_iff.mp hs).1
  rwa [List.length_map] at this
theorem Rgo.of {ss : List Stl} {b e : Nat} {st : List (Nat × Nat)} (h : Rte ss st) (hb : begR st = b) (he : endR ss st = e) : Rgo ss b (st, e) := by
  have l0 := h.ne
  refine ⟨⟨h.mem, h.nd, h.ch, fun i p s h1 hl hs => ?_⟩, fun z => ?_, fun _ => hb⟩
  · rw [← he, endR_is h1 hl hs]
  · have z : st.length = 0 := z
    omega
end My
namespace My
open PySem PySem.Spec PyProof.Rows L2
variable {K : PySem.W.Frag}
/-- the pair of a route and a ware -/
def IsGo (K : PySem.W.Frag) (H : Hp) (v : V) (p : List (Nat × Nat) × Nat) : Prop := ∃ q vr, v = .ref q ∧ H q = some (.tup [vr, .int (p.2 : Nat)]) ∧ IsRt K H vr p.1
theorem IsGo.ts {H H' : Hp} {v : V} {p : List (Nat × Nat) × Nat} (f : Tps H H') (h : IsGo K H v p) : IsGo K H' v p := by
  obtain ⟨q, vr, e, h1, h2⟩ := h
  exact ⟨q, vr, e, f _ _ h1, h2.ts f⟩
theorem Paired.go {H H' : Hp} (f : Tps H H') {xs : List V} {ps : List (List (Nat × Nat) × Nat)} (h : Paired (IsGo K H) xs ps) : Paired (IsGo K H') xs ps := Paired.mapP h fun _ _ h => h.ts f
theorem pow6 {i : Nat} (h : i ≤ 6) : 6 ^ i ≤ 46656 := Nat.le_trans (Nat.pow_le_pow_right (by decide) h) (by decide)
theorem Paired.app6 {α β : Type} {R : α → β → Prop} {xs us : List α} {ys vs : List β} (h : Paired R xs ys) (g : Paired R us vs) : Paired R (xs ++ us) (ys ++ vs) := by
  induction h with
  | nil => exact g
  | cons h t ih => exact .cons h ih
section
variable {P : Program} {w : World} {K : PySem.W.Frag} {mg : Str → Option Value} {base : Heap} {f_is_integer f_is_row f_is_fraction f_is_some f_lowest f_multiplied f_squared f_lies_below f_is_stall f_is_ware f_check_ware f_check_two f_across f_hold_of f_is_index f_check_some f_is_step f_end_of f_is_walk f_check_route f_rule_behind f_rule_of f_out_by f_route_out f_routes_on f_best_route f_l_is_integer f_l_source f_l_draw f_l_made f_l_plus f_l_times f_l_over f_l_below f_l_some f_l_stall f_l_stalls f_l_piece f_l_pair f_l_same f_l_rule f_l_comes f_l_routes f_l_fair f_l_web f_l_best f_law f_Web_init f_Web_eq c_BadWare c_Web c_NO_STEPS : Addr} {d_is_integer d_is_row d_is_fraction d_is_some d_lowest d_multiplied d_squared d_lies_below d_is_stall d_is_ware d_check_ware d_check_two d_across d_hold_of d_is_index d_check_some d_is_step d_end_of d_is_walk d_check_route d_rule_behind d_rule_of d_out_by d_route_out d_routes_on d_best_route d_l_is_integer d_l_source d_l_draw d_l_made d_l_plus d_l_times d_l_over d_l_below d_l_some d_l_stall d_l_stalls d_l_piece d_l_pair d_l_same d_l_rule d_l_comes d_l_routes d_l_fair d_l_web d_l_best d_law d_Web_init d_Web_eq : FuncData}
def sp_lroutes (K : PySem.W.Frag) : Sp := fun vs H Q _ => ∃ (S : Addr) (n b : Nat) (xs : List V) (ss : List Stl), vs = [.ref S, .int (b : Nat)] ∧ H S = some (.lst xs) ∧ Sts K H xs ss ∧ ss.length ≤ 6 ∧ (∀ s ∈ ss, OkSt n s) ∧
  ∀ H' F ys ps, Same H H' → H F = none → H' F = some (.lst ys) → Paired (IsGo K H') ys ps → ps.length ≤ 300000 → (∀ p ∈ ps, Rgo ss b p ∧ 0 < p.1.length) → (∀ p, Rgo ss b p → 0 < p.1.length → p ∈ ps) → Q (.ref F) H'
theorem ok_l_routes (T : Txt K mg f_is_integer f_is_row f_is_fraction f_is_some f_lowest f_multiplied f_squared f_lies_below f_is_stall f_is_ware f_check_ware f_check_two f_across f_hold_of f_is_index f_check_some f_is_step f_end_of f_is_walk f_check_route f_rule_behind f_rule_of f_out_by f_route_out f_routes_on f_best_route f_l_is_integer f_l_source f_l_draw f_l_made f_l_plus f_l_times f_l_over f_l_below f_l_some f_l_stall f_l_stalls f_l_piece f_l_pair f_l_same f_l_rule f_l_comes f_l_routes f_l_fair f_l_web f_l_best f_law f_Web_init f_Web_eq c_BadWare c_Web c_NO_STEPS d_is_integer d_is_row d_is_fraction d_is_some d_lowest d_multiplied d_squared d_lies_below d_is_stall d_is_ware d_check_ware d_check_two d_across d_hold_of d_is_index d_check_some d_is_step d_end_of d_is_walk d_check_route d_rule_behind d_rule_of d_out_by d_route_out d_routes_on d_best_route d_l_is_integer d_l_source d_l_draw d_l_made d_l_plus d_l_times d_l_over d_l_below d_l_some d_l_stall d_l_stalls d_l_piece d_l_pair d_l_same d_l_rule d_l_comes d_l_routes d_l_fair d_l_web d_l_best d_law d_Web_init d_Web_eq) : FnOk P w K mg base CX0 1 f_l_routes d_l_routes ["_law_stalls_here", "_law_one"] (sp_lroutes K) := by
  refine T.F_l_routes.ok sc_l_routes (fun vs H Q E h => ?_) (fun cdv A outer sh H vs Q E hr h => ?_)
  · obtain ⟨S, n, b, xs, ss, rfl, _⟩ := h
    rfl
  · obtain ⟨S, n, b, xs, ss, rfl, hS, hst, l6, hok, q⟩ := h
    have lx := hst.len
    refine ⟨_, (pss_cons (ps_set (i := 2) sc_l_routes.nd rfl (by first | exact Or.inl rfl | exact Or.inr rfl) (pe_lst pa_nil))
      (pss_cons (ps_set (i := 3) sc_l_routes.nd rfl (by first | exact Or.inl rfl | exact Or.inr rfl) (pe_lst (pa_cons (pe_tup (pa_cons (pe_tup pa_nil) (pa_cons (pv 1) pa_nil))) pa_nil)))
      (pss_cons (ps_for PassesOwn.never rfl (pi_range1 (by rfl) T.z_range (pa_cons (pe_callB call_lenN (by rfl) T.z_len (by decide +kernel) (pa_cons (pv 0) pa_nil)) pa_nil)) (pg_name (i := 4) sc_l_routes.nd rfl (by first | exact Or.inl rfl | exact Or.inr rfl))
        (pss_cons (ps_set (i := 5) sc_l_routes.nd rfl (by first | exact Or.inl rfl | exact Or.inr rfl) (pe_lst pa_nil))
          (pss_cons (ps_for PassesOwn.never rfl (pi_list (pv 3)) (pg_tup rfl (pgs_cons (pg_name (i := 6) sc_l_routes.nd rfl (by first | exact Or.inl rfl | exact Or.inr rfl)) (pgs_cons (pg_name (i := 7) sc_l_routes.nd rfl (by first | exact Or.inl rfl | exact Or.inr rfl)) pgs_nil)))
            (pss_cons (ps_setLc (i := 8) (own := [("_law_pair_here", 9)]) (g := gName 9) rfl sc_l_routes.nd rfl rfl (sw_true rfl rfl rfl (by decide +kernel)) (pi_tup (pv 6)) (blkOk_by (own := [("_law_pair_here", 9)]) (N := N_l_routes) (sc := defScope s_l_routes) (by decide +kernel)) (fun _ _ _ _ _ => (pg_name (i := 9) sc_l_routes.nd rfl (by first | exact Or.inl rfl | exact Or.inr rfl))) (fun _ _ _ _ _ => pts_nil) (fun _ _ _ _ _ => (pe_ix (My.ix_tupK (K := K) (by rfl)) (pv 9) pe_int (fun _ _ => rfl))))
              (pss_one (ps_for PassesOwn.never rfl (pi_range1 (by rfl) T.z_range (pa_cons (pe_callB call_lenN (by rfl) T.z_len (by decide +kernel) (pa_cons (pv 0) pa_nil)) pa_nil)) (pg_name (i := 10) sc_l_routes.nd rfl (by first | exact Or.inl rfl | exact Or.inr rfl))
                (pss_cons (ps_set (i := 11) sc_l_routes.nd rfl (by first | exact Or.inl rfl | exact Or.inr rfl) (pe_ix ix_list (pv 0) (pv 10) (fun _ _ => rfl)))
                  (pss_one (ps_if (PW.pt (pw_and (pt_cmpR op_notIn_seq (pv 10) (pv 8) (by rfl)) (pw_and1 (pt_cmpR op_in_seq (pv 7) (pe_slice sl_tup (pv 11) po_none (po_some pe_int)) (by rfl)))))
                    (pss_one (ps_expr (pe_bm PySem.F.plainAttrs_list PySem.F.slot_list_append PySem.F.type_list_append mt_append (pv 5) (pa_cons (pe_tup (pa_cons (pe_op op_catA (pv 6) (pe_tup (pa_cons (pe_tup (pa_cons (pv 10) (pa_cons (pv 7) pa_nil))) pa_nil))) (pa_cons (pe_op op_sub (pe_op op_add (pe_ix ix_tup (pv 11) pe_int (fun _ _ => rfl)) (pe_ix ix_tup (pv 11) pe_int (fun _ _ => rfl))) (pv 7)) pa_nil))) pa_nil))))
                    pss_nil)))))))
          (pss_cons (ps_expr (pe_bm PySem.F.plainAttrs_list PySem.F.slot_list_extend PySem.F.type_list_extend mt_extend (pv 2) (pa_cons (pv 5) pa_nil)))
          (pss_one (ps_set (i := 3) sc_l_routes.nd rfl (by first | exact Or.inl rfl | exact Or.inr rfl) (pv 5)))))))
      (pss_one (ps_ret (pv 2)))))), ?_⟩
    walk_at "r"
    intro F nF
    have s1 := same_upd (o := .lst ([] : List V)) nF
    have hF : upd H F (.lst []) F = some (.lst []) := upd_same
    generalize upd H F (.lst []) = H1 at *
    walk_at "r"
    intro p0 np0
    have s2 := same_upd (o := .tup ([] : List V)) np0
    have hp0 : upd H1 p0 (.tup []) p0 = some (.tup []) := upd_same
    generalize upd H1 p0 (.tup []) = H2 at *
    walk_at "r"
    intro p1 np1
    have s3 := same_upd (o := .tup [V.ref p0, .int (b : Nat)]) np1
    have hp1 : upd H2 p1 (.tup [V.ref p0, .int (b : Nat)]) p1 = some (.tup [V.ref p0, .int (b : Nat)]) := upd_same
    generalize upd H2 p1 (.tup [V.ref p0, .int (b : Nat)]) = H3 at *
    walk_at "r"
    intro B nB
    have s4 := same_upd (o := .lst [V.ref p1]) nB
    have hB : upd H3 B (.lst [V.ref p1]) B = some (.lst [V.ref p1]) := upd_same
    generalize upd H3 B (.lst [V.ref p1]) = H4 at *
    have s34 := s3.trans s4
    have s24 := s2.trans s34
    have k4 := s1.trans s24
    have hF4 := s24 _ _ hF
    have BF : F ≠ B := ne_of_none ((s2.trans s3) _ _ hF) nB
    have hS4 := k4 _ _ hS
    walk_at "r"
    refine ⟨by omega, by omega, ?_⟩
    refine for_range (lo := 0) (n := xs.length) (fun i σ H' => ∃ (B : Addr) (fs bs : List V) (pf pb : List (List (Nat × Nat) × Nat)) (t4 t5 t6 t7 t8 t9 t10 t11 : Option V), σ = [some (.ref S), some (.int (b : Nat)), some (.ref F), some (.ref B), t4, t5, t6, t7, t8, t9, t10, t11] ∧ Same H H' ∧ H' F = some (.lst fs) ∧ H' B = some (.lst bs) ∧ F ≠ B ∧ Paired (IsGo K H') fs pf ∧ Paired (IsGo K H') bs pb ∧ pb.length ≤ 6 ^ i ∧ pf.length ≤ i * 46656 ∧ (∀ p ∈ pf, Rgo ss b p ∧ 0 < p.1.length) ∧ (∀ p ∈ pb, Rgo ss b p ∧ p.1.length = i) ∧ (∀ p, Rgo ss b p → 0 < p.1.length → p.1.length ≤ i → p ∈ pf) ∧ (∀ p, Rgo ss b p → p.1.length = i → p ∈ pb)) ?_ ?_ ?_
    · refine ⟨B, [], [V.ref p1], [], [([], b)], _, _, _, _, _, _, _, _, rfl, k4, hF4, hB, BF, .nil, .cons ⟨p1, .ref p0, rfl, s4 _ _ hp1, p0, [], rfl, s34 _ _ hp0, .nil⟩ .nil, Nat.le_refl 1, Nat.zero_le _, by simp, fun p hp => ?_, fun p _ h1 h2 => absurd h1 (by omega), fun p hp h0 => ?_⟩
      · rw [List.mem_singleton.mp hp]
        exact ⟨Rgo.nil ss b, rfl⟩
      · obtain ⟨st, wl⟩ := p
        have h0 : st.length = 0 := h0
        have e := hp.z h0
        have e : wl = b := e
        rw [List.length_eq_zero_iff.mp h0, e]
        simp
    · rintro i σ H5 hi ⟨B, fs, bs, pf, pb, t4, t5, t6, t7, t8, t9, t10, t11, rfl, k5, hF5, hB5, BF, gf, gb, lb, lf, af, ab, cf, cb⟩
      have hi6 : i < 6 := by omega
      have lbv := Paired.length gb
      have lfv := Paired.length gf
      walk_at "r"
      intro G nG
      have s6 := same_upd (o := .lst ([] : List V)) nG
      have hG : upd H5 G (.lst []) G = some (.lst []) := upd_same
      generalize upd H5 G (.lst []) = H6 at *
      have hB6 := s6 _ _ hB5
      have FG : F ≠ G := ne_of_none hF5 nG
      have BG : B ≠ G := ne_of_none hB5 nG
      walk_at "r"
      refine ⟨⟨_, .of hB6⟩, ?_⟩
      refine for_list (K := K) (a := B) (xs := bs) (fun j σ H' => ∃ (gs : List V) (pg : List (List (Nat × Nat) × Nat)) (t6 t7 t8 t9 t10 t11 : Option V), σ = [some (.ref S), some (.int (b : Nat)), some (.ref F), some (.ref B), some (.int (0 + (i : Nat))), some (.ref G), t6, t7, t8, t9, t10, t11] ∧ Same H5 H' ∧ H' G = some (.lst gs) ∧ Paired (IsGo K H') gs pg ∧ pg.length ≤ j * 6 ∧ (∀ p ∈ pg, Rgo ss b p ∧ p.1.length = i + 1) ∧ (∀ j' p0 m s, j' < j → pb[j']? = some p0 → ss[m]? = some s → ¬ m ∈ p0.1.map Prod.fst → (p0.2 = s.u ∨ p0.2 = s.v) → (p0.1 ++ [(m, p0.2)], s.other p0.2) ∈ pg)) ?_ ?_ ?_ ?_
      · exact ⟨[], [], _, _, _, _, _, _, rfl, s6, hG, .nil, Nat.zero_le _, by simp, fun j' p0 m s hj => absurd hj (Nat.not_lt_zero _)⟩
      · rintro j σ H' _ ⟨gs, pg, t6, t7, t8, t9, t10, t11, rfl, k7, _⟩
        exact .of (k7 _ _ hB5)
      · rintro j z σ H7 hx ⟨gs, pg, t6, t7, t8, t9, t10, t11, rfl, k7, hG7, gg, lg, ag, cg⟩
        obtain ⟨⟨st, wn⟩, hpj, q0, vr, rfl, hq0, irt⟩ := Paired.at gb hx
        obtain ⟨rgo, rlen⟩ := ab _ (List.mem_of_getElem? hpj)
        have rlen : st.length = i := rlen
        have hq07 := k7 _ _ hq0
        obtain ⟨tr, vt, rfl, htr, hpr⟩ := irt.same k7
        have lvt := Paired.length hpr
        have hS7 := k7 _ _ (k5 _ _ hS)
        have hst7 := (hst.same k5).same k7
        walk_at "r"
        refine ⟨⟨_, .of htr⟩, fun U nU => ?_⟩
        refine lc_tupP (R := fun H v (b : Nat) => v = .int (b : Nat)) (fun _ _ _ _ _ h => h) (f := fun i => (st[i]?).map Prod.fst) nU (by omega) (.of htr) (fun a v hx' H' Q' N' s8 hyy _ => ?_) fun H8 hl8 => ?_
        · obtain ⟨⟨i', w'⟩, hpi, pq, rfl, hpq⟩ := Paired.at hpr hx'
          have hpq2 := s8 _ _ hpq
          walk_at "r"
          refine ⟨rfl, ?_⟩
          walk_at "r"
          exact hyy i' _ _ (by simp [hpi]) (Same.refl _) rfl
        obtain ⟨s8, us, hU, hus⟩ := hl8
        rw [lvt, upTo_list] at hus
        have eus := ints_of hus
        subst eus
        have UG : U ≠ G := fun z => by rw [z, hG7] at nU; cases nU
        have k8 := k7.trans s8
        have nU5 : H5 U = none := by
          cases c : H5 U with
          | none => rfl
          | some o =>
            rw [k7 _ _ c] at nU
            cases nU
        walk_at "r"
        refine ⟨by omega, by omega, ?_⟩
        refine for_range (lo := 0) (n := xs.length) (fun m σ H' => ∃ (gs : List V) (pg : List (List (Nat × Nat) × Nat)) (t9 t10 t11 : Option V), σ = [some (.ref S), some (.int (b : Nat)), some (.ref F), some (.ref B), some (.int (0 + (i : Nat))), some (.ref G), some (.ref tr), some (.int (wn : Nat)), some (.ref U), t9, t10, t11] ∧ Same H5 H' ∧ Tps H8 H' ∧ H' G = some (.lst gs) ∧ H' U = some (.lst (((st.map Prod.fst).map fun b : Nat => (b : Int)).map V.int)) ∧ Paired (IsGo K H') gs pg ∧ pg.length ≤ j * 6 + m ∧ (∀ p ∈ pg, Rgo ss b p ∧ p.1.length = i + 1) ∧ (∀ j' p0 m s, j' < j → pb[j']? = some p0 → ss[m]? = some s → ¬ m ∈ p0.1.map Prod.fst → (p0.2 = s.u ∨ p0.2 = s.v) → (p0.1 ++ [(m, p0.2)], s.other p0.2) ∈ pg) ∧ (∀ m' s, m' < m → ss[m']? = some s → ¬ m' ∈ st.map Prod.fst → (wn = s.u ∨ wn = s.v) → (st ++ [(m', wn)], s.other wn) ∈ pg)) ?_ ?_ ?_
        · exact ⟨gs, pg, _, _, _, rfl, k8, fun _ _ h => h, s8 _ _ hG7, hU, Paired.go (same_tps s8) gg, by omega, ag, cg, fun m' s hm => absurd hm (Nat.not_lt_zero _)⟩
        · rintro m σ H9 hm ⟨gs, pg, t9, t10, t11, rfl, k9, z9, hG9, hU9, gg, lg, ag, cg, ch⟩
          have hm' : m < ss.length := by omega
          have hs : ss[m]? = some (ss[m]'hm') := List.getElem?_eq_getElem hm'
          generalize ss[m]'hm' = s at *
          have oks := hok s (List.mem_of_getElem? hs)
          have hS9 := k9 _ _ (k5 _ _ hS)
          have hst9 := (hst.same k5).same k9
          have htr9 := z9 _ _ (s8 _ _ htr)
          have hpr9 : Paired (fun v (p : Nat × Nat) => ∃ q, v = .ref q ∧ H9 q = some (.tup [V.int (p.1 : Nat), .int (p.2 : Nat)])) vt st := Paired.mapP hpr fun _ _ ⟨q, e, h⟩ => ⟨q, e, z9 _ _ (s8 _ _ h)⟩
          obtain ⟨zs, hzs, izs⟩ := hst9.get hs
          obtain ⟨pz, va2, vb2, vr2, rfl, hpz, _⟩ := id izs
          have lgv := Paired.length gg
          have lb2 : pb.length ≤ 46656 := Nat.le_trans lb (pow6 (by omega))
          have hjb := (List.getElem?_eq_some_iff.mp hx).1
          walk_at "r"
          rw [Int.zero_add]
          refine rd_ixL hS9 (at_some hzs) ?_
          walk_at "r"
          refine ⟨_, _, rfl, .inl (.of hU9), rfl, flat_ints _, ?_⟩
          rw [in_ints]
          by_cases c1 : m ∈ st.map Prod.fst
          · rw [decide_eq_true c1]
            walk_at "r"
            refine ⟨gs, pg, _, _, _, rfl, k9, z9, hG9, hU9, gg, by omega, ag, cg, fun m' t hm2 ht hn hw => ?_⟩
            by_cases e : m' = m
            · subst e
              exact absurd c1 hn
            · exact ch m' t (by omega) ht hn hw
          · rw [decide_eq_false c1, show (if true = true then !false else false) = true from rfl]
            walk_at "r"
            refine ⟨_, _, rfl, .of hpz, (by show ¬ (HT.sIx 5 0 none = 0 ∧ HT.sIx 5 5 (some 2) = 5); decide), fun p2 n2 => ?_⟩
            have sa := same_upd (o := .tup (cutV [V.int (s.u : Nat), .int (s.v : Nat), va2, vb2, vr2] none (some 2))) n2
            refine ⟨_, _, rfl, .inr (.of upd_same), rfl, rfl, ?_⟩
            rw [show cutV [V.int (s.u : Nat), .int (s.v : Nat), va2, vb2, vr2] none (some 2) = [V.int (s.u : Nat), .int (s.v : Nat)] from rfl, stl_at_in, if_neg Bool.false_ne_true]
            have sa : Same H9 (upd H9 p2 (.tup [V.int (s.u : Nat), .int (s.v : Nat)])) := sa
            generalize upd H9 p2 (.tup [V.int (s.u : Nat), .int (s.v : Nat)]) = Ha at *
            by_cases c2 : wn = s.u ∨ wn = s.v
            · rw [show s.at wn = true from by unfold Stl.at; rcases c2 with z | z <;> simp [z]]
              have hGa := sa _ _ hG9
              walk_at "r"
              refine ⟨Or.inl ⟨rfl, _, Or.inl (Or.inl hGa)⟩, ?_⟩
              walk_at "r"
              intro p8 n8'
              have sb := same_upd (o := .tup [V.int (m : Nat), .int (wn : Nat)]) n8'
              have h8 : upd Ha p8 (.tup [V.int (m : Nat), .int (wn : Nat)]) p8 = some (.tup [V.int (m : Nat), .int (wn : Nat)]) := upd_same
              generalize upd Ha p8 (.tup [V.int (m : Nat), .int (wn : Nat)]) = Hb at *
              walk_at "r"
              intro p9 n9
              have sc := same_upd (o := .tup [V.ref p8]) n9
              have h9 : upd Hb p9 (.tup [V.ref p8]) p9 = some (.tup [V.ref p8]) := upd_same
              generalize upd Hb p9 (.tup [V.ref p8]) = Hc at *
              have sac := (sa.trans sb).trans sc
              refine rd_catA (sac _ _ htr9) h9 (by rw [sizeLine_eq]; show vt.length + 1 ≤ _; omega) fun pd Hd sd hd => ?_
              have sad := sac.trans sd
              have hpzd := sad _ _ hpz
              walk_at "r"
              rw [other_sum c2 oks.ne]
              intro pe ne
              have se := same_upd (o := .tup [V.ref pd, .int (s.other wn : Nat)]) ne
              have he : upd Hd pe (.tup [V.ref pd, .int (s.other wn : Nat)]) pe = some (.tup [V.ref pd, .int (s.other wn : Nat)]) := upd_same
              generalize upd Hd pe (.tup [V.ref pd, .int (s.other wn : Nat)]) = He at *
              have sae := sad.trans se
              have hGe := sae _ _ hG9
              walk_at "r"
              refine ⟨G, _, _, rfl, rfl, hGe, big1 (by omega), ?_⟩
              have tp := tps_put (H1 := H5) (o := .lst (gs ++ [V.ref pe])) hGe
              have tz : Tps H9 (upd He G (.lst (gs ++ [V.ref pe]))) := fun a x h => tp _ _ (sae _ _ h)
              have ir : IsRt K He (.ref pd) (st ++ [(m, wn)]) := ⟨pd, _, rfl, se _ _ hd, Paired.snoc (Paired.mapP hpr9 fun _ _ ⟨q, e, h⟩ => ⟨q, e, sae _ _ h⟩) ⟨p8, rfl, se _ _ (sd _ _ (sc _ _ h8))⟩⟩
              have ig : IsGo K He (.ref pe) (st ++ [(m, wn)], s.other wn) := ⟨pe, .ref pd, rfl, he, ir⟩
              refine ⟨gs ++ [V.ref pe], pg ++ [(st ++ [(m, wn)], s.other wn)], _, _, _, rfl, same_put nG (k9.trans sae), fun a x h => tz _ _ (z9 _ _ h), upd_same, (upd_ne UG).trans (sae _ _ hU9), Paired.snoc (Paired.go tz gg) (ig.ts tp), by rw [List.length_append]; simp; omega, fun p hp => ?_, fun j' p0 m' t h1 h2 h3 h4 h5 => List.mem_append_left _ (cg j' p0 m' t h1 h2 h3 h4 h5), fun m' t hm2 ht hn hw => ?_⟩
              · rcases List.mem_append.mp hp with h | h
                · exact ag p h
                · rw [List.mem_singleton.mp h]
                  refine ⟨rgo.add hs c2 c1, ?_⟩
                  show (st ++ [(m, wn)]).length = i + 1
                  rw [List.length_append, rlen]
                  rfl
              · by_cases e : m' = m
                · subst e
                  rw [hs] at ht
                  rw [← Option.some.inj ht]
                  exact List.mem_append_right _ (by simp)
                · exact List.mem_append_left _ (ch m' t (by omega) ht hn hw)
            · rw [show s.at wn = false from by unfold Stl.at; simp [not_or.mp c2]]
              walk_at "r"
              exact ⟨gs, pg, _, _, _, rfl, k9.trans sa, fun a x h => sa _ _ (z9 _ _ h), sa _ _ hG9, sa _ _ hU9, Paired.go (same_tps sa) gg, by omega, ag, cg, fun m' t hm2 ht hn hw => by
                by_cases e : m' = m
                · subst e
                  rw [hs] at ht
                  rw [← Option.some.inj ht] at hw
                  exact absurd hw c2
                · exact ch m' t (by omega) ht hn hw⟩
        · rintro σ H9 ⟨gs, pg, t9, t10, t11, rfl, k9, z9, hG9, hU9, gg, lg, ag, cg, ch⟩
          walk_at "r"
          refine ⟨gs, pg, _, _, _, _, _, _, rfl, k9, hG9, gg, by omega, ag, fun j' p0 m' t h1 h2 h3 h4 h5 => ?_⟩
          by_cases e : j' = j
          · subst e
            rw [hpj] at h2
            cases h2
            have := (List.getElem?_eq_some_iff.mp h3).1
            exact ch m' t (by omega) h3 h4 h5
          · exact cg j' p0 m' t (by omega) h2 h3 h4 h5
      · rintro σ H7 ⟨gs, pg, t6, t7, t8, t9, t10, t11, rfl, k7, hG7, gg, lg, ag, cg⟩
        have full : ∀ p, Rgo ss b p → p.1.length = i + 1 → p ∈ pg := fun p hp hlen => by
          obtain ⟨st, m, w, s, h1, h2, h3, h4, h5, h6⟩ := hp.split (by omega)
          have hl : st.length = i := by
            rw [h2, List.length_append] at hlen
            simp at hlen
            exact hlen
          obtain ⟨j', hj'⟩ := List.getElem?_of_mem (cb _ h1 hl)
          have := (List.getElem?_eq_some_iff.mp hj').1
          have := cg j' (st, w) m s (by omega) hj' h3 h4 h5
          have e : p = (st ++ [(m, w)], s.other w) := by
            obtain ⟨p1, p2⟩ := p
            have h2 : p1 = _ := h2
            have h6 : p2 = _ := h6
            rw [h2, h6]
          rw [e]
          exact this
        have hF7 := k7 _ _ hF5
        have lgv := Paired.length gg
        have p6 := pow6 (show i ≤ 6 by omega)
        have p7 := pow6 (show i + 1 ≤ 6 by omega)
        have e6 : 6 ^ (i + 1) = 6 ^ i * 6 := Nat.pow_succ 6 i
        walk_at "r"
        refine ⟨Or.inl ⟨rfl, _, Or.inl (Or.inl hF7)⟩, ?_⟩
        walk_at "r"
        refine ⟨F, G, _, _, rfl, rfl, hF7, hG7, Nat.le_of_lt (big1 (by omega)), ?_⟩
        walk_at "r"
        have tp := tps_put (H1 := H5) (o := .lst (fs ++ gs)) hF7
        have tz : Tps H5 (upd H7 F (.lst (fs ++ gs))) := fun a x h => tp _ _ (k7 _ _ h)
        refine ⟨G, fs ++ gs, gs, pf ++ pg, pg, _, _, _, _, _, _, _, _, rfl, same_put nF (k5.trans k7), upd_same, (upd_ne (Ne.symm FG)).trans hG7, FG, Paired.app6 (Paired.go tz gf) (Paired.go tp gg), Paired.go tp gg, by omega, by rw [List.length_append, Nat.succ_mul]; omega, fun p hp => ?_, ag, fun p hp h1 h2 => ?_, full⟩
        · rcases List.mem_append.mp hp with h | h
          · exact af p h
          · exact ⟨(ag p h).1, by have := (ag p h).2; omega⟩
        · by_cases e : p.1.length ≤ i
          · exact List.mem_append_left _ (cf p hp h1 e)
          · exact List.mem_append_right _ (full p hp (by omega))
    · rintro σ H5 ⟨B, fs, bs, pf, pb, t4, t5, t6, t7, t8, t9, t10, t11, rfl, k5, hF5, hB5, BF, gf, gb, lb, lf, af, ab, cf, cb⟩
      walk_at "r"
      exact q _ F fs pf k5 nF hF5 gf (by omega) af fun p hp h1 => cf p hp h1 (by have := hp.lt; omega)
end
end My
namespace My
open PySem PySem.Spec PyProof.Rows L2
variable {K : PySem.W.Frag}
/-- the routes to a goal that go on from a route begun, by stalls of some kind -/
structure RSp (ss : List Stl) (b g : Nat) (bg : List (Nat × Nat)) (I : Nat → Prop) (rs : List (List (Nat × Nat))) : Prop where
  sound : ∀ st ∈ rs, Rgo ss b (st, g) ∧ bg.length < st.length ∧ st.take bg.length = bg ∧ ∃ p, st[bg.length]? = some p ∧ I p.1
  compl : ∀ st, Rgo ss b (st, g) → bg.length < st.length → st.take bg.length = bg → (∀ p, st[bg.length]? = some p → I p.1) → st ∈ rs
  asc : rs.Pairwise fun a b => rLt a b = true
theorem rgo_next {ss : List Stl} {b g w : Nat} {st bg : List (Nat × Nat)} {p : Nat × Nat} (h : Rgo ss b (st, g)) (hb : Rgo ss b (bg, w)) (ht : st.take bg.length = bg) (hp : st[bg.length]? = some p) : p.2 = w ∧ ¬ p.1 ∈ bg.map Prod.fst ∧ ∃ s, ss[p.1]? = some s ∧ (w = s.u ∨ w = s.v) := by
  have e : p.2 = w := by
    by_cases c : bg.length = 0
    · have e1 := hb.z c
      have e1 : w = b := e1
      rw [c] at hp
      have l0 := (List.getElem?_eq_some_iff.mp hp).1
      have e2 := h.s l0
      have e2 : begR st = b := e2
      rw [begR_is hp] at e2
      omega
    · obtain ⟨k, hk⟩ : ∃ k, bg.length = k + 1 := ⟨bg.length - 1, by omega⟩
      have hq : bg[k]? = some (bg[k]'(by omega)) := List.getElem?_eq_getElem (by omega)
      generalize bg[k]'(by omega) = q at *
      obtain ⟨s, hs, _⟩ := hb.rb.mem q (List.mem_of_getElem? hq)
      have e1 := hb.rb.on k q s hq hk hs
      have hq2 : st[k]? = some q := by
        rw [← ht, List.getElem?_take] at hq
        split at hq
        · exact hq
        · cases hq
      have e2 := h.rb.ch k q p s hq2 (by rw [← hk]; exact hp) hs
      have e1 : s.other q.2 = w := e1
      omega
  refine ⟨e, ?_, ?_⟩
  · intro z
    have nd := h.rb.nd
    have nd : (st.map Prod.fst).Nodup := nd
    have es : st = st.take bg.length ++ st.drop bg.length := (List.take_append_drop _ _).symm
    rw [es, List.map_append, ht] at nd
    refine (List.nodup_append.mp nd).2.2 p.1 z p.1 ?_ rfl
    refine List.mem_map.mpr ⟨p, ?_, rfl⟩
    refine List.mem_of_getElem? (i := 0) ?_
    rw [List.getElem?_drop]
    exact hp
  · obtain ⟨s, hs, hw⟩ := h.rb.mem p (List.mem_of_getElem? hp)
    refine ⟨s, hs, ?_⟩
    rw [← e]
    exact hw
theorem RSp.nil (ss : List Stl) (b g : Nat) (bg : List (Nat × Nat)) : RSp ss b g bg (fun m => m < 0) [] := by
  refine ⟨by simp, fun st _ hl _ h => ?_, .nil⟩
  have := h _ (List.getElem?_eq_getElem hl)
  exact absurd this (Nat.not_lt_zero _)
theorem RSp.skip {ss : List Stl} {b g w i : Nat} {bg : List (Nat × Nat)} {rs : List (List (Nat × Nat))} {s : Stl} (h : RSp ss b g bg (fun m => m < i) rs) (hb : Rgo ss b (bg, w)) (hs : ss[i]? = some s) (hn : ¬ ((w = s.u ∨ w = s.v) ∧ ¬ i ∈ bg.map Prod.fst)) : RSp ss b g bg (fun m => m < i + 1) rs := by
  refine ⟨fun st hst => ?_, fun st h1 h2 h3 h4 => ?_, h.asc⟩
  · obtain ⟨g1, g2, g3, p, g4, g5⟩ := h.sound st hst
    exact ⟨g1, g2, g3, p, g4, Nat.lt_succ_of_lt g5⟩
  · refine h.compl st h1 h2 h3 fun p hp => ?_
    have hlt := h4 p hp
    by_cases e : p.1 = i
    · obtain ⟨n1, n2, t, ht, hw⟩ := rgo_next h1 hb h3 hp
      rw [e] at ht n2
      rw [hs] at ht
      rw [← Option.some.inj ht] at hw
      exact absurd ⟨hw, n2⟩ hn
    · have hlt : p.1 < i + 1 := hlt
      show p.1 < i
      omega
theorem RSp.step {ss : List Stl} {b g w i : Nat} {bg : List (Nat × Nat)} {rs rs' : List (List (Nat × Nat))} {s : Stl} (h : RSp ss b g bg (fun m => m < i) rs) (hb : Rgo ss b (bg, w)) (hs : ss[i]? = some s) (hw : w = s.u ∨ w = s.v) (hn : ¬ i ∈ bg.map Prod.fst) (k : RSp ss b g (bg ++ [(i, w)]) (fun m => m < ss.length) rs') :
    RSp ss b g bg (fun m => m < i + 1) (rs ++ (if s.other w = g then [bg ++ [(i, w)]] else []) ++ rs') := by
  have ha := hb.add hs hw hn
  have ha : Rgo ss b (bg ++ [(i, w)], s.other w) := ha
  have lr : (bg ++ [(i, w)]).length = bg.length + 1 := by simp
  have atr : (bg ++ [(i, w)])[bg.length]? = some (i, w) := by simp
  have tkr : (bg ++ [(i, w)]).take bg.length = bg := by simp
  have pre : ∀ st : List (Nat × Nat), st.take (bg ++ [(i, w)]).length = bg ++ [(i, w)] → st.take bg.length = bg ∧ st[bg.length]? = some (i, w) := fun st e => by
    rw [lr] at e
    refine ⟨?_, ?_⟩
    · have : (st.take (bg.length + 1)).take bg.length = bg := by rw [e]; exact tkr
      rw [List.take_take, show min bg.length (bg.length + 1) = bg.length by omega] at this
      exact this
    · have : (st.take (bg.length + 1))[bg.length]? = some (i, w) := by rw [e]; exact atr
      rw [List.getElem?_take, if_pos (by omega)] at this
      exact this
  have snew : ∀ st : List (Nat × Nat), st ∈ (if s.other w = g then [bg ++ [(i, w)]] else []) ++ rs' → Rgo ss b (st, g) ∧ bg.length < st.length ∧ st.take bg.length = bg ∧ st[bg.length]? = some (i, w) := fun st hst => by
    rcases List.mem_append.mp hst with z | z
    · split at z
      · rename_i e
        rw [List.mem_singleton.mp z, ← e]
        exact ⟨ha, by omega, tkr, atr⟩
      · cases z
    · obtain ⟨g1, g2, g3, _⟩ := k.sound st z
      have := pre st g3
      exact ⟨g1, by omega, this.1, this.2⟩
  rw [List.append_assoc]
  refine ⟨fun st hst => ?_, fun st h1 h2 h3 h4 => ?_, ?_⟩
  · rcases List.mem_append.mp hst with z | z
    · obtain ⟨g1, g2, g3, p, g4, g5⟩ := h.sound st z
      exact ⟨g1, g2, g3, p, g4, Nat.lt_succ_of_lt g5⟩
    · obtain ⟨g1, g2, g3, g4⟩ := snew st z
      exact ⟨g1, g2, g3, _, g4, Nat.lt_succ_self i⟩
  · have hp : st[bg.length]? = some (st[bg.length]'h2) := List.getElem?_eq_getElem h2
    generalize st[bg.length]'h2 = p at *
    have hlt : p.1 < i + 1 := h4 p hp
    by_cases e : p.1 = i
    · obtain ⟨n1, n2, _⟩ := rgo_next h1 hb h3 hp
      have ep : p = (i, w) := by
        obtain ⟨p1, p2⟩ := p
        have e : p1 = i := e
        have n1 : p2 = w := n1
        rw [e, n1]
      subst ep
      have tk : st.take (bg.length + 1) = bg ++ [(i, w)] := by rw [List.take_add_one, h3, hp]; rfl
      refine List.mem_append_right _ ?_
      by_cases c : st.length = bg.length + 1
      · have est : st = bg ++ [(i, w)] := by rw [← tk, ← c, List.take_length]
        have eg : s.other w = g := h1.rb.on bg.length (i, w) s hp c hs
        rw [if_pos eg, est]
        exact List.mem_append_left _ (by simp)
      · refine List.mem_append_right _ (k.compl st h1 (by omega) (by rw [lr]; exact tk) fun q hq => ?_)
        obtain ⟨t, ht, _⟩ := h1.rb.mem q (List.mem_of_getElem? hq)
        exact (List.getElem?_eq_some_iff.mp ht).1
    · refine List.mem_append_left _ (h.compl st h1 h2 h3 fun q hq => ?_)
      rw [hp] at hq
      rw [← Option.some.inj hq]
      show p.1 < i
      omega
  · refine List.pairwise_append.mpr ⟨h.asc, ?_, fun x hx y hy => ?_⟩
    · refine List.pairwise_append.mpr ⟨?_, k.asc, fun x hx y hy => ?_⟩
      · split
        · exact List.pairwise_singleton ..
        · exact .nil
      · split at hx
        · rw [List.mem_singleton.mp hx]
          obtain ⟨_, g2, g3, _⟩ := k.sound y hy
          exact rLt_pre g3 g2
        · cases hx
    · obtain ⟨g1, g2, g3, p, g4, g5⟩ := h.sound x hx
      obtain ⟨k1, k2, k3, k4⟩ := snew y hy
      exact rLt_diff g3 k3 g4 k4 g5
theorem RSp.full {ss : List Stl} {b g : Nat} {bg : List (Nat × Nat)} {rs : List (List (Nat × Nat))} (h : RSp ss b g bg (fun m => m < ss.length) rs) : RSp ss b g bg (fun m => m < ss.length) rs := h
def bnd : Nat → Nat
  | 0 => 0
  | k + 1 => 6 * (1 + bnd k)
theorem bnd_le {k : Nat} (h : k ≤ 6) : bnd k ≤ 60000 := by
  rcases (show k = 0 ∨ k = 1 ∨ k = 2 ∨ k = 3 ∨ k = 4 ∨ k = 5 ∨ k = 6 by omega) with rfl | rfl | rfl | rfl | rfl | rfl | rfl <;> decide
/-- a route and its rule -/
def IsRr (K : PySem.W.Frag) (ss : List Stl) (H : Hp) (v : V) (st : List (Nat × Nat)) : Prop := ∃ q vr vu, v = .ref q ∧ H q = some (.tup [vr, vu]) ∧ IsRt K H vr st ∧ IsRu K H vu (ruleR ss st) (1 + 41 * st.length)
theorem IsRu.ts {H H' : Hp} {v : V} {x : Rat × Rat} {B : Nat} (f : Tps H H') (h : IsRu K H v x B) : IsRu K H' v x B := by
  obtain ⟨p, m, b, l, e, h1, h2⟩ := h
  exact ⟨p, m, b, l, e, h1.ts f, h2⟩
theorem IsRr.ts {ss : List Stl} {H H' : Hp} {v : V} {st : List (Nat × Nat)} (f : Tps H H') (h : IsRr K ss H v st) : IsRr K ss H' v st := by
  obtain ⟨q, vr, vu, e, h1, h2, h3⟩ := h
  exact ⟨q, vr, vu, e, f _ _ h1, h2.ts f, h3.ts f⟩
theorem rrs_ts {ss : List Stl} {H H' : Hp} {ys : List V} {rs : List (List (Nat × Nat))} (f : Tps H H') (h : Paired (IsRr K ss H) ys rs) : Paired (IsRr K ss H') ys rs := Paired.mapP h fun _ _ h => h.ts f
/-- the set of routes between two wares -/
def Rset (ss : List Stl) (b g : Nat) (st : List (Nat × Nat)) : Prop := Rgo ss b (st, g) ∧ 0 < st.length
/-- the best of a list that rises -/
def Top (v : List (Nat × Nat) → Rat) (l : List (List (Nat × Nat))) (x : List (Nat × Nat)) : Prop := x ∈ l ∧ ∀ y ∈ l, v y < v x ∨ (v y = v x ∧ (y = x ∨ rLt x y = true))
theorem top_first {v : List (Nat × Nat) → Rat} (x : List (Nat × Nat)) : Top v [x] x := ⟨by simp, fun y hy => by rw [List.mem_singleton.mp hy]; exact .inr ⟨rfl, .inl rfl⟩⟩
theorem top_new {v : List (Nat × Nat) → Rat} {l : List (List (Nat × Nat))} {x z : List (Nat × Nat)} (h : Top v l x) (hz : v x < v z) : Top v (l ++ [z]) z := by
  refine ⟨by simp, fun y hy => ?_⟩
  rcases List.mem_append.mp hy with a | a
  · rcases h.2 y a with b | ⟨b, _⟩
    · exact .inl (by grind)
    · exact .inl (by grind)
  · rw [List.mem_singleton.mp a]
    exact .inr ⟨rfl, .inl rfl⟩
theorem top_old {v : List (Nat × Nat) → Rat} {l : List (List (Nat × Nat))} {x z : List (Nat × Nat)} (h : Top v l x) (hz : ¬ v x < v z) (hr : rLt x z = true) : Top v (l ++ [z]) x := by
  refine ⟨List.mem_append_left _ h.1, fun y hy => ?_⟩
  rcases List.mem_append.mp hy with a | a
  · exact h.2 y a
  · rw [List.mem_singleton.mp a]
    by_cases e : v z = v x
    · exact .inr ⟨e, .inr hr⟩
    · exact .inl (by grind)
theorem top_best {v : List (Nat × Nat) → Rat} {l : List (List (Nat × Nat))} {x : List (Nat × Nat)} {S : List (Nat × Nat) → Prop} (h : Top v l x) (hS : ∀ y, S y ↔ y ∈ l) : BestR v rLt S x := by
  refine ⟨(hS x).mpr h.1, fun y hy => ?_⟩
  rcases h.2 y ((hS y).mp hy) with a | ⟨a, b⟩
  · exact .inl a
  · refine .inr ⟨a, ?_⟩
    rcases b with b | b
    · rw [b]
      exact rLt_irr x
    · exact rLt_asym b
end My
namespace My
open PySem PySem.Spec PyProof.Rows L2
variable {K : PySem.W.Frag}
theorem rd_asg2 {te : TE} {g1 g2 : TG} {D : Ends} {σ : L2.St} {H : Hp} (h : te σ H fun x H1 => g1 x σ H1 fun σ1 H2 => g2 x σ1 H2 D.nx) : tAsg2 te g1 g2 D σ H := h
/-- what the best route between two wares is -/
def IsBR (K : PySem.W.Frag) (ss : List Stl) (b g : Nat) (a : Rat) (H : Hp) (v : V) : Prop := ((∀ st, ¬ Rset ss b g st) ∧ v = .non) ∨ ∃ p vf vr st, v = .ref p ∧ H p = some (.tup [vf, vr]) ∧ IsF K H vf (comes (ruleR ss st) a) ∧ IsRt K H vr st ∧ BestR (fun st => comes (ruleR ss st) a) rLt (Rset ss b g) st
theorem IsBR.same {ss : List Stl} {b g : Nat} {a : Rat} {H H' : Hp} {v : V} (s : Same H H') (h : IsBR K ss b g a H v) : IsBR K ss b g a H' v := by
  rcases h with h | ⟨p, vf, vr, st, e, h1, h2, h3, h4⟩
  · exact .inl h
  · exact .inr ⟨p, vf, vr, st, e, s _ _ h1, h2.same s, h3.same s, h4⟩
theorem divInt_lt {a b c d : Int} (hb : 0 < b) (hd : 0 < d) : decide (a * d < c * b) = decide (Rat.divInt a b < Rat.divInt c d) := by
  rw [Bool.eq_iff_iff, decide_eq_true_eq, decide_eq_true_eq, Rat.divInt_eq_div, Rat.divInt_eq_div]
  have hb' : (0 : Rat) < (b : Rat) := by exact_mod_cast hb
  have hd' : (0 : Rat) < (d : Rat) := by exact_mod_cast hd
  have e : (c : Rat) / d - (a : Rat) / b = ((c : Rat) * b - a * d) / ((b : Rat) * d) := by
    have := ne_of_pos hb'
    have := ne_of_pos hd'
    grind
  have hbd := Rat.mul_pos hb' hd'
  constructor
  · intro h
    have h' : (a : Rat) * d < c * b := by exact_mod_cast h
    have p : 0 < ((c : Rat) * b - a * d) / ((b : Rat) * d) := div_pos' (by grind) hbd
    rw [← e] at p
    grind
  · intro h
    have p : 0 < ((c : Rat) * b - a * d) / ((b : Rat) * d) := by
      rw [← e]
      grind
    have q := Rat.mul_pos p hbd
    rw [Rat.div_mul_cancel (ne_of_pos hbd)] at q
    have : (a : Rat) * d < c * b := by grind
    exact_mod_cast this
section
variable {P : Program} {w : World} {K : PySem.W.Frag} {mg : Str → Option Value} {base : Heap} {f_is_integer f_is_row f_is_fraction f_is_some f_lowest f_multiplied f_squared f_lies_below f_is_stall f_is_ware f_check_ware f_check_two f_across f_hold_of f_is_index f_check_some f_is_step f_end_of f_is_walk f_check_route f_rule_behind f_rule_of f_out_by f_route_out f_routes_on f_best_route f_l_is_integer f_l_source f_l_draw f_l_made f_l_plus f_l_times f_l_over f_l_below f_l_some f_l_stall f_l_stalls f_l_piece f_l_pair f_l_same f_l_rule f_l_comes f_l_routes f_l_fair f_l_web f_l_best f_law f_Web_init f_Web_eq c_BadWare c_Web c_NO_STEPS : Addr} {d_is_integer d_is_row d_is_fraction d_is_some d_lowest d_multiplied d_squared d_lies_below d_is_stall d_is_ware d_check_ware d_check_two d_across d_hold_of d_is_index d_check_some d_is_step d_end_of d_is_walk d_check_route d_rule_behind d_rule_of d_out_by d_route_out d_routes_on d_best_route d_l_is_integer d_l_source d_l_draw d_l_made d_l_plus d_l_times d_l_over d_l_below d_l_some d_l_stall d_l_stalls d_l_piece d_l_pair d_l_same d_l_rule d_l_comes d_l_routes d_l_fair d_l_web d_l_best d_law d_Web_init d_Web_eq : FuncData}
def sp_below2 : Sp := fun vs H Q _ => ∃ (p q : Addr) (a b c d : Int), vs = [.ref p, .ref q] ∧ H p = some (.tup [.int a, .int b]) ∧ H q = some (.tup [.int c, .int d]) ∧ 0 < a ∧ 0 < b ∧ 0 < c ∧ 0 < d ∧ a < 2 ^ 2201 ∧ b < 2 ^ 2201 ∧ c < 2 ^ 2201 ∧ d < 2 ^ 2201 ∧ Q (.bl (decide (Rat.divInt a b < Rat.divInt c d))) H
theorem ok_lies_below2 (T : Txt K mg f_is_integer f_is_row f_is_fraction f_is_some f_lowest f_multiplied f_squared f_lies_below f_is_stall f_is_ware f_check_ware f_check_two f_across f_hold_of f_is_index f_check_some f_is_step f_end_of f_is_walk f_check_route f_rule_behind f_rule_of f_out_by f_route_out f_routes_on f_best_route f_l_is_integer f_l_source f_l_draw f_l_made f_l_plus f_l_times f_l_over f_l_below f_l_some f_l_stall f_l_stalls f_l_piece f_l_pair f_l_same f_l_rule f_l_comes f_l_routes f_l_fair f_l_web f_l_best f_law f_Web_init f_Web_eq c_BadWare c_Web c_NO_STEPS d_is_integer d_is_row d_is_fraction d_is_some d_lowest d_multiplied d_squared d_lies_below d_is_stall d_is_ware d_check_ware d_check_two d_across d_hold_of d_is_index d_check_some d_is_step d_end_of d_is_walk d_check_route d_rule_behind d_rule_of d_out_by d_route_out d_routes_on d_best_route d_l_is_integer d_l_source d_l_draw d_l_made d_l_plus d_l_times d_l_over d_l_below d_l_some d_l_stall d_l_stalls d_l_piece d_l_pair d_l_same d_l_rule d_l_comes d_l_routes d_l_fair d_l_web d_l_best d_law d_Web_init d_Web_eq) : FnOk P w K mg base CX0 1 f_lies_below d_lies_below ["one", "other"] sp_below2 := by
  refine T.F_lies_below.ok sc_lies_below (fun vs H Q E h => ?_) (fun cdv A outer sh H vs Q E hr h => ?_)
  · obtain ⟨p, q', a, b, c, d, rfl, _⟩ := h
    rfl
  · obtain ⟨p, q', a, b, c, d, rfl, hp, hq, a0, b0, c0, d0, aB, bB, cB, dB, q⟩ := h
    have c1 : CMulX a d := cm_of (by omega) (by omega) aB dB (by decide) (by decide)
    have c2 : CMulX c b := cm_of (by omega) (by omega) cB bB (by decide) (by decide)
    refine ⟨_, (pss_one (ps_ret (pe_cmpR op_lt (pe_op op_mulX (pe_ix ix_tup (pv 0) pe_int (fun _ _ => rfl)) (pe_ix ix_tup (pv 1) pe_int (fun _ _ => rfl))) (pe_op op_mulX (pe_ix ix_tup (pv 1) pe_int (fun _ _ => rfl)) (pe_ix ix_tup (pv 0) pe_int (fun _ _ => rfl))) (nomark _)))), ?_⟩
    walk_at "r"
    · rw [divInt_lt b0 d0]
      exact q
    all_goals assumption
def sp_is_ware (K : PySem.W.Frag) (C : Addr) : Sp := fun vs H Q _ => ∃ (x : V) (n : Nat) (ss : List Stl) (wn : Nat), vs = [x, .int (wn : Nat)] ∧ IsWeb K C H x n ss ∧ wn < n ∧ Q (.bl true) H
theorem ok_is_ware (T : Txt K mg f_is_integer f_is_row f_is_fraction f_is_some f_lowest f_multiplied f_squared f_lies_below f_is_stall f_is_ware f_check_ware f_check_two f_across f_hold_of f_is_index f_check_some f_is_step f_end_of f_is_walk f_check_route f_rule_behind f_rule_of f_out_by f_route_out f_routes_on f_best_route f_l_is_integer f_l_source f_l_draw f_l_made f_l_plus f_l_times f_l_over f_l_below f_l_some f_l_stall f_l_stalls f_l_piece f_l_pair f_l_same f_l_rule f_l_comes f_l_routes f_l_fair f_l_web f_l_best f_law f_Web_init f_Web_eq c_BadWare c_Web c_NO_STEPS d_is_integer d_is_row d_is_fraction d_is_some d_lowest d_multiplied d_squared d_lies_below d_is_stall d_is_ware d_check_ware d_check_two d_across d_hold_of d_is_index d_check_some d_is_step d_end_of d_is_walk d_check_route d_rule_behind d_rule_of d_out_by d_route_out d_routes_on d_best_route d_l_is_integer d_l_source d_l_draw d_l_made d_l_plus d_l_times d_l_over d_l_below d_l_some d_l_stall d_l_stalls d_l_piece d_l_pair d_l_same d_l_rule d_l_comes d_l_routes d_l_fair d_l_web d_l_best d_law d_Web_init d_Web_eq) : FnOk P w K mg base CX0 2 f_is_ware d_is_ware ["web", "thing"] (sp_is_ware K c_Web) := by
  have G_is_integer : FnOk P w K mg base CX0 1 f_is_integer d_is_integer ["thing"] sp_is_integer := ok_is_integer T
  refine T.F_is_ware.ok sc_is_ware (fun vs H Q E h => ?_) (fun cdv A outer s H vs Q E hr h => ?_)
  · obtain ⟨x, n, ss, wn, rfl, _⟩ := h
    rfl
  · obtain ⟨x, n, ss, wn, rfl, ⟨px, dx, t, xs, rfl, hp, ht, hss⟩, hn, q⟩ := h
    refine ⟨_, (pss_one (ps_ret (pe_and (pe_call G_is_integer (hr.mono (by decide)) (by rfl) T.g_is_integer T.k_is_integer T.b_is_integer .nil pass0 (pa_cons (pv 1) pa_nil)) (pe_one (pe_chain op_le op_lt pe_int (pv 1) (pe_fld (pv 0) rfl)))))), ?_⟩
    have c1 : (0 : Int) ≤ (wn : Nat) := by omega
    have c2 : ((wn : Nat) : Int) < (n : Nat) := by omega
    walk_at "r"
    refine ⟨_, rfl, ?_⟩
    walk_at "r"
    refine ⟨_, _, _, _, _, rfl, hp, T.w_Web.it.cl, T.n_Web_wares, wF_wares _ _, ?_⟩
    walk_at "r"
    rw [decide_eq_true c2]
    exact q
def sp_check_ware (K : PySem.W.Frag) (C : Addr) : Sp := fun vs H Q _ => ∃ (x : V) (n : Nat) (ss : List Stl) (wn : Nat), vs = [x, .int (wn : Nat)] ∧ IsWeb K C H x n ss ∧ wn < n ∧ Q .non H
theorem ok_check_ware (T : Txt K mg f_is_integer f_is_row f_is_fraction f_is_some f_lowest f_multiplied f_squared f_lies_below f_is_stall f_is_ware f_check_ware f_check_two f_across f_hold_of f_is_index f_check_some f_is_step f_end_of f_is_walk f_check_route f_rule_behind f_rule_of f_out_by f_route_out f_routes_on f_best_route f_l_is_integer f_l_source f_l_draw f_l_made f_l_plus f_l_times f_l_over f_l_below f_l_some f_l_stall f_l_stalls f_l_piece f_l_pair f_l_same f_l_rule f_l_comes f_l_routes f_l_fair f_l_web f_l_best f_law f_Web_init f_Web_eq c_BadWare c_Web c_NO_STEPS d_is_integer d_is_row d_is_fraction d_is_some d_lowest d_multiplied d_squared d_lies_below d_is_stall d_is_ware d_check_ware d_check_two d_across d_hold_of d_is_index d_check_some d_is_step d_end_of d_is_walk d_check_route d_rule_behind d_rule_of d_out_by d_route_out d_routes_on d_best_route d_l_is_integer d_l_source d_l_draw d_l_made d_l_plus d_l_times d_l_over d_l_below d_l_some d_l_stall d_l_stalls d_l_piece d_l_pair d_l_same d_l_rule d_l_comes d_l_routes d_l_fair d_l_web d_l_best d_law d_Web_init d_Web_eq) : FnOk P w K mg base CX0 3 f_check_ware d_check_ware ["web", "ware"] (sp_check_ware K c_Web) := by
  have G_is_ware : FnOk P w K mg base CX0 2 f_is_ware d_is_ware ["web", "thing"] (sp_is_ware K c_Web) := ok_is_ware T
  refine T.F_check_ware.ok sc_check_ware (fun vs H Q E h => ?_) (fun cdv A outer s H vs Q E hr h => ?_)
  · obtain ⟨x, n, ss, wn, rfl, _⟩ := h
    rfl
  · obtain ⟨x, n, ss, wn, rfl, hw, hn, q⟩ := h
    refine ⟨_, (pss_one (ps_if (pt_not (pt_val (pe_call G_is_ware (hr.mono (by decide)) (by rfl) T.g_is_ware T.k_is_ware T.b_is_ware .nil pass0 (pa_cons (pv 0) (pa_cons (pv 1) pa_nil)))))
        (pss_one ps_never)
        pss_nil)), ?_⟩
    walk_at "r"
    refine ⟨x, n, ss, wn, rfl, hw, hn, ?_⟩
    walk_at "r"
    exact q
def sp_check_two (K : PySem.W.Frag) (C : Addr) : Sp := fun vs H Q _ => ∃ (x : V) (n : Nat) (ss : List Stl) (u v : Nat), vs = [x, .int (u : Nat), .int (v : Nat)] ∧ IsWeb K C H x n ss ∧ u < n ∧ v < n ∧ u ≠ v ∧ Q .non H
theorem ok_check_two (T : Txt K mg f_is_integer f_is_row f_is_fraction f_is_some f_lowest f_multiplied f_squared f_lies_below f_is_stall f_is_ware f_check_ware f_check_two f_across f_hold_of f_is_index f_check_some f_is_step f_end_of f_is_walk f_check_route f_rule_behind f_rule_of f_out_by f_route_out f_routes_on f_best_route f_l_is_integer f_l_source f_l_draw f_l_made f_l_plus f_l_times f_l_over f_l_below f_l_some f_l_stall f_l_stalls f_l_piece f_l_pair f_l_same f_l_rule f_l_comes f_l_routes f_l_fair f_l_web f_l_best f_law f_Web_init f_Web_eq c_BadWare c_Web c_NO_STEPS d_is_integer d_is_row d_is_fraction d_is_some d_lowest d_multiplied d_squared d_lies_below d_is_stall d_is_ware d_check_ware d_check_two d_across d_hold_of d_is_index d_check_some d_is_step d_end_of d_is_walk d_check_route d_rule_behind d_rule_of d_out_by d_route_out d_routes_on d_best_route d_l_is_integer d_l_source d_l_draw d_l_made d_l_plus d_l_times d_l_over d_l_below d_l_some d_l_stall d_l_stalls d_l_piece d_l_pair d_l_same d_l_rule d_l_comes d_l_routes d_l_fair d_l_web d_l_best d_law d_Web_init d_Web_eq) : FnOk P w K mg base CX0 4 f_check_two d_check_two ["web", "one", "other"] (sp_check_two K c_Web) := by
  have G_check_ware : FnOk P w K mg base CX0 3 f_check_ware d_check_ware ["web", "ware"] (sp_check_ware K c_Web) := ok_check_ware T
  refine T.F_check_two.ok sc_check_two (fun vs H Q E h => ?_) (fun cdv A outer sh H vs Q E hr h => ?_)
  · obtain ⟨x, n, ss, u, v, rfl, _⟩ := h
    rfl
  · obtain ⟨x, n, ss, u, v, rfl, hw, hu, hv, ne, q⟩ := h
    have ne' : ¬ ((u : Nat) : Int) = (v : Nat) := by omega
    refine ⟨_, (pss_cons (ps_expr (pe_call G_check_ware (hr.mono (by decide)) (by rfl) T.g_check_ware T.k_check_ware T.b_check_ware .nil pass0 (pa_cons (pv 0) (pa_cons (pv 1) pa_nil))))
      (pss_cons (ps_expr (pe_call G_check_ware (hr.mono (by decide)) (by rfl) T.g_check_ware T.k_check_ware T.b_check_ware .nil pass0 (pa_cons (pv 0) (pa_cons (pv 2) pa_nil))))
      (pss_one (ps_if (pt_cmpR op_eq (pv 1) (pv 2) (nomark _))
        (pss_one ps_never)
        pss_nil)))), ?_⟩
    walk_at "r"
    refine ⟨x, n, ss, u, rfl, hw, hu, ?_⟩
    walk_at "r"
    refine ⟨x, n, ss, v, rfl, hw, hv, ?_⟩
    walk_at "r"
    exact q
def sp_ron (K : PySem.W.Frag) (C : Addr) : Nat → Sp
  | 0 => fun _ _ _ _ => False
  | k + 1 => fun vs H Q _ => ∃ (x vb vu : V) (w g n b : Nat) (ss : List Stl) (bg : List (Nat × Nat)), vs = [x, .int (w : Nat), .int (g : Nat), vb, vu] ∧ IsWeb K C H x n ss ∧ IsRt K H vb bg ∧ IsRu K H vu (ruleR ss bg) (1 + 41 * bg.length) ∧ Rgo ss b (bg, w) ∧ ss.length ≤ bg.length + k ∧ k ≤ 6 ∧ ss.length ≤ 6 ∧ (∀ s ∈ ss, OkSt n s ∧ BdSt 20 s) ∧
      ∀ H' F ys rs, Same H H' → H F = none → H' F = some (.lst ys) → Paired (IsRr K ss H') ys rs → rs.length ≤ bnd (k + 1) → RSp ss b g bg (fun m => m < ss.length) rs → Q (.ref F) H'
theorem ok_routes_on (T : Txt K mg f_is_integer f_is_row f_is_fraction f_is_some f_lowest f_multiplied f_squared f_lies_below f_is_stall f_is_ware f_check_ware f_check_two f_across f_hold_of f_is_index f_check_some f_is_step f_end_of f_is_walk f_check_route f_rule_behind f_rule_of f_out_by f_route_out f_routes_on f_best_route f_l_is_integer f_l_source f_l_draw f_l_made f_l_plus f_l_times f_l_over f_l_below f_l_some f_l_stall f_l_stalls f_l_piece f_l_pair f_l_same f_l_rule f_l_comes f_l_routes f_l_fair f_l_web f_l_best f_law f_Web_init f_Web_eq c_BadWare c_Web c_NO_STEPS d_is_integer d_is_row d_is_fraction d_is_some d_lowest d_multiplied d_squared d_lies_below d_is_stall d_is_ware d_check_ware d_check_two d_across d_hold_of d_is_index d_check_some d_is_step d_end_of d_is_walk d_check_route d_rule_behind d_rule_of d_out_by d_route_out d_routes_on d_best_route d_l_is_integer d_l_source d_l_draw d_l_made d_l_plus d_l_times d_l_over d_l_below d_l_some d_l_stall d_l_stalls d_l_piece d_l_pair d_l_same d_l_rule d_l_comes d_l_routes d_l_fair d_l_web d_l_best d_law d_Web_init d_Web_eq) : ∀ k, FnOk P w K mg base CX0 (8 + k) f_routes_on d_routes_on ["web", "ware", "goal", "begun", "rule"] (sp_ron K c_Web k)
  | 0 => (T.F_routes_on.ok (k := 7) sc_routes_on (fun vs H Q E h => h.elim) (fun cdv A outer sh H vs Q E hr h => h.elim) : FnOk P w K mg base CX0 8 f_routes_on d_routes_on ["web", "ware", "goal", "begun", "rule"] (sp_ron K c_Web 0))
  | k + 1 => by
    have G_across : FnOk P w K mg base CX0 1 f_across d_across ["stall", "ware"] (sp_across K) := ok_across T
    have G_rule_behind : FnOk P w K mg base CX0 2 f_rule_behind d_rule_behind ["rule", "stall", "ware"] (sp_rule_behind K) := ok_rule_behind T
    have G_routes_on : FnOk P w K mg base CX0 (8 + k) f_routes_on d_routes_on ["web", "ware", "goal", "begun", "rule"] (sp_ron K c_Web k) := ok_routes_on T k
    refine T.F_routes_on.ok (k := 8 + k) sc_routes_on (fun vs H Q E h => ?_) (fun cdv A outer sh H vs Q E hr h => ?_)
    · obtain ⟨x, vb, vu, w, g, n, b, ss, bg, rfl, _⟩ := h
      rfl
    · obtain ⟨x, vb, vu, w, g, n, b, ss, bg, rfl, hw, ib, iu, rgo, hk, k6, l6, hok, q⟩ := h
      obtain ⟨px, dx, t, xs, rfl, hp, ht, hss⟩ := id hw
      obtain ⟨tb, vt, rfl, htb, hpb⟩ := id ib
      have lx := hss.len
      have lvt := Paired.length hpb
      have lbg := rgo.lt
      have lbg : bg.length ≤ ss.length := lbg
      refine ⟨_, (pss_cons (ps_setLc (i := 5) (own := [("index", 6), ("_", 7)]) (g := gTup K 2 (gCons (gName 6) (gCons (gName 7) (gNil)))) rfl sc_routes_on.nd rfl rfl (sw_true rfl rfl rfl (by decide +kernel)) (pi_tup (pv 3)) (blkOk_by (own := [("index", 6), ("_", 7)]) (N := N_routes_on) (sc := defScope s_routes_on) (by decide +kernel)) (fun _ _ _ _ _ => (pg_tup rfl (pgs_cons (pg_name (i := 6) sc_routes_on.nd rfl (by first | exact Or.inl rfl | exact Or.inr rfl)) (pgs_cons (pg_name (i := 7) sc_routes_on.nd rfl (by first | exact Or.inl rfl | exact Or.inr rfl)) pgs_nil)))) (fun _ _ _ _ _ => pts_nil) (fun _ _ _ _ _ => (pv 6)))
      (pss_cons (ps_set (i := 8) sc_routes_on.nd rfl (by first | exact Or.inl rfl | exact Or.inr rfl) (pe_lst pa_nil))
      (pss_cons (ps_for PassesOwn.never rfl (pi_enumX (by rfl) T.z_enumerate (pa_cons (pe_fld (pv 0) rfl) pa_nil)) (pg_tup rfl (pgs_cons (pg_name (i := 6) sc_routes_on.nd rfl (by first | exact Or.inl rfl | exact Or.inr rfl)) (pgs_cons (pg_name (i := 9) sc_routes_on.nd rfl (by first | exact Or.inl rfl | exact Or.inr rfl)) pgs_nil)))
        (pss_one (ps_if (PW.pt (pw_and (pt_cmpR op_in_seq (pv 1) (pe_slice sl_tup (pv 9) po_none (po_some pe_int)) (by rfl)) (pw_and1 (pt_cmpR op_notIn_seq (pv 6) (pv 5) (by rfl)))))
            (pss_cons (ps_set (i := 10) sc_routes_on.nd rfl (by first | exact Or.inl rfl | exact Or.inr rfl) (pe_op op_catA (pv 3) (pe_tup (pa_cons (pe_tup (pa_cons (pv 6) (pa_cons (pv 1) pa_nil))) pa_nil))))
              (pss_cons (ps_set (i := 11) sc_routes_on.nd rfl (by first | exact Or.inl rfl | exact Or.inr rfl) (pe_call G_rule_behind (hr.mono (by first | decide | omega)) (by rfl) T.g_rule_behind T.k_rule_behind T.b_rule_behind .nil pass0 (pa_cons (pv 4) (pa_cons (pv 9) (pa_cons (pv 1) pa_nil)))))
              (pss_cons (ps_set (i := 12) sc_routes_on.nd rfl (by first | exact Or.inl rfl | exact Or.inr rfl) (pe_call G_across (hr.mono (by first | decide | omega)) (by rfl) T.g_across T.k_across T.b_across .nil pass0 (pa_cons (pv 9) (pa_cons (pv 1) pa_nil))))
              (C8.pss_cut (ps_if (pt_cmpR op_eq (pv 12) (pv 2) (nomark _))
                (pss_one (ps_expr (pe_bm PySem.F.plainAttrs_list PySem.F.slot_list_append PySem.F.type_list_append mt_append (pv 8) (pa_cons (pe_tup (pa_cons (pv 10) (pa_cons (pv 11) pa_nil))) pa_nil))))
                pss_nil)
              (pss_one (ps_expr (pe_bm PySem.F.plainAttrs_list PySem.F.slot_list_extend PySem.F.type_list_extend mt_extend (pv 8) (pa_cons (pe_call G_routes_on (hr.mono (by first | decide | omega)) (by rfl) T.g_routes_on T.k_routes_on T.b_routes_on .nil pass0 (pa_cons (pv 0) (pa_cons (pv 12) (pa_cons (pv 2) (pa_cons (pv 10) (pa_cons (pv 11) pa_nil)))))) pa_nil))))))))
            pss_nil)))
      (pss_one (ps_ret (pv 8)))))), ?_⟩
      walk_at "r"
      refine ⟨⟨_, .of htb⟩, fun U nU => ?_⟩
      refine lc_tupP (R := fun H v (b : Nat) => v = .int (b : Nat)) (fun _ _ _ _ _ h => h) (f := fun i => (bg[i]?).map Prod.fst) nU (by omega) (.of htb) (fun a v hx' H' Q' N' s8 hyy _ => ?_) fun H1 hl1 => ?_
      · obtain ⟨⟨i', w'⟩, hpi, pq, rfl, hpq⟩ := Paired.at hpb hx'
        have hpq2 := s8 _ _ hpq
        walk_at "r"
        refine ⟨rfl, ?_⟩
        walk_at "r"
        exact hyy i' _ _ (by simp [hpi]) (Same.refl _) rfl
      obtain ⟨s1, us, hU, hus⟩ := hl1
      rw [lvt, upTo_list] at hus
      have eus := ints_of hus
      subst eus
      walk_at "r"
      intro F nF
      have s2 := same_upd (o := .lst ([] : List V)) nF
      have hF : upd H1 F (.lst []) F = some (.lst []) := upd_same
      have hU2 := s2 _ _ hU
      have UF : U ≠ F := ne_of_none hU nF
      generalize upd H1 F (.lst []) = H2 at *
      have s12 := s1.trans s2
      have nF0 := s1.free nF
      walk_at "r"
      refine ⟨_, _, _, _, _, rfl, s12 _ _ hp, T.w_Web.it.cl, T.n_Web_stalls, wF_stalls _ _, ?_⟩
      walk_at "r"
      refine ⟨t, xs, rfl, .inr ⟨.of (s12 _ _ ht), ?_⟩⟩
      refine for_enumT (K := K) (a := t) (xs := xs) (fun i σ H' => ∃ (t6 t7 t9 t10 t11 t12 : Option V) (ys : List V) (rs : List (List (Nat × Nat))), σ = [some (.ref px), some (.int (w : Nat)), some (.int (g : Nat)), some (.ref tb), some vu, some (.ref U), t6, t7, some (.ref F), t9, t10, t11, t12] ∧ Same H H' ∧ H' F = some (.lst ys) ∧ H' U = some (.lst (((bg.map Prod.fst).map fun b : Nat => (b : Int)).map V.int)) ∧ Paired (IsRr K ss H') ys rs ∧ rs.length ≤ i * (1 + bnd k) ∧ RSp ss b g bg (fun m => m < i) rs) ?_ ?_ ?_ ?_
      · exact ⟨_, _, _, _, _, _, [], [], rfl, s12, hF, hU2, .nil, Nat.zero_le _, RSp.nil ss b g bg⟩
      · rintro i σ H' _ ⟨t6, t7, t9, t10, t11, t12, ys, rs, rfl, s3, _⟩
        exact .of (s3 _ _ ht)
      · rintro i v T2 σ H3 hx ⟨t6, t7, t9, t10, t11, t12, ys, rs, rfl, s3, hF3, hU3, hrr, lrs, rsp⟩ nT
        have sm := same_upd (o := .tup [.int (i : Nat), v]) nT
        have hT2 : upd H3 T2 (.tup [.int (i : Nat), v]) T2 = some (.tup [.int (i : Nat), v]) := upd_same
        obtain ⟨s, hs, hst⟩ := hss.at hx
        have oks := (hok s (List.mem_of_getElem? hs)).1
        have bds := (hok s (List.mem_of_getElem? hs)).2
        have hil := (List.getElem?_eq_some_iff.mp hs).1
        have k4 := s3.trans sm
        have hF4 := sm _ _ hF3
        have hU4 := sm _ _ hU3
        have hrr4 := rrs_ts (same_tps sm) hrr
        generalize upd H3 T2 (.tup [.int (i : Nat), v]) = H4 at *
        have hst4 := hst.same k4
        obtain ⟨ps, va, vb, vr, rfl, hps, _⟩ := id hst4
        have lys := Paired.length hrr4
        have bk : bnd k ≤ 60000 := bnd_le (by omega)
        have lrs2 : rs.length ≤ 6 * 60001 := Nat.le_trans lrs (Nat.le_trans (Nat.mul_le_mul (show i ≤ 6 by omega) (show 1 + bnd k ≤ 60001 by omega)) (Nat.le_refl _))
        have hmul : (i + 1) * (1 + bnd k) = i * (1 + bnd k) + (1 + bnd k) := Nat.succ_mul _ _
        walk_at "r"
        refine ⟨_, _, rfl, .of hps, (by show ¬ (HT.sIx 5 0 none = 0 ∧ HT.sIx 5 5 (some 2) = 5); decide), fun p2 n2 => ?_⟩
        have sa := same_upd (o := .tup (cutV [V.int (s.u : Nat), .int (s.v : Nat), va, vb, vr] none (some 2))) n2
        refine ⟨_, _, rfl, .inr (.of upd_same), rfl, rfl, ?_⟩
        rw [show cutV [V.int (s.u : Nat), .int (s.v : Nat), va, vb, vr] none (some 2) = [V.int (s.u : Nat), .int (s.v : Nat)] from rfl, stl_at_in, if_neg Bool.false_ne_true]
        have sa : Same H4 (upd H4 p2 (.tup [V.int (s.u : Nat), .int (s.v : Nat)])) := sa
        generalize upd H4 p2 (.tup [V.int (s.u : Nat), .int (s.v : Nat)]) = H5 at *
        have k5 := k4.trans sa
        have hF5 := sa _ _ hF4
        have hU5 := sa _ _ hU4
        have hrr5 := rrs_ts (same_tps sa) hrr4
        clear hF3 hU3 hrr hF4 hU4 hrr4 hT2 sm n2 nT
        by_cases c2 : w = s.u ∨ w = s.v
        · rw [show s.at w = true from by unfold Stl.at; rcases c2 with z | z <;> simp [z]]
          walk_at "r"
          refine ⟨_, _, rfl, .inl (.of hU5), rfl, flat_ints _, ?_⟩
          rw [in_ints]
          by_cases c1 : i ∈ bg.map Prod.fst
          · rw [decide_eq_true c1]
            walk_at "r"
            exact ⟨_, _, _, _, _, _, ys, rs, rfl, k5, hF5, hU5, hrr5, by omega, rsp.skip rgo hs fun z => z.2 c1⟩
          · rw [decide_eq_false c1, show (if true = true then !false else false) = true from rfl]
            have kpos : bg.length + 1 ≤ ss.length := by
              have := (rgo.add hs c2 c1).lt
              have : (bg ++ [(i, w)]).length ≤ ss.length := this
              simpa using this
            walk_at "r"
            intro p8 n8'
            have sb := same_upd (o := .tup [V.int (i : Nat), .int (w : Nat)]) n8'
            have h8 : upd H5 p8 (.tup [V.int (i : Nat), .int (w : Nat)]) p8 = some (.tup [V.int (i : Nat), .int (w : Nat)]) := upd_same
            generalize upd H5 p8 (.tup [V.int (i : Nat), .int (w : Nat)]) = H6 at *
            walk_at "r"
            intro p9 n9
            have sc := same_upd (o := .tup [V.ref p8]) n9
            have h9 : upd H6 p9 (.tup [V.ref p8]) p9 = some (.tup [V.ref p8]) := upd_same
            generalize upd H6 p9 (.tup [V.ref p8]) = H7 at *
            have sbc := sb.trans sc
            have k7 := k5.trans sbc
            refine rd_catA (k7 _ _ htb) h9 (by rw [sizeLine_eq]; show vt.length + 1 ≤ _; omega) fun pd H8 sd hd => ?_
            have k8 := k7.trans sd
            have s58 := sbc.trans sd
            have ir : IsRt K H8 (.ref pd) (bg ++ [(i, w)]) := ⟨pd, _, rfl, hd, Paired.snoc (Paired.mapP hpb fun _ _ ⟨q, e, h⟩ => ⟨q, e, k8 _ _ h⟩) ⟨p8, rfl, sd _ _ (sc _ _ h8)⟩⟩
            have lr : (bg ++ [(i, w)]).length = bg.length + 1 := by simp
            walk_at "r"
            refine ⟨vu, _, _, _, n, w, s, rfl, iu.same k8, by omega, hst.same k8, oks, bds, c2, fun H9 vz s9 iz => ?_⟩
            rw [← ruleR_snoc (p := (i, w)) hs] at iz
            have iz : IsRu K H9 vz (ruleR ss (bg ++ [(i, w)])) (1 + 41 * (bg ++ [(i, w)]).length) := by
              rw [lr, show 1 + 41 * (bg.length + 1) = 1 + 41 * bg.length + 41 by omega]
              exact iz
            have k9 := k8.trans s9
            have s59 := s58.trans s9
            have ir9 := ir.same s9
            have hF9 := s59 _ _ hF5
            have hU9 := s59 _ _ hU5
            have hrr9 := rrs_ts (same_tps s59) hrr5
            clear hF5 hU5 hrr5 s58 s59 sb sc sbc sd s9 k5 k7 k8 h8 h9 hd ir n8' n9 sa k4
            walk_at "r"
            refine ⟨_, s, w, rfl, hst.same k9, ?_⟩
            obtain ⟨k', rfl⟩ : ∃ k', k = k' + 1 := ⟨k - 1, by omega⟩
            walk_at "r"
            refine ⟨fun σ H' => ∃ (ys' : List V), σ = [some (.ref px), some (.int (w : Nat)), some (.int (g : Nat)), some (.ref tb), some vu, some (.ref U), some (.int (i : Nat)), t7, some (.ref F), some (.ref ps), some (.ref pd), some vz, some (.int (s.other w : Nat))] ∧ Same H H' ∧ Tps H9 H' ∧ H' F = some (.lst ys') ∧ H' U = some (.lst (((bg.map Prod.fst).map fun b : Nat => (b : Int)).map V.int)) ∧ Paired (IsRr K ss H') ys' (rs ++ (if s.other w = g then [bg ++ [(i, w)]] else [])), ?_, ?_⟩
            · by_cases cg : s.other w = g
              · have cg' : ((s.other w : Nat) : Int) = (g : Nat) := by omega
                walk_at "r"
                refine ⟨Or.inl ⟨rfl, _, Or.inl (Or.inl hF9)⟩, ?_⟩
                walk_at "r"
                intro pe ne
                have se := same_upd (o := .tup [V.ref pd, vz]) ne
                have he : upd H9 pe (.tup [V.ref pd, vz]) pe = some (.tup [V.ref pd, vz]) := upd_same
                generalize upd H9 pe (.tup [V.ref pd, vz]) = Ha at *
                have hFa := se _ _ hF9
                walk_at "r"
                refine ⟨F, ys, _, rfl, rfl, hFa, big1 (by omega), ?_⟩
                have tp := tps_put (H1 := Ha) (o := .lst (ys ++ [V.ref pe])) hFa
                have tz : Tps H9 (upd Ha F (.lst (ys ++ [V.ref pe]))) := fun a x h => tp _ _ (se _ _ h)
                refine ⟨ys ++ [.ref pe], rfl, same_put nF0 (k9.trans se), tz, upd_same, (upd_ne UF).trans (se _ _ hU9), ?_⟩
                rw [if_pos cg]
                exact Paired.snoc (rrs_ts tz hrr9) ⟨pe, _, _, rfl, tp _ _ he, ir9.ts tz, iz.ts tz⟩
              · have cg' : ¬ ((s.other w : Nat) : Int) = (g : Nat) := by omega
                walk_at "r"
                refine ⟨ys, rfl, k9, fun _ _ h => h, hF9, hU9, ?_⟩
                rw [if_neg cg, List.append_nil]
                exact hrr9
            · rintro σ Ha ⟨ys', rfl, ka, ta, hFa, hUa, hrra⟩
              have lya := Paired.length hrra
              have lap : (rs ++ (if s.other w = g then [bg ++ [(i, w)]] else [])).length ≤ rs.length + 1 := by
                rw [List.length_append]
                split <;> simp
              walk_at "r"
              refine ⟨Or.inl ⟨rfl, _, Or.inl (Or.inl hFa)⟩, ?_⟩
              walk_at "r"
              refine ⟨_, .ref pd, vz, s.other w, g, n, b, ss, bg ++ [(i, w)], rfl, hw.same ka, ir9.ts ta, iz.ts ta, rgo.add hs c2 c1, by rw [lr]; omega, by omega, l6, hok, fun Hb G zs rs' sb nG hG hrs' lrs' rsp' => ?_⟩
              have hFb := sb _ _ hFa
              have lzs := Paired.length hrs'
              walk_at "r"
              refine ⟨F, G, _, _, rfl, rfl, hFb, hG, Nat.le_of_lt (big1 (by omega)), ?_⟩
              walk_at "r"
              have tp := tps_put (H1 := Hb) (o := .lst (ys' ++ zs)) hFb
              refine ⟨_, _, _, _, _, _, ys' ++ zs, rs ++ (if s.other w = g then [bg ++ [(i, w)]] else []) ++ rs', rfl, same_put nF0 (ka.trans sb), upd_same, (upd_ne UF).trans (sb _ _ hUa), Paired.app6 (rrs_ts (fun a x h => tp _ _ (sb _ _ h)) hrra) (rrs_ts tp hrs'), by rw [List.length_append]; omega, rsp.step rgo hs c2 c1 rsp'⟩
        · rw [show s.at w = false from by unfold Stl.at; simp [not_or.mp c2]]
          walk_at "r"
          exact ⟨_, _, _, _, _, _, ys, rs, rfl, k5, hF5, hU5, hrr5, by omega, rsp.skip rgo hs fun z => c2 z.1⟩
      · rintro σ H3 ⟨t6, t7, t9, t10, t11, t12, ys, rs, rfl, s3, hF3, hU3, hrr, lrs, rsp⟩
        rw [lx] at lrs rsp
        walk_at "r"
        refine q _ F ys rs s3 nF0 hF3 hrr ?_ rsp
        exact Nat.le_trans lrs (Nat.mul_le_mul_right _ l6)
end
end My
namespace My
open PySem PySem.Spec PyProof.Rows L2
variable {K : PySem.W.Frag}
section
variable {P : Program} {w : World} {K : PySem.W.Frag} {mg : Str → Option Value} {base : Heap} {f_is_integer f_is_row f_is_fraction f_is_some f_lowest f_multiplied f_squared f_lies_below f_is_stall f_is_ware f_check_ware f_check_two f_across f_hold_of f_is_index f_check_some f_is_step f_end_of f_is_walk f_check_route f_rule_behind f_rule_of f_out_by f_route_out f_routes_on f_best_route f_l_is_integer f_l_source f_l_draw f_l_made f_l_plus f_l_times f_l_over f_l_below f_l_some f_l_stall f_l_stalls f_l_piece f_l_pair f_l_same f_l_rule f_l_comes f_l_routes f_l_fair f_l_web f_l_best f_law f_Web_init f_Web_eq c_BadWare c_Web c_NO_STEPS : Addr} {d_is_integer d_is_row d_is_fraction d_is_some d_lowest d_multiplied d_squared d_lies_below d_is_stall d_is_ware d_check_ware d_check_two d_across d_hold_of d_is_index d_check_some d_is_step d_end_of d_is_walk d_check_route d_rule_behind d_rule_of d_out_by d_route_out d_routes_on d_best_route d_l_is_integer d_l_source d_l_draw d_l_made d_l_plus d_l_times d_l_over d_l_below d_l_some d_l_stall d_l_stalls d_l_piece d_l_pair d_l_same d_l_rule d_l_comes d_l_routes d_l_fair d_l_web d_l_best d_law d_Web_init d_Web_eq : FuncData}
def sp_best_route (K : PySem.W.Frag) (C : Addr) : Sp := fun vs H Q _ => ∃ (x va : V) (b g n : Nat) (ss : List Stl) (a : Rat), vs = [x, .int (b : Nat), .int (g : Nat), va] ∧ IsWeb K C H x n ss ∧ b < n ∧ g < n ∧ b ≠ g ∧ ss.length ≤ 6 ∧ (∀ s ∈ ss, OkSt n s ∧ BdSt 20 s) ∧ IsF K H va a ∧ 0 < a ∧ Bd 1500 a ∧
  ∀ H' v, Same H H' → IsBR K ss b g a H' v → Q v H'
theorem ok_best_route (T : Txt K mg f_is_integer f_is_row f_is_fraction f_is_some f_lowest f_multiplied f_squared f_lies_below f_is_stall f_is_ware f_check_ware f_check_two f_across f_hold_of f_is_index f_check_some f_is_step f_end_of f_is_walk f_check_route f_rule_behind f_rule_of f_out_by f_route_out f_routes_on f_best_route f_l_is_integer f_l_source f_l_draw f_l_made f_l_plus f_l_times f_l_over f_l_below f_l_some f_l_stall f_l_stalls f_l_piece f_l_pair f_l_same f_l_rule f_l_comes f_l_routes f_l_fair f_l_web f_l_best f_law f_Web_init f_Web_eq c_BadWare c_Web c_NO_STEPS d_is_integer d_is_row d_is_fraction d_is_some d_lowest d_multiplied d_squared d_lies_below d_is_stall d_is_ware d_check_ware d_check_two d_across d_hold_of d_is_index d_check_some d_is_step d_end_of d_is_walk d_check_route d_rule_behind d_rule_of d_out_by d_route_out d_routes_on d_best_route d_l_is_integer d_l_source d_l_draw d_l_made d_l_plus d_l_times d_l_over d_l_below d_l_some d_l_stall d_l_stalls d_l_piece d_l_pair d_l_same d_l_rule d_l_comes d_l_routes d_l_fair d_l_web d_l_best d_law d_Web_init d_Web_eq) : FnOk P w K mg base CX0 16 f_best_route d_best_route ["web", "one", "other", "amount"] (sp_best_route K c_Web) := by
  have G_check_two : FnOk P w K mg base CX0 4 f_check_two d_check_two ["web", "one", "other"] (sp_check_two K c_Web) := ok_check_two T
  have G_check_some : FnOk P w K mg base CX0 4 f_check_some d_check_some ["amount"] (sp_check_some K) := ok_check_some T
  have G_routes_on : FnOk P w K mg base CX0 15 f_routes_on d_routes_on ["web", "ware", "goal", "begun", "rule"] (sp_ron K c_Web 7) := ok_routes_on T 7
  have G_out_by : FnOk P w K mg base CX0 1 f_out_by d_out_by ["rule", "amount"] (sp_out_by K) := ok_out_by T
  have G_lies_below : FnOk P w K mg base CX0 1 f_lies_below d_lies_below ["one", "other"] sp_below2 := ok_lies_below2 T
  have G_lowest : FnOk P w K mg base CX0 1 f_lowest d_lowest ["top", "bottom"] (sp_lowest K) := ok_lowest T
  refine T.F_best_route.ok sc_best_route (fun vs H Q E h => ?_) (fun cdv A outer sh H vs Q E hr h => ?_)
  · obtain ⟨x, va, b, g, n, ss, a, rfl, _⟩ := h
    rfl
  · obtain ⟨x, va, b, g, n, ss, a, rfl, hw, hb, hg, hne, l6, hok, iva, a0, ba, q⟩ := h
    refine ⟨_, (pss_cons (ps_expr (pe_call G_check_two (hr.mono (by decide)) (by rfl) T.g_check_two T.k_check_two T.b_check_two .nil pass0 (pa_cons (pv 0) (pa_cons (pv 1) (pa_cons (pv 2) pa_nil)))))
      (pss_cons (ps_expr (pe_call G_check_some (hr.mono (by decide)) (by rfl) T.g_check_some T.k_check_some T.b_check_some .nil pass0 (pa_cons (pv 3) pa_nil)))
      (pss_cons (ps_asg2 pe_non (pg_name (i := 4) sc_best_route.nd rfl (by first | exact Or.inl rfl | exact Or.inr rfl)) (pg_name (i := 5) sc_best_route.nd rfl (by first | exact Or.inl rfl | exact Or.inr rfl)))
      (pss_cons (ps_for PassesOwn.never rfl (pi_list (pe_call G_routes_on (hr.mono (by decide)) (by rfl) T.g_routes_on T.k_routes_on T.b_routes_on .nil pass0 (pa_cons (pv 0) (pa_cons (pv 1) (pa_cons (pv 2) (pa_cons (pe_tup pa_nil) (pa_cons (pe_glob (v := .ref c_NO_STEPS) (by rfl) T.v_NO_STEPS rfl) pa_nil))))))) (pg_tup rfl (pgs_cons (pg_name (i := 6) sc_best_route.nd rfl (by first | exact Or.inl rfl | exact Or.inr rfl)) (pgs_cons (pg_name (i := 7) sc_best_route.nd rfl (by first | exact Or.inl rfl | exact Or.inr rfl)) pgs_nil)))
        (pss_cons (ps_set (i := 8) sc_best_route.nd rfl (by first | exact Or.inl rfl | exact Or.inr rfl) (pe_call G_out_by (hr.mono (by decide)) (by rfl) T.g_out_by T.k_out_by T.b_out_by .nil pass0 (pa_cons (pv 7) (pa_cons (pv 3) pa_nil))))
          (pss_one (ps_if (PW.pt (pw_or (pt_cmpR op_isN (pv 5) pe_non (nomark _)) (pw_or1 (pt_val (pe_call G_lies_below (hr.mono (by decide)) (by rfl) T.g_lies_below T.k_lies_below T.b_lies_below .nil pass0 (pa_cons (pv 4) (pa_cons (pv 8) pa_nil)))))))
            (pss_one (ps_par (i := 4) (j := 5) rfl sc_best_route.nd rfl rfl (by decide) rfl rfl (pa_cons (pv 8) (pa_cons (pv 6) pa_nil)) rfl))
            pss_nil))))
      (pss_cons (ps_if (pt_cmpR op_isN (pv 5) pe_non (nomark _))
        (pss_one (ps_ret pe_non))
        pss_nil)
      (pss_one (ps_ret (pe_tup (pa_cons (pe_call G_lowest (hr.mono (by decide)) (by rfl) T.g_lowest T.k_lowest T.b_lowest .nil pass0 (pa_cons (pe_ix ix_tup (pv 4) pe_int (fun _ _ => rfl)) (pa_cons (pe_ix ix_tup (pv 4) pe_int (fun _ _ => rfl)) pa_nil))) (pa_cons (pv 5) pa_nil)))))))))), ?_⟩
    walk_at "r"
    refine ⟨x, n, ss, b, g, rfl, hw, hb, hg, hne, ?_⟩
    walk_at "r"
    refine ⟨va, a, rfl, iva, a0, ?_⟩
    walk_at "r"
    refine rd_asg2 ?_
    walk_at "r"
    intro p0 np0
    have s0 := same_upd (o := .tup ([] : List V)) np0
    have hp0 : upd H p0 (.tup []) p0 = some (.tup []) := upd_same
    generalize upd H p0 (.tup []) = H1 at *
    walk_at "r"
    refine ⟨x, .ref p0, _, b, g, n, b, ss, [], rfl, hw.same s0, ⟨p0, [], rfl, hp0, .nil⟩, ⟨_, _, _, _, rfl, .inr T.t_NO_STEPS, tri_one⟩, Rgo.nil ss b, l6, by decide, l6, hok, fun H2 F ys rs s2 nF hF hrr lrs rsp => ?_⟩
    have k2 := s0.trans s2
    have lys := Paired.length hrr
    have hS : ∀ st, Rset ss b g st ↔ st ∈ rs := fun st => by
      constructor
      · rintro ⟨h1, h2⟩
        refine rsp.compl st h1 h2 rfl fun p hp => ?_
        obtain ⟨s, hs, _⟩ := h1.rb.mem p (List.mem_of_getElem? hp)
        exact (List.getElem?_eq_some_iff.mp hs).1
      · intro h
        obtain ⟨h1, h2, _⟩ := rsp.sound st h
        exact ⟨h1, h2⟩
    walk_at "r"
    refine ⟨⟨_, .of hF⟩, ?_⟩
    refine for_list (K := K) (a := F) (xs := ys) (fun i σ H' => ∃ (vm vb : V) (t6 t7 t8 : Option V), σ = [some x, some (.int (b : Nat)), some (.int (g : Nat)), some va, some vm, some vb, t6, t7, t8] ∧ Same H2 H' ∧
      ((rs.take i = [] ∧ vm = .non ∧ vb = .non) ∨ ∃ (p : Addr) (nn d : Int) (st : List (Nat × Nat)), vm = .ref p ∧ H' p = some (.tup [.int nn, .int d]) ∧ 0 < nn ∧ 0 < d ∧ nn < 2 ^ 2201 ∧ d < 2 ^ 2201 ∧ Rat.divInt nn d = comes (ruleR ss st) a ∧ IsRt K H' vb st ∧ Top (fun st => comes (ruleR ss st) a) (rs.take i) st)) ?_ ?_ ?_ ?_
    · exact ⟨_, _, _, _, _, rfl, Same.refl _, .inl ⟨rfl, rfl, rfl⟩⟩
    · rintro i σ H' _ ⟨vm, vb, t6, t7, t8, rfl, s3, _⟩
      exact .of (s3 _ _ hF)
    · rintro i v σ H3 hx ⟨vm, vb, t6, t7, t8, rfl, s3, alt⟩
      obtain ⟨st, hst, q0, vr, vu, rfl, hq0, irt, iru⟩ := Paired.at hrr hx
      have hq3 := s3 _ _ hq0
      have lst : st.length ≤ 6 := by
        have := (hS st).mpr (List.mem_of_getElem? hst)
        have := this.1.lt
        have : st.length ≤ ss.length := this
        omega
      have tk : rs.take (i + 1) = rs.take i ++ [st] := by rw [List.take_add_one, hst]; rfl
      walk_at "r"
      refine ⟨vu, va, _, _, a, rfl, iru.same s3, by omega, iva.same (k2.trans s3), a0, ba, fun H4 p4 nn d s4 hp4 ⟨n0, d0, nb, db, e4⟩ => ?_⟩
      have k4 := s3.trans s4
      walk_at "r"
      rcases alt with ⟨e0, rfl, rfl⟩ | ⟨p, nn', d', st', rfl, hp, n0', d0', nb', db', e', irt', top⟩
      · refine ⟨rfl, ?_⟩
        rw [decide_eq_true rfl]
        walk_at "r"
        refine rd_par ?_
        walk_at "r"
        refine ⟨_, _, rfl, ?_⟩
        refine ⟨_, _, _, _, _, rfl, k4, .inr ⟨p4, nn, d, st, rfl, hp4, n0, d0, nb, db, e4, irt.same k4, ?_⟩⟩
        rw [tk, e0]
        exact top_first st
      · have irt2 := irt'
        obtain ⟨tv, vv, rfl, htv, hpv⟩ := irt2
        refine ⟨rfl, ?_⟩
        rw [decide_eq_false (fun z => by cases z)]
        walk_at "r"
        refine ⟨p, p4, nn', d', nn, d, rfl, s4 _ _ hp, hp4, n0', d0', n0, d0, nb', db', nb, db, ?_⟩
        rw [e', e4]
        by_cases c : comes (ruleR ss st') a < comes (ruleR ss st) a
        · rw [decide_eq_true c]
          walk_at "r"
          refine rd_par ?_
          walk_at "r"
          refine ⟨_, _, rfl, ?_⟩
          refine ⟨_, _, _, _, _, rfl, k4, .inr ⟨p4, nn, d, st, rfl, hp4, n0, d0, nb, db, e4, irt.same k4, ?_⟩⟩
          rw [tk]
          exact top_new top c
        · rw [decide_eq_false c]
          walk_at "r"
          refine ⟨_, _, _, _, _, rfl, k4, .inr ⟨p, nn', d', st', rfl, s4 _ _ hp, n0', d0', nb', db', e', irt'.same s4, ?_⟩⟩
          rw [tk]
          refine top_old top c ?_
          have asc := rsp.asc
          have e1 : rs = rs.take i ++ rs.drop i := (List.take_append_drop _ _).symm
          rw [e1] at asc
          refine (List.pairwise_append.mp asc).2.2 st' top.1 st ?_
          refine List.mem_of_getElem? (i := 0) ?_
          rw [List.getElem?_drop]
          exact hst
    · rintro σ H3 ⟨vm, vb, t6, t7, t8, rfl, s3, alt⟩
      rw [lys, List.take_length] at alt
      have k3 := k2.trans s3
      walk_at "r"
      rcases alt with ⟨e0, rfl, rfl⟩ | ⟨p, nn, d, st, rfl, hp, n0, d0, nb, db, e', irt, top⟩
      · refine ⟨rfl, ?_⟩
        rw [decide_eq_true rfl]
        walk_at "r"
        refine q _ _ k3 (.inl ⟨fun st h => ?_, rfl⟩)
        have := (hS st).mp h
        rw [e0] at this
        cases this
      · have irt2 := irt
        obtain ⟨tv, vv, rfl, htv, hpv⟩ := irt2
        refine ⟨rfl, ?_⟩
        rw [decide_eq_false (fun z => by cases z)]
        walk_at "r"
        refine ⟨nn, d, rfl, d0, Nat.lt_of_lt_of_le (na_lt (Int.le_of_lt d0) db) (Nat.pow_le_pow_right (by decide) (by decide)), fun H4 v4 s4 h4 => ?_⟩
        rw [e'] at h4
        walk_at "r"
        intro pr npr
        have s5 := same_upd (o := .tup [v4, V.ref tv]) npr
        exact q _ _ ((k3.trans s4).trans s5) (.inr ⟨pr, v4, _, st, rfl, upd_same, h4.same s5, (irt.same s4).same s5, top_best top hS⟩)
def sp_lbest (K : PySem.W.Frag) : Sp := fun vs H Q _ => ∃ (S : Addr) (va : V) (b g n : Nat) (xs : List V) (ss : List Stl) (a : Rat), vs = [.ref S, .int (b : Nat), .int (g : Nat), va] ∧ H S = some (.lst xs) ∧ Sts K H xs ss ∧ ss.length ≤ 6 ∧ (∀ s ∈ ss, OkSt n s ∧ BdSt 20 s) ∧ IsF K H va a ∧ 0 < a ∧ Bd 1500 a ∧
  ∀ H' v, Same H H' → IsBR K ss b g a H' v → Q v H'
/-- the best so far -/
def BsF (v : List (Nat × Nat) → Rat) (l : List (List (Nat × Nat) × Nat)) (g : Nat) (x : List (Nat × Nat)) : Prop := (x, g) ∈ l ∧ ∀ y, (y, g) ∈ l → v y < v x ∨ (v y = v x ∧ rLt y x = false)
theorem bsf_new {v : List (Nat × Nat) → Rat} {l : List (List (Nat × Nat) × Nat)} {g : Nat} {x z : List (Nat × Nat)} (h : BsF v l g x) (hz : v x < v z ∨ (v x = v z ∧ rLt z x = true)) : BsF v (l ++ [(z, g)]) g z := by
  refine ⟨by simp, fun y hy => ?_⟩
  rcases List.mem_append.mp hy with a | a
  · rcases h.2 y a with b | ⟨b, c⟩
    · exact .inl (by rcases hz with z | ⟨z, _⟩ <;> grind)
    · rcases hz with z' | ⟨z', k⟩
      · exact .inl (by grind)
      · refine .inr ⟨by rw [b, z'], ?_⟩
        cases e : rLt y z with
        | false => rfl
        | true =>
          rw [rLt_trans e k] at c
          cases c
  · have e := List.mem_singleton.mp a
    have e : y = z := congrArg Prod.fst e
    rw [e]
    exact .inr ⟨rfl, rLt_irr z⟩
theorem bsf_old {v : List (Nat × Nat) → Rat} {l : List (List (Nat × Nat) × Nat)} {g : Nat} {x z : List (Nat × Nat)} (h : BsF v l g x) (h1 : ¬ v x < v z) (h2 : ¬ (v x = v z ∧ rLt z x = true)) : BsF v (l ++ [(z, g)]) g x := by
  refine ⟨List.mem_append_left _ h.1, fun y hy => ?_⟩
  rcases List.mem_append.mp hy with a | a
  · exact h.2 y a
  · have e := List.mem_singleton.mp a
    have e : y = z := congrArg Prod.fst e
    rw [e]
    by_cases c : v z = v x
    · refine .inr ⟨c, ?_⟩
      cases k : rLt z x with
      | false => rfl
      | true => exact absurd ⟨c.symm, k⟩ h2
    · exact .inl (by grind)
theorem bsf_skip {v : List (Nat × Nat) → Rat} {l : List (List (Nat × Nat) × Nat)} {g : Nat} {x : List (Nat × Nat)} {p : List (Nat × Nat) × Nat} (h : BsF v l g x) (hp : p.2 ≠ g) : BsF v (l ++ [p]) g x := by
  refine ⟨List.mem_append_left _ h.1, fun y hy => ?_⟩
  rcases List.mem_append.mp hy with a | a
  · exact h.2 y a
  · have e := List.mem_singleton.mp a
    exact absurd (by rw [← e]) hp
theorem bsf_first {v : List (Nat × Nat) → Rat} {l : List (List (Nat × Nat) × Nat)} {g : Nat} {z : List (Nat × Nat)} (h : ∀ y, ¬ (y, g) ∈ l) : BsF v (l ++ [(z, g)]) g z := by
  refine ⟨by simp, fun y hy => ?_⟩
  rcases List.mem_append.mp hy with a | a
  · exact absurd a (h y)
  · have e := List.mem_singleton.mp a
    have e : y = z := congrArg Prod.fst e
    rw [e]
    exact .inr ⟨rfl, rLt_irr z⟩
theorem ok_l_best (T : Txt K mg f_is_integer f_is_row f_is_fraction f_is_some f_lowest f_multiplied f_squared f_lies_below f_is_stall f_is_ware f_check_ware f_check_two f_across f_hold_of f_is_index f_check_some f_is_step f_end_of f_is_walk f_check_route f_rule_behind f_rule_of f_out_by f_route_out f_routes_on f_best_route f_l_is_integer f_l_source f_l_draw f_l_made f_l_plus f_l_times f_l_over f_l_below f_l_some f_l_stall f_l_stalls f_l_piece f_l_pair f_l_same f_l_rule f_l_comes f_l_routes f_l_fair f_l_web f_l_best f_law f_Web_init f_Web_eq c_BadWare c_Web c_NO_STEPS d_is_integer d_is_row d_is_fraction d_is_some d_lowest d_multiplied d_squared d_lies_below d_is_stall d_is_ware d_check_ware d_check_two d_across d_hold_of d_is_index d_check_some d_is_step d_end_of d_is_walk d_check_route d_rule_behind d_rule_of d_out_by d_route_out d_routes_on d_best_route d_l_is_integer d_l_source d_l_draw d_l_made d_l_plus d_l_times d_l_over d_l_below d_l_some d_l_stall d_l_stalls d_l_piece d_l_pair d_l_same d_l_rule d_l_comes d_l_routes d_l_fair d_l_web d_l_best d_law d_Web_init d_Web_eq) : FnOk P w K mg base CX0 4 f_l_best d_l_best ["_law_stalls_here", "_law_one", "_law_other", "_law_amount"] (sp_lbest K) := by
  have G_l_routes : FnOk P w K mg base CX0 1 f_l_routes d_l_routes ["_law_stalls_here", "_law_one"] (sp_lroutes K) := ok_l_routes T
  have G_l_rule : FnOk P w K mg base CX0 3 f_l_rule d_l_rule ["_law_stalls_here", "_law_route"] (sp_lrule K) := ok_l_rule T
  have G_l_comes : FnOk P w K mg base CX0 3 f_l_comes d_l_comes ["_law_rule_here", "_law_amount"] (sp_lcomes K) := ok_l_comes T
  have G_l_below : FnOk P w K mg base CX0 1 f_l_below d_l_below ["_law_one", "_law_other"] (sp_lbelow K) := ok_l_below T
  refine T.F_l_best.ok sc_l_best (fun vs H Q E h => ?_) (fun cdv A outer sh H vs Q E hr h => ?_)
  · obtain ⟨S, va, b, g, n, xs, ss, a, rfl, _⟩ := h
    rfl
  · obtain ⟨S, va, b, g, n, xs, ss, a, rfl, hS, hst, l6, hok, iva, a0, ba, q⟩ := h
    have hok1 : ∀ s ∈ ss, OkSt n s := fun s hs => (hok s hs).1
    refine ⟨_, (pss_cons (ps_set (i := 4) sc_l_best.nd rfl (by first | exact Or.inl rfl | exact Or.inr rfl) pe_non)
      (pss_cons (ps_for PassesOwn.never rfl (pi_list (pe_call G_l_routes (hr.mono (by decide)) (by rfl) T.g_l_routes T.k_l_routes T.b_l_routes .nil pass0 (pa_cons (pv 0) (pa_cons (pv 1) pa_nil)))) (pg_tup rfl (pgs_cons (pg_name (i := 5) sc_l_best.nd rfl (by first | exact Or.inl rfl | exact Or.inr rfl)) (pgs_cons (pg_name (i := 6) sc_l_best.nd rfl (by first | exact Or.inl rfl | exact Or.inr rfl)) pgs_nil)))
        (pss_one (ps_if (pt_cmpR op_eq (pv 6) (pv 2) (nomark _))
            (pss_cons (ps_set (i := 7) sc_l_best.nd rfl (by first | exact Or.inl rfl | exact Or.inr rfl) (pe_call G_l_comes (hr.mono (by decide)) (by rfl) T.g_l_comes T.k_l_comes T.b_l_comes .nil pass0 (pa_cons (pe_call G_l_rule (hr.mono (by decide)) (by rfl) T.g_l_rule T.k_l_rule T.b_l_rule .nil pass0 (pa_cons (pv 0) (pa_cons (pv 5) pa_nil))) (pa_cons (pv 3) pa_nil))))
              (pss_one (ps_if (PW.pt (pw_or (pt_cmpR op_isN (pv 4) pe_non (nomark _)) (pw_or (pt_val (pe_call G_l_below (hr.mono (by decide)) (by rfl) T.g_l_below T.k_l_below T.b_l_below .nil pass0 (pa_cons (pe_ix ix_tup (pv 4) pe_int (fun _ _ => rfl)) (pa_cons (pv 7) pa_nil)))) (pw_or1 (PW.pt (pw_and (pt_cmpR (op_eqD hr.units) (pe_ix ix_tup (pv 4) pe_int (fun _ _ => rfl)) (pv 7) (nomark _)) (pw_and1 (pt_cmpR (My.op_ltD hr.units) (pv 5) (pe_ix ix_tup (pv 4) pe_int (fun _ _ => rfl)) (nomark _)))))))))
                (pss_one (ps_set (i := 4) sc_l_best.nd rfl (by first | exact Or.inl rfl | exact Or.inr rfl) (pe_tup (pa_cons (pv 7) (pa_cons (pv 5) pa_nil)))))
                pss_nil)))
            pss_nil)))
      (pss_one (ps_ret (pv 4))))), ?_⟩
    walk_at "r"
    refine ⟨S, n, b, xs, ss, rfl, hS, hst, l6, hok1, fun H2 F ys ps s2 nF hF hgo lps ap cp => ?_⟩
    have lys := Paired.length hgo
    walk_at "r"
    refine ⟨⟨_, .of hF⟩, ?_⟩
    refine for_list (K := K) (a := F) (xs := ys) (fun i σ H' => ∃ (vb : V) (t5 t6 t7 : Option V), σ = [some (.ref S), some (.int (b : Nat)), some (.int (g : Nat)), some va, some vb, t5, t6, t7] ∧ Same H2 H' ∧
      (((∀ y, ¬ (y, g) ∈ ps.take i) ∧ vb = .non) ∨ ∃ (p : Addr) (vf vr : V) (st : List (Nat × Nat)), vb = .ref p ∧ H' p = some (.tup [vf, vr]) ∧ IsF K H' vf (comes (ruleR ss st) a) ∧ IsRt K H' vr st ∧ BsF (fun st => comes (ruleR ss st) a) (ps.take i) g st)) ?_ ?_ ?_ ?_
    · exact ⟨_, _, _, _, rfl, Same.refl _, .inl ⟨by simp, rfl⟩⟩
    · rintro i σ H' _ ⟨vb, t5, t6, t7, rfl, s3, _⟩
      exact .of (s3 _ _ hF)
    · rintro i v σ H3 hx ⟨vb, t5, t6, t7, rfl, s3, alt⟩
      obtain ⟨⟨st, wn⟩, hst2, q0, vr, rfl, hq0, irt⟩ := Paired.at hgo hx
      have hq3 : H3 q0 = some (.tup [vr, .int (wn : Nat)]) := s3 _ _ hq0
      have irt : IsRt K H2 vr st := irt
      obtain ⟨rg, l0⟩ := ap _ (List.mem_of_getElem? hst2)
      have lst := rg.lt
      have lst : st.length ≤ ss.length := lst
      have tk : ps.take (i + 1) = ps.take i ++ [(st, wn)] := by rw [List.take_add_one, hst2]; rfl
      have k3 := s2.trans s3
      walk_at "r"
      by_cases ce : wn = g
      · have ce' : ((wn : Nat) : Int) = (g : Nat) := by omega
        subst ce
        obtain ⟨_, _, _, tr⟩ := tri_all hok rg.rb.mem st.length (Nat.le_refl _)
        rw [List.take_length] at tr
        have cb := (comes_bd tr a0 ba).mono (show 1 + 41 * st.length + 1500 + 1 ≤ 3900 by omega)
        obtain ⟨x1, x2⟩ := tr.bd
        have px := rule_pos (st := st) hok1
        walk_at "r"
        refine ⟨S, vr, n, xs, ss, st, rfl, k3 _ _ hS, hst.same k3, irt.same s3, rg.rb.mem, by omega, hok, fun H4 p4 a1 a2 s4 hp4 i1 i2 => ?_⟩
        walk_at "r"
        refine ⟨p4, a1, a2, va, _, a, rfl, hp4, i1, i2, (iva.same k3).same s4, px.1, px.2, a0, x1.mono (by omega), x2.mono (by omega), ba, fun H5 v5 s5 i5 => ?_⟩
        have k5 := (s3.trans s4).trans s5
        have s45 := s4.trans s5
        walk_at "r"
        rcases alt with ⟨e0, rfl⟩ | ⟨p, vf, vr', st', rfl, hp, ivf, irt', bs⟩
        · refine ⟨rfl, ?_⟩
          rw [decide_eq_true rfl]
          walk_at "r"
          intro p6 np6
          have s6 := same_upd (o := .tup [v5, vr]) np6
          refine ⟨_, _, _, _, rfl, k5.trans s6, .inr ⟨p6, v5, vr, st, rfl, upd_same, i5.same s6, irt.same (k5.trans s6), ?_⟩⟩
          rw [tk]
          exact bsf_first e0
        · refine ⟨rfl, ?_⟩
          rw [decide_eq_false (fun z => by cases z)]
          obtain ⟨rg', l0'⟩ := ap _ (List.mem_of_mem_take bs.1)
          obtain ⟨_, _, _, tr'⟩ := tri_all hok rg'.rb.mem st'.length (Nat.le_refl _)
          rw [List.take_length] at tr'
          have lst' := rg'.lt
          have lst' : st'.length ≤ ss.length := lst'
          have cb' := (comes_bd tr' a0 ba).mono (show 1 + 41 * st'.length + 1500 + 1 ≤ 3900 by omega)
          have hp5 := s45 _ _ hp
          have ivf5 := ivf.same s45
          have irt5 := irt'.same s45
          walk_at "r"
          refine ⟨_, _, _, _, rfl, ivf5, i5, cb', cb, ?_⟩
          by_cases c : comes (ruleR ss st') a < comes (ruleR ss st) a
          · rw [decide_eq_true c]
            walk_at "r"
            intro p6 np6
            have s6 := same_upd (o := .tup [v5, vr]) np6
            refine ⟨_, _, _, _, rfl, k5.trans s6, .inr ⟨p6, v5, vr, st, rfl, upd_same, i5.same s6, irt.same (k5.trans s6), ?_⟩⟩
            rw [tk]
            exact bsf_new bs (.inl c)
          · rw [decide_eq_false c]
            walk_at "r"
            refine eqF (K := K) ivf5 i5 ?_
            by_cases c2 : comes (ruleR ss st') a = comes (ruleR ss st) a
            · rw [decide_eq_true c2]
              walk_at "r"
              refine ltRt (irt.same k5) irt5 ?_
              cases c3 : rLt st st' with
              | true =>
                walk_at "r"
                intro p6 np6
                have s6 := same_upd (o := .tup [v5, vr]) np6
                refine ⟨_, _, _, _, rfl, k5.trans s6, .inr ⟨p6, v5, vr, st, rfl, upd_same, i5.same s6, irt.same (k5.trans s6), ?_⟩⟩
                rw [tk]
                exact bsf_new bs (.inr ⟨c2, c3⟩)
              | false =>
                walk_at "r"
                refine ⟨_, _, _, _, rfl, k5, .inr ⟨p, vf, vr', st', rfl, hp5, ivf5, irt5, ?_⟩⟩
                rw [tk]
                exact bsf_old bs c fun z => by rw [c3] at z; cases z.2
            · rw [decide_eq_false c2]
              walk_at "r"
              refine ⟨_, _, _, _, rfl, k5, .inr ⟨p, vf, vr', st', rfl, hp5, ivf5, irt5, ?_⟩⟩
              rw [tk]
              exact bsf_old bs c fun z => c2 z.1
      · have ce' : ¬ ((wn : Nat) : Int) = (g : Nat) := by omega
        walk_at "r"
        refine ⟨_, _, _, _, rfl, s3, ?_⟩
        rw [tk]
        rcases alt with ⟨e0, rfl⟩ | ⟨p, vf, vr', st', rfl, hp, ivf, irt', bs⟩
        · refine .inl ⟨fun y hy => ?_, rfl⟩
          rcases List.mem_append.mp hy with z | z
          · exact e0 y z
          · have := congrArg Prod.snd (List.mem_singleton.mp z)
            exact ce this.symm
        · exact .inr ⟨p, vf, vr', st', rfl, hp, ivf, irt', bsf_skip bs ce⟩
    · rintro σ H3 ⟨vb, t5, t6, t7, rfl, s3, alt⟩
      rw [lys, List.take_length] at alt
      have hmem : ∀ st, Rset ss b g st ↔ (st, g) ∈ ps := fun st => ⟨fun h => cp _ h.1 h.2, fun h => ap _ h⟩
      walk_at "r"
      refine q _ _ (s2.trans s3) ?_
      rcases alt with ⟨e0, rfl⟩ | ⟨p, vf, vr, st, rfl, hp, ivf, irt, bs⟩
      · exact .inl ⟨fun st h => e0 st ((hmem st).mp h), rfl⟩
      · exact .inr ⟨p, vf, vr, st, rfl, hp, ivf, irt, (hmem st).mpr bs.1, fun y hy => bs.2 y ((hmem y).mp hy)⟩
end
end My
namespace My
open PySem PySem.Spec PyProof.Rows L2
variable {K : PySem.W.Frag}
abbrev nw (l : List Nat) : List V := (l.map fun b : Nat => (b : Int)).map V.int
/-! ### the wares that hang together with one -/
def p1S (f : List Nat) (s : Stl) : List Nat := if s.u ∈ f ∧ ¬ s.v ∈ f then f ++ [s.v] else f
def p2S (f : List Nat) (s : Stl) : List Nat := if s.v ∈ f ∧ ¬ s.u ∈ f then f ++ [s.u] else f
def ptS (f : List Nat) (s : Stl) : List Nat := p2S (p1S f s) s
def pturn (f : List Nat) (ss : List Stl) : List Nat := ss.foldl ptS f
structure PcI (n b : Nat) (ss : List Stl) (f : List Nat) : Prop where
  hb : b ∈ f
  nd : f.Nodup
  lt : ∀ x ∈ f, x < n
  snd : ∀ x ∈ f, ∃ st, Rgo ss b (st, x) ∧ ∀ p ∈ st, ∀ s, ss[p.1]? = some s → s.u ∈ f ∧ s.v ∈ f
theorem PcI.start {n b : Nat} {ss : List Stl} (hb : b < n) : PcI n b ss [b] := by
  refine ⟨by simp, by simp, fun x hx => by rw [List.mem_singleton.mp hx]; exact hb, fun x hx => ?_⟩
  rw [List.mem_singleton.mp hx]
  exact ⟨[], Rgo.nil ss b, by simp⟩
theorem PcI.add {n b : Nat} {ss : List Stl} {f : List Nat} (h : PcI n b ss f) {i x : Nat} {s : Stl} (hs : ss[i]? = some s) (hx : x ∈ f) (hxs : x = s.u ∨ x = s.v) (hn : ¬ s.other x ∈ f) (ho : s.other x = s.u ∨ s.other x = s.v) (hlt : s.other x < n) (hboth : ∀ y, y = s.u ∨ y = s.v → y = x ∨ y = s.other x) : PcI n b ss (f ++ [s.other x]) := by
  refine ⟨List.mem_append_left _ h.hb, ?_, fun y hy => ?_, fun y hy => ?_⟩
  · refine List.nodup_append.mpr ⟨h.nd, by simp, fun a ha c hc z => ?_⟩
    rw [List.mem_singleton.mp hc] at z
    exact hn (z ▸ ha)
  · rcases List.mem_append.mp hy with z | z
    · exact h.lt y z
    · rw [List.mem_singleton.mp z]
      exact hlt
  · rcases List.mem_append.mp hy with z | z
    · obtain ⟨st, g1, g2⟩ := h.snd y z
      exact ⟨st, g1, fun p hp t ht => ⟨List.mem_append_left _ (g2 p hp t ht).1, List.mem_append_left _ (g2 p hp t ht).2⟩⟩
    · rw [List.mem_singleton.mp z]
      obtain ⟨st, g1, g2⟩ := h.snd x hx
      have ni : ¬ i ∈ st.map Prod.fst := fun z => by
        obtain ⟨p, hp, e⟩ := List.mem_map.mp z
        have := g2 p hp s (by rw [e]; exact hs)
        rcases ho with o | o
        · exact hn (by rw [o]; exact this.1)
        · exact hn (by rw [o]; exact this.2)
      refine ⟨st ++ [(i, x)], g1.add hs hxs ni, fun p hp t ht => ?_⟩
      have both : ∀ y, y = s.u ∨ y = s.v → y ∈ f ++ [s.other x] := fun y hy => by
        rcases hboth y hy with e | e
        · rw [e]
          exact List.mem_append_left _ hx
        · rw [e]
          simp
      rcases List.mem_append.mp hp with z | z
      · exact ⟨List.mem_append_left _ (g2 p z t ht).1, List.mem_append_left _ (g2 p z t ht).2⟩
      · rw [List.mem_singleton.mp z] at ht
        have ht : ss[i]? = some t := ht
        rw [hs] at ht
        rw [← Option.some.inj ht]
        exact ⟨both _ (.inl rfl), both _ (.inr rfl)⟩
theorem PcI.p1 {n b : Nat} {ss : List Stl} {f : List Nat} (h : PcI n b ss f) {i : Nat} {s : Stl} (hs : ss[i]? = some s) (ok : OkSt n s) : PcI n b ss (p1S f s) := by
  unfold p1S
  split
  · rename_i c
    have e : s.other s.u = s.v := if_pos rfl
    have := h.add hs c.1 (.inl rfl) (by rw [e]; exact c.2) (by rw [e]; exact .inr rfl) (by rw [e]; exact ok.v) (by rw [e]; exact fun y hy => hy)
    rw [e] at this
    exact this
  · exact h
theorem PcI.p2 {n b : Nat} {ss : List Stl} {f : List Nat} (h : PcI n b ss f) {i : Nat} {s : Stl} (hs : ss[i]? = some s) (ok : OkSt n s) : PcI n b ss (p2S f s) := by
  unfold p2S
  split
  · rename_i c
    have e : s.other s.v = s.u := if_neg fun z => ok.ne z.symm
    have := h.add hs c.1 (.inr rfl) (by rw [e]; exact c.2) (by rw [e]; exact .inl rfl) (by rw [e]; exact ok.u) (by rw [e]; exact fun y hy => hy.symm)
    rw [e] at this
    exact this
  · exact h
theorem pt_pre (f : List Nat) (s : Stl) : ∃ e, ptS f s = f ++ e := by
  unfold ptS p2S p1S
  split
  · split
    · exact ⟨[s.v] ++ [s.u], by rw [List.append_assoc]⟩
    · exact ⟨[s.v], rfl⟩
  · split
    · exact ⟨[s.u], rfl⟩
    · exact ⟨[], by simp⟩
theorem pt_both {f : List Nat} {s : Stl} (h : s.u ∈ f ∨ s.v ∈ f) : s.u ∈ ptS f s ∧ s.v ∈ ptS f s := by
  have a : s.u ∈ p1S f s → s.v ∈ p1S f s → s.u ∈ ptS f s ∧ s.v ∈ ptS f s := fun h1 h2 => by
    unfold ptS p2S
    rw [if_neg (fun z => z.2 h1)]
    exact ⟨h1, h2⟩
  by_cases hu : s.u ∈ f
  · by_cases hv : s.v ∈ f
    · have e : p1S f s = f := if_neg fun z => z.2 hv
      exact a (by rw [e]; exact hu) (by rw [e]; exact hv)
    · have e : p1S f s = f ++ [s.v] := if_pos ⟨hu, hv⟩
      exact a (by rw [e]; exact List.mem_append_left _ hu) (by rw [e]; simp)
  · have hv := h.resolve_left hu
    have e : p1S f s = f := if_neg fun z => hu z.1
    unfold ptS
    rw [e]
    unfold p2S
    rw [if_pos ⟨hv, hu⟩]
    exact ⟨by simp, List.mem_append_left _ hv⟩
theorem pt_same {f : List Nat} {s : Stl} (h : s.u ∈ f ↔ s.v ∈ f) : ptS f s = f := by
  have e : p1S f s = f := if_neg fun z => z.2 (h.mp z.1)
  unfold ptS
  rw [e]
  exact if_neg fun z => z.2 (h.mpr z.1)
theorem turn_pre : ∀ (ss : List Stl) (f : List Nat), ∃ e, pturn f ss = f ++ e
  | [], f => ⟨[], by simp [pturn]⟩
  | s :: ss, f => by
    obtain ⟨e1, h1⟩ := pt_pre f s
    obtain ⟨e2, h2⟩ := turn_pre ss (ptS f s)
    refine ⟨e1 ++ e2, ?_⟩
    show pturn (ptS f s) ss = _
    rw [h2, h1, List.append_assoc]
theorem turn_both : ∀ {ss : List Stl} {f : List Nat} {s : Stl}, s ∈ ss → (s.u ∈ f ∨ s.v ∈ f) → s.u ∈ pturn f ss ∧ s.v ∈ pturn f ss
  | t :: ss, f, s, hs, h => by
    show s.u ∈ pturn (ptS f t) ss ∧ s.v ∈ pturn (ptS f t) ss
    obtain ⟨e1, h1⟩ := pt_pre f t
    obtain ⟨e2, h2⟩ := turn_pre ss (ptS f t)
    rcases List.mem_cons.mp hs with e | e
    · subst e
      have := pt_both h
      rw [h2]
      exact ⟨List.mem_append_left _ this.1, List.mem_append_left _ this.2⟩
    · refine turn_both e ?_
      rw [h1]
      rcases h with h | h
      · exact .inl (List.mem_append_left _ h)
      · exact .inr (List.mem_append_left _ h)
def Clo (ss : List Stl) (f : List Nat) : Prop := ∀ s ∈ ss, s.u ∈ f ↔ s.v ∈ f
theorem turn_clo {ss : List Stl} {f : List Nat} (h : Clo ss f) : pturn f ss = f := by
  unfold pturn
  induction ss with
  | nil => rfl
  | cons s ss ih =>
    rw [List.foldl_cons, pt_same (h s (by simp))]
    exact ih fun t ht => h t (by simp [ht])
theorem turn_grow (ss : List Stl) (f : List Nat) : Clo ss f ∨ f.length < (pturn f ss).length := by
  obtain ⟨e, h⟩ := turn_pre ss f
  cases e with
  | nil =>
    rw [List.append_nil] at h
    refine .inl fun s hs => ⟨fun z => ?_, fun z => ?_⟩
    · have := (turn_both hs (.inl z)).2
      rwa [h] at this
    · have := (turn_both hs (.inr z)).1
      rwa [h] at this
  | cons a e =>
    refine .inr ?_
    rw [h, List.length_append]
    simp
theorem clo_all {n b : Nat} {ss : List Stl} {f : List Nat} (h : PcI n b ss f) (c : Clo ss f) : ∀ (k : Nat) (st : List (Nat × Nat)) (x : Nat), st.length = k → Rgo ss b (st, x) → x ∈ f
  | 0, st, x, hk, r => by
    have e := r.z hk
    have e : x = b := e
    rw [e]
    exact h.hb
  | k + 1, st, x, hk, r => by
    obtain ⟨st0, m, w, s, h1, h2, h3, h4, h5, h6⟩ := r.split (by show 0 < st.length; omega)
    have h2 : st = st0 ++ [(m, w)] := h2
    have h6 : x = s.other w := h6
    have hl : st0.length = k := by
      rw [h2, List.length_append] at hk
      simpa using hk
    have hw := clo_all h c k st0 w hl h1
    have cs := c s (List.mem_of_getElem? h3)
    rw [h6]
    unfold Stl.other
    split
    · rename_i e
      exact cs.mp (e ▸ hw)
    · rename_i e
      exact cs.mpr (h5.resolve_left e ▸ hw)
section
variable {P : Program} {w : World} {K : PySem.W.Frag} {mg : Str → Option Value} {base : Heap} {f_is_integer f_is_row f_is_fraction f_is_some f_lowest f_multiplied f_squared f_lies_below f_is_stall f_is_ware f_check_ware f_check_two f_across f_hold_of f_is_index f_check_some f_is_step f_end_of f_is_walk f_check_route f_rule_behind f_rule_of f_out_by f_route_out f_routes_on f_best_route f_l_is_integer f_l_source f_l_draw f_l_made f_l_plus f_l_times f_l_over f_l_below f_l_some f_l_stall f_l_stalls f_l_piece f_l_pair f_l_same f_l_rule f_l_comes f_l_routes f_l_fair f_l_web f_l_best f_law f_Web_init f_Web_eq c_BadWare c_Web c_NO_STEPS : Addr} {d_is_integer d_is_row d_is_fraction d_is_some d_lowest d_multiplied d_squared d_lies_below d_is_stall d_is_ware d_check_ware d_check_two d_across d_hold_of d_is_index d_check_some d_is_step d_end_of d_is_walk d_check_route d_rule_behind d_rule_of d_out_by d_route_out d_routes_on d_best_route d_l_is_integer d_l_source d_l_draw d_l_made d_l_plus d_l_times d_l_over d_l_below d_l_some d_l_stall d_l_stalls d_l_piece d_l_pair d_l_same d_l_rule d_l_comes d_l_routes d_l_fair d_l_web d_l_best d_law d_Web_init d_Web_eq : FuncData}
def sp_lpair (M : Nat) : Sp := fun vs H Q _ => ∃ (D : Addr) (c n : Nat), vs = [.ref D, .int (n : Nat)] ∧ Src M D H c ∧ c ≤ 2 ^ 38 ∧ 2 ≤ n ∧ n ≤ 8 ∧
  ∀ H' p u v, Fw D H H' → Src M D H' (c + 2) → H' p = some (.tup [.int (u : Nat), .int (v : Nat)]) → u < n → v < n → u ≠ v → Q (.ref p) H'
theorem mod_other {n a r : Nat} (ha : a < n) (hr : r + 1 < n) : (a + 1 + r) % n < n ∧ (a + 1 + r) % n ≠ a := by
  refine ⟨Nat.mod_lt _ (by omega), ?_⟩
  by_cases c : a + 1 + r < n
  · rw [Nat.mod_eq_of_lt c]
    omega
  · rw [Nat.mod_eq_sub_mod (by omega), Nat.mod_eq_of_lt (by omega)]
    omega
theorem ok_l_pair {M : Nat} (hM : 64 ≤ M) (hM2 : M ≤ 1048576) (T : Txt K mg f_is_integer f_is_row f_is_fraction f_is_some f_lowest f_multiplied f_squared f_lies_below f_is_stall f_is_ware f_check_ware f_check_two f_across f_hold_of f_is_index f_check_some f_is_step f_end_of f_is_walk f_check_route f_rule_behind f_rule_of f_out_by f_route_out f_routes_on f_best_route f_l_is_integer f_l_source f_l_draw f_l_made f_l_plus f_l_times f_l_over f_l_below f_l_some f_l_stall f_l_stalls f_l_piece f_l_pair f_l_same f_l_rule f_l_comes f_l_routes f_l_fair f_l_web f_l_best f_law f_Web_init f_Web_eq c_BadWare c_Web c_NO_STEPS d_is_integer d_is_row d_is_fraction d_is_some d_lowest d_multiplied d_squared d_lies_below d_is_stall d_is_ware d_check_ware d_check_two d_across d_hold_of d_is_index d_check_some d_is_step d_end_of d_is_walk d_check_route d_rule_behind d_rule_of d_out_by d_route_out d_routes_on d_best_route d_l_is_integer d_l_source d_l_draw d_l_made d_l_plus d_l_times d_l_over d_l_below d_l_some d_l_stall d_l_stalls d_l_piece d_l_pair d_l_same d_l_rule d_l_comes d_l_routes d_l_fair d_l_web d_l_best d_law d_Web_init d_Web_eq) : FnOk P w K mg base CX0 2 f_l_pair d_l_pair ["_law_source_here", "_law_wares"] (sp_lpair M) := by
  have G_l_draw : FnOk P w K mg base CX0 1 f_l_draw d_l_draw ["_law_source_here", "_law_many"] (sp_draw M) := ok_l_draw hM hM2 T
  refine T.F_l_pair.ok sc_l_pair (fun vs H Q E h => ?_) (fun cdv A outer sh H vs Q E hr h => ?_)
  · obtain ⟨D, c, n, rfl, _⟩ := h
    rfl
  · obtain ⟨D, c, n, rfl, dk, hc, n2, n8, q⟩ := h
    refine ⟨_, (pss_cons (ps_set (i := 2) sc_l_pair.nd rfl (by first | exact Or.inl rfl | exact Or.inr rfl) (pe_call G_l_draw (hr.mono (by decide)) (by rfl) T.g_l_draw T.k_l_draw T.b_l_draw .nil pass0 (pa_cons (pv 0) (pa_cons (pv 1) pa_nil))))
      (pss_one (ps_ret (pe_tup (pa_cons (pv 2) (pa_cons (pe_op op_mod (pe_callTy call_intN (by rfl) T.z_int (by decide +kernel) (pa_cons (pe_op op_add (pe_op op_add (pv 2) pe_int) (pe_call G_l_draw (hr.mono (by decide)) (by rfl) T.g_l_draw T.k_l_draw T.b_l_draw .nil pass0 (pa_cons (pv 0) (pa_cons (pe_op op_sub (pv 1) pe_int) pa_nil)))) pa_nil)) (pv 1)) pa_nil)))))), ?_⟩
    walk_at "r"
    refine ⟨_, _, _, rfl, ⟨by omega, by omega⟩, dk, by omega, fun H1 r1 w1 k1 a1 b1 => ?_⟩
    obtain ⟨u, rfl⟩ := Int.eq_ofNat_of_zero_le a1
    walk_at "r"
    refine ⟨_, _, _, rfl, ⟨by omega, by omega⟩, k1, by omega, fun H2 r2 w2 k2 a2 b2 => ?_⟩
    obtain ⟨r, rfl⟩ := Int.eq_ofNat_of_zero_le a2
    obtain ⟨m1, m2⟩ := mod_other (show u < n by omega) (show r + 1 < n by omega)
    walk_at "r"
    rw [show ((u : Nat) : Int) + 1 + (r : Nat) = ((u + 1 + r : Nat) : Int) by omega, ← Int.natCast_emod]
    intro p np
    have s3 := same_upd (o := .tup [V.int (u : Nat), .int (((u + 1 + r) % n : Nat) : Int)]) np
    exact q _ p u ((u + 1 + r) % n) ((w1.trans w2).trans (Same.fw s3)) ((k2.same s3).mono (by omega)) upd_same (by omega) m1 (Ne.symm m2)
def sp_lpiece (K : PySem.W.Frag) : Sp := fun vs H Q _ => ∃ (S : Addr) (n b : Nat) (xs : List V) (ss : List Stl), vs = [.ref S, .int (n : Nat), .int (b : Nat)] ∧ H S = some (.lst xs) ∧ Sts K H xs ss ∧ ss.length ≤ 16 ∧ n ≤ 8 ∧ b < n ∧ (∀ s ∈ ss, OkSt n s) ∧
  ∀ H' F f, Same H H' → H' F = some (.lst (nw f)) → (∀ g, g ≠ b → (g ∈ f ↔ ∃ st, Rset ss b g st)) → Q (.ref F) H'
theorem ok_l_piece (T : Txt K mg f_is_integer f_is_row f_is_fraction f_is_some f_lowest f_multiplied f_squared f_lies_below f_is_stall f_is_ware f_check_ware f_check_two f_across f_hold_of f_is_index f_check_some f_is_step f_end_of f_is_walk f_check_route f_rule_behind f_rule_of f_out_by f_route_out f_routes_on f_best_route f_l_is_integer f_l_source f_l_draw f_l_made f_l_plus f_l_times f_l_over f_l_below f_l_some f_l_stall f_l_stalls f_l_piece f_l_pair f_l_same f_l_rule f_l_comes f_l_routes f_l_fair f_l_web f_l_best f_law f_Web_init f_Web_eq c_BadWare c_Web c_NO_STEPS d_is_integer d_is_row d_is_fraction d_is_some d_lowest d_multiplied d_squared d_lies_below d_is_stall d_is_ware d_check_ware d_check_two d_across d_hold_of d_is_index d_check_some d_is_step d_end_of d_is_walk d_check_route d_rule_behind d_rule_of d_out_by d_route_out d_routes_on d_best_route d_l_is_integer d_l_source d_l_draw d_l_made d_l_plus d_l_times d_l_over d_l_below d_l_some d_l_stall d_l_stalls d_l_piece d_l_pair d_l_same d_l_rule d_l_comes d_l_routes d_l_fair d_l_web d_l_best d_law d_Web_init d_Web_eq) : FnOk P w K mg base CX0 1 f_l_piece d_l_piece ["_law_stalls_here", "_law_wares", "_law_ware"] (sp_lpiece K) := by
  refine T.F_l_piece.ok sc_l_piece (fun vs H Q E h => ?_) (fun cdv A outer sh H vs Q E hr h => ?_)
  · obtain ⟨S, n, b, xs, ss, rfl, _⟩ := h
    rfl
  · obtain ⟨S, n, b, xs, ss, rfl, hS, hst, l16, n8, hb, hok, q⟩ := h
    have lx := hst.len
    refine ⟨_, (pss_cons (ps_set (i := 3) sc_l_piece.nd rfl (by first | exact Or.inl rfl | exact Or.inr rfl) (pe_lst (pa_cons (pv 2) pa_nil)))
      (pss_cons (ps_for PassesOwn.never rfl (pi_range1 (by rfl) T.z_range (pa_cons (pv 1) pa_nil)) (pg_name (i := 4) sc_l_piece.nd rfl (by first | exact Or.inl rfl | exact Or.inr rfl))
        (pss_one (ps_for PassesOwn.never rfl (pi_list (pv 0)) (pg_name (i := 5) sc_l_piece.nd rfl (by first | exact Or.inl rfl | exact Or.inr rfl))
            (C8.pss_cut (ps_if (PW.pt (pw_and (pt_cmpR op_in_seq (pe_ix ix_tup (pv 5) pe_int (fun _ _ => rfl)) (pv 3) (by rfl)) (pw_and1 (pt_cmpR op_notIn_seq (pe_ix ix_tup (pv 5) pe_int (fun _ _ => rfl)) (pv 3) (by rfl)))))
                (pss_one (ps_expr (pe_bm PySem.F.plainAttrs_list PySem.F.slot_list_append PySem.F.type_list_append mt_append (pv 3) (pa_cons (pe_ix ix_tup (pv 5) pe_int (fun _ _ => rfl)) pa_nil))))
                pss_nil)
              (pss_one (ps_if (PW.pt (pw_and (pt_cmpR op_in_seq (pe_ix ix_tup (pv 5) pe_int (fun _ _ => rfl)) (pv 3) (by rfl)) (pw_and1 (pt_cmpR op_notIn_seq (pe_ix ix_tup (pv 5) pe_int (fun _ _ => rfl)) (pv 3) (by rfl)))))
                (pss_one (ps_expr (pe_bm PySem.F.plainAttrs_list PySem.F.slot_list_append PySem.F.type_list_append mt_append (pv 3) (pa_cons (pe_ix ix_tup (pv 5) pe_int (fun _ _ => rfl)) pa_nil))))
                pss_nil))))))
      (pss_one (ps_ret (pv 3))))), ?_⟩
    walk_at "r"
    intro F nF
    have s1 := same_upd (o := .lst [V.int (b : Nat)]) nF
    have hF : upd H F (.lst [V.int (b : Nat)]) F = some (.lst (nw [b])) := upd_same
    generalize upd H F (.lst [V.int (b : Nat)]) = H1 at *
    walk_at "r"
    refine ⟨by omega, by omega, ?_⟩
    refine for_range (lo := 0) (n := n) (fun i σ H' => ∃ (t4 t5 : Option V) (f : List Nat), σ = [some (.ref S), some (.int (n : Nat)), some (.int (b : Nat)), some (.ref F), t4, t5] ∧ Same H H' ∧ H' F = some (.lst (nw f)) ∧ PcI n b ss f ∧ (Clo ss f ∨ i + 1 ≤ f.length)) ?_ ?_ ?_
    · exact ⟨_, _, [b], rfl, s1, hF, PcI.start hb, .inr (Nat.le_refl 1)⟩
    · rintro i σ H2 hi ⟨t4, t5, f, rfl, s2, hF2, pi, grow⟩
      walk_at "r"
      refine ⟨⟨_, .of (s2 _ _ hS)⟩, ?_⟩
      refine for_list (K := K) (a := S) (xs := xs) (fun j σ H' => ∃ t5 : Option V, σ = [some (.ref S), some (.int (n : Nat)), some (.int (b : Nat)), some (.ref F), some (.int (0 + (i : Nat))), t5] ∧ Same H H' ∧ H' F = some (.lst (nw (pturn f (ss.take j)))) ∧ PcI n b ss (pturn f (ss.take j))) ?_ ?_ ?_ ?_
      · exact ⟨_, rfl, s2, hF2, pi⟩
      · rintro j σ H' _ ⟨t5, rfl, s3, _⟩
        exact .of (s3 _ _ hS)
      · rintro j v σ H3 hx ⟨t5, rfl, s3, hF3, pj⟩
        obtain ⟨s, hs, hst3⟩ := hst.at hx
        have oks := hok s (List.mem_of_getElem? hs)
        have hst3 := hst3.same s3
        obtain ⟨ps, va, vb, vr, rfl, hps, _⟩ := id hst3
        have et : pturn f (ss.take (j + 1)) = ptS (pturn f (ss.take j)) s := by
          unfold pturn
          rw [List.take_add_one, hs, List.foldl_append]
          rfl
        generalize pturn f (ss.take j) = ff at *
        have lff : ff.length ≤ 8 := Nat.le_trans (nodup_le n ff pj.nd pj.lt) n8
        walk_at "r"
        refine ⟨fun σ H' => σ = [some (.ref S), some (.int (n : Nat)), some (.int (b : Nat)), some (.ref F), some (.int (0 + (i : Nat))), some (.ref ps)] ∧ Same H H' ∧ H' F = some (.lst (nw (p1S ff s))) ∧ H' ps = some (.tup [V.int (s.u : Nat), .int (s.v : Nat), va, vb, vr]), ?_, ?_⟩
        · walk_at "r"
          refine ⟨_, _, rfl, .inl (.of hF3), rfl, flat_ints _, ?_⟩
          rw [in_ints]
          by_cases c1 : s.u ∈ ff
          · rw [decide_eq_true c1, if_neg Bool.false_ne_true]
            walk_at "r"
            refine ⟨_, _, rfl, .inl (.of hF3), rfl, flat_ints _, ?_⟩
            rw [in_ints]
            by_cases c2 : s.v ∈ ff
            · rw [decide_eq_true c2]
              walk_at "r"
              refine ⟨rfl, s3, ?_, hps⟩
              rw [show p1S ff s = ff from if_neg fun z => z.2 c2]
              exact hF3
            · rw [decide_eq_false c2, show (if true = true then !false else false) = true from rfl]
              walk_at "r"
              refine ⟨Or.inl ⟨rfl, _, Or.inl (Or.inl hF3)⟩, ?_⟩
              walk_at "r"
              refine ⟨F, _, _, rfl, rfl, hF3, small1000 (by rw [List.length_map, List.length_map]; omega), ?_⟩
              have tp := tps_put (H1 := H3) (o := .lst (nw ff ++ [V.int (s.v : Nat)])) hF3
              refine ⟨rfl, same_put nF s3, ?_, tp _ _ hps⟩
              rw [upd_same, show p1S ff s = ff ++ [s.v] from if_pos ⟨c1, c2⟩, nw, nw, List.map_append, List.map_append]
              rfl
          · rw [decide_eq_false c1, if_neg Bool.false_ne_true]
            walk_at "r"
            refine ⟨rfl, s3, ?_, hps⟩
            rw [show p1S ff s = ff from if_neg fun z => c1 z.1]
            exact hF3
        · rintro σ H4 ⟨rfl, s4, hF4, hps4⟩
          have p4 := pj.p1 hs oks
          rw [et]
          unfold ptS
          generalize p1S ff s = f4 at *
          have lf4 : f4.length ≤ 8 := Nat.le_trans (nodup_le n f4 p4.nd p4.lt) n8
          have p5 := p4.p2 hs oks
          walk_at "r"
          refine ⟨_, _, rfl, .inl (.of hF4), rfl, flat_ints _, ?_⟩
          rw [in_ints]
          by_cases c1 : s.v ∈ f4
          · rw [decide_eq_true c1, if_neg Bool.false_ne_true]
            walk_at "r"
            refine ⟨_, _, rfl, .inl (.of hF4), rfl, flat_ints _, ?_⟩
            rw [in_ints]
            by_cases c2 : s.u ∈ f4
            · rw [decide_eq_true c2]
              walk_at "r"
              refine ⟨_, rfl, s4, ?_, p5⟩
              rw [show p2S f4 s = f4 from if_neg fun z => z.2 c2]
              exact hF4
            · rw [decide_eq_false c2, show (if true = true then !false else false) = true from rfl]
              walk_at "r"
              refine ⟨Or.inl ⟨rfl, _, Or.inl (Or.inl hF4)⟩, ?_⟩
              walk_at "r"
              refine ⟨F, _, _, rfl, rfl, hF4, small1000 (by rw [List.length_map, List.length_map]; omega), ?_⟩
              refine ⟨_, rfl, same_put nF s4, ?_, p5⟩
              rw [upd_same, show p2S f4 s = f4 ++ [s.u] from if_pos ⟨c1, c2⟩, nw, nw, List.map_append, List.map_append]
              rfl
          · rw [decide_eq_false c1, if_neg Bool.false_ne_true]
            walk_at "r"
            refine ⟨s4, ?_, p5⟩
            rw [show p2S f4 s = f4 from if_neg fun z => c1 z.1]
            exact hF4
      · rintro σ H3 ⟨t5, rfl, s3, hF3, pj⟩
        rw [lx, List.take_length] at hF3 pj
        walk_at "r"
        refine ⟨_, _, pturn f ss, rfl, s3, hF3, pj, ?_⟩
        rcases grow with c | c
        · rw [turn_clo c]
          exact .inl c
        · rcases turn_grow ss f with d | d
          · rw [turn_clo d]
            exact .inl d
          · exact .inr (by omega)
    · rintro σ H2 ⟨t4, t5, f, rfl, s2, hF2, pi, grow⟩
      have hc : Clo ss f := by
        rcases grow with c | c
        · exact c
        · have := nodup_le n f pi.nd pi.lt
          omega
      walk_at "r"
      refine q _ F f s2 hF2 fun g hg => ⟨fun h => ?_, fun ⟨st, h1, h2⟩ => clo_all pi hc st.length st g rfl h1⟩
      obtain ⟨st, h1, _⟩ := pi.snd g h
      refine ⟨st, h1, ?_⟩
      rcases Nat.eq_zero_or_pos st.length with z | z
      · exact absurd (h1.z z) hg
      · exact z
end
end My
namespace My
open PySem PySem.Spec PyProof.Rows L2
variable {K : PySem.W.Frag}
theorem ok_more {n m : Nat} {s : Stl} (h : OkSt n s) (l : n ≤ m) : OkSt m s := ⟨Nat.lt_of_lt_of_le h.u l, Nat.lt_of_lt_of_le h.v l, h.ne, h.a, h.b, h.r, h.e⟩
theorem sm_rt {H : Hp} {v u : V} {st : List (Nat × Nat)} (h1 : IsRt K H v st) (h2 : IsRt K H u st) (l : st.length ≤ 100) : Sm K H 2 v u := by
  obtain ⟨t, vs, rfl, ht, hp⟩ := h1
  obtain ⟨t', vs', rfl, ht', hp'⟩ := h2
  have l1 := Paired.length hp
  have l2 := Paired.length hp'
  refine .inr ⟨t, t', vs, vs', rfl, rfl, .inl ht, .inl ht', by omega, by omega, fun i a b ha hb => ?_⟩
  obtain ⟨p, hpi, q, rfl, hq⟩ := Paired.at hp ha
  obtain ⟨p', hpi', q', rfl, hq'⟩ := Paired.at hp' hb
  rw [hpi] at hpi'
  cases hpi'
  refine .inr ⟨q, q', _, _, rfl, rfl, .inl hq, .inl hq', rfl, by show 2 ≤ 100; decide, fun i a b ha hb => ?_⟩
  rw [ha] at hb
  cases hb
  match i, ha with
  | 0, ha => exact ⟨_, (Option.some.inj ha).symm, (Option.some.inj ha).symm⟩
  | 1, ha => exact ⟨_, (Option.some.inj ha).symm, (Option.some.inj ha).symm⟩
theorem isiT_non {H : Hp} {Q : VK} {p : Addr} (h : H p = some (.tup [V.ty "list", .ty "tuple"])) (q : Q (.bl false) H) : rIsiT K [.non, .ref p] H Q :=
  ⟨_, _, _, _, _, false, rfl, h, .cons (.ty _) (.cons (.ty _) .nil), .base .non, kitAny_cons (b := false) (kit_ty (by decide +kernel)) (fun _ => kitAny_cons (b := false) (kit_ty (by decide +kernel)) (fun _ => rfl) (fun z => Bool.noConfusion z)) (fun z => Bool.noConfusion z), q⟩
theorem neBR {ss : List Stl} {b g : Nat} {a : Rat} {H : Hp} {v u : V} {Q : VK} (h1 : IsBR K ss b g a H v) (h2 : IsBR K ss b g a H u) (k : Q (.bl false) H) : rNeD K v u H Q := by
  rcases h1 with ⟨n1, rfl⟩ | ⟨p, vf, vr, st, rfl, hp, hf, hr, hb⟩
  · rcases h2 with ⟨_, rfl⟩ | ⟨_, _, _, st, _, _, _, _, hb⟩
    · exact ⟨.none, .none, .non, .non, rfl, rfl, k⟩
    · exact absurd hb.mem (n1 st)
  · rcases h2 with ⟨n1, _⟩ | ⟨p', vf', vr', st', rfl, hp', hf', hr', hb'⟩
    · exact absurd hb.mem (n1 st)
    · have e := best_uniq hb hb'
      subst e
      have e1 : PyData.eqv (frD (comes (ruleR ss st) a)) (frD (comes (ruleR ss st) a)) = true := frD_refl _
      have e2 : PyData.eqv (rtD st) (rtD st) = true := all_refl stepD (fun p => by rw [step_eqv]; exact decide_eq_true rfl) st
      have lay := all_lay stepD (fun m => ⟨rfl, Nat.le_succ 1⟩) st
      have sh : SeqAt.shaped (.tuple [frD (comes (ruleR ss st) a), rtD st]) = true := by
        unfold SeqAt.shaped
        rw [Bool.and_eq_true]
        refine ⟨?_, decide_eq_true ?_⟩
        · show (PyData.canLay0 (frD (comes (ruleR ss st) a)) && (PyData.canLayAll0 (st.map stepD) && PyData.canLayAll0 [])) = true
          rw [lay.1]
          rfl
        · have h2 := lay.2
          show max (PyData.depth (frD (comes (ruleR ss st) a))) (max (PyData.depthAll (st.map stepD) + 1) 0) + 1 ≤ 64
          have h3 : PyData.depth (frD (comes (ruleR ss st) a)) ≤ 2 := by show max 0 (max 0 0) + 1 ≤ 2; decide
          omega
      refine ⟨_, _, .tup (.of hp) (.cons hf.dp (.cons hr.dp .nil)), .tup (.of hp') (.cons hf'.dp (.cons hr'.dp .nil)), sh, sh, ?_⟩
      rw [show PyData.eqv (.tuple [frD (comes (ruleR ss st) a), rtD st]) (.tuple [frD (comes (ruleR ss st) a), rtD st]) = true by
        show (PyData.eqv (frD (comes (ruleR ss st) a)) (frD (comes (ruleR ss st) a)) && (PyData.eqv (rtD st) (rtD st) && true)) = true
        rw [e1, e2]
        rfl]
      exact k
/-- the law's things of one web -/
structure G67 (K : PySem.W.Frag) (B D : Addr) (H0 : Hp) (S w7 : Addr) (n c : Nat) (xs : List V) (ss : List Stl) (H : Hp) : Prop where
  dk : Src 1048576 D H c
  sm : Same H0 H
  web : IsWeb K B H (.ref w7) n ss
  fS : H S = some (.lst xs)
  st : Sts K H xs ss
section
variable {B D S w7 : Addr} {H0 : Hp} {n c c' : Nat} {xs : List V} {ss : List Stl} {H H' : Hp}
theorem G67.same (g : G67 K B D H0 S w7 n c xs ss H) (s : Same H H') : G67 K B D H0 S w7 n c xs ss H' := ⟨g.dk.same s, g.sm.trans s, g.web.same s, s _ _ g.fS, g.st.same s⟩
theorem G67.fw (g : G67 K B D H0 S w7 n c xs ss H) (n0 : H0 D = none) (sD : S ≠ D) (f : Fw D H H') (k : Src 1048576 D H' c') : G67 K B D H0 S w7 n c' xs ss H' :=
  ⟨k, same_fw n0 g.sm f, Web.tps g.dk f g.web, f _ _ sD g.fS, g.st.ts (g.dk.tps f)⟩
theorem G67.mono (g : G67 K B D H0 S w7 n c xs ss H) (h : c ≤ c') : G67 K B D H0 S w7 n c' xs ss H := ⟨g.dk.mono h, g.sm, g.web, g.fS, g.st⟩
end
section
variable {P : Program} {w : World} {K : PySem.W.Frag} {mg : Str → Option Value} {base : Heap} {f_is_integer f_is_row f_is_fraction f_is_some f_lowest f_multiplied f_squared f_lies_below f_is_stall f_is_ware f_check_ware f_check_two f_across f_hold_of f_is_index f_check_some f_is_step f_end_of f_is_walk f_check_route f_rule_behind f_rule_of f_out_by f_route_out f_routes_on f_best_route f_l_is_integer f_l_source f_l_draw f_l_made f_l_plus f_l_times f_l_over f_l_below f_l_some f_l_stall f_l_stalls f_l_piece f_l_pair f_l_same f_l_rule f_l_comes f_l_routes f_l_fair f_l_web f_l_best f_law f_Web_init f_Web_eq c_BadWare c_Web c_NO_STEPS : Addr} {d_is_integer d_is_row d_is_fraction d_is_some d_lowest d_multiplied d_squared d_lies_below d_is_stall d_is_ware d_check_ware d_check_two d_across d_hold_of d_is_index d_check_some d_is_step d_end_of d_is_walk d_check_route d_rule_behind d_rule_of d_out_by d_route_out d_routes_on d_best_route d_l_is_integer d_l_source d_l_draw d_l_made d_l_plus d_l_times d_l_over d_l_below d_l_some d_l_stall d_l_stalls d_l_piece d_l_pair d_l_same d_l_rule d_l_comes d_l_routes d_l_fair d_l_web d_l_best d_law d_Web_init d_Web_eq : FuncData}
def sp_sameN : Sp := fun vs H Q _ => vs = [.non, .non] ∧ ∀ H', Same H H' → Q (.bl true) H'
theorem ok_sameN (T : Txt K mg f_is_integer f_is_row f_is_fraction f_is_some f_lowest f_multiplied f_squared f_lies_below f_is_stall f_is_ware f_check_ware f_check_two f_across f_hold_of f_is_index f_check_some f_is_step f_end_of f_is_walk f_check_route f_rule_behind f_rule_of f_out_by f_route_out f_routes_on f_best_route f_l_is_integer f_l_source f_l_draw f_l_made f_l_plus f_l_times f_l_over f_l_below f_l_some f_l_stall f_l_stalls f_l_piece f_l_pair f_l_same f_l_rule f_l_comes f_l_routes f_l_fair f_l_web f_l_best f_law f_Web_init f_Web_eq c_BadWare c_Web c_NO_STEPS d_is_integer d_is_row d_is_fraction d_is_some d_lowest d_multiplied d_squared d_lies_below d_is_stall d_is_ware d_check_ware d_check_two d_across d_hold_of d_is_index d_check_some d_is_step d_end_of d_is_walk d_check_route d_rule_behind d_rule_of d_out_by d_route_out d_routes_on d_best_route d_l_is_integer d_l_source d_l_draw d_l_made d_l_plus d_l_times d_l_over d_l_below d_l_some d_l_stall d_l_stalls d_l_piece d_l_pair d_l_same d_l_rule d_l_comes d_l_routes d_l_fair d_l_web d_l_best d_law d_Web_init d_Web_eq) : FnOk P w K mg base CX0 3 f_l_same d_l_same ["_law_told", "_law_due"] sp_sameN := by
  have G_l_same : FnOk P w K mg base CX0 1 f_l_same d_l_same ["_law_told", "_law_due"] sp_no := ok_same_no T
  have G_l_is_integer : FnOk P w K mg base CX0 1 f_l_is_integer d_l_is_integer ["_law_thing"] sp_is_integer := ok_l_is_integer T
  refine T.F_l_same.ok sc_l_same (fun vs H Q E h => ?_) (fun cdv A outer sh H vs Q E hr h => ?_)
  · obtain ⟨rfl, _⟩ := h
    rfl
  · obtain ⟨rfl, q⟩ := h
    refine ⟨_, (pss_cons (ps_if (pt_val (pe_callB call_isiT (by rfl) T.z_isinstance (by decide +kernel) (pa_cons (pv 1) (pa_cons (pe_tup (pa_cons (pe_bltn (v := .ty "list") (u := .type "list") (by rfl) T.z_list (by decide +kernel) rfl) (pa_cons (pe_bltn (v := .ty "tuple") (u := .type "tuple") (by rfl) T.z_tuple (by decide +kernel) rfl) pa_nil))) pa_nil))))
        (pss_cons (ps_if (PW.pt (pw_or (pt_cmpR op_ne (pe_callB call_isi (by rfl) T.z_isinstance (by decide +kernel) (pa_cons (pv 0) (pa_cons (pe_bltn (v := .ty "list") (u := .type "list") (by rfl) T.z_list (by decide +kernel) rfl) pa_nil))) (pe_callB call_isi (by rfl) T.z_isinstance (by decide +kernel) (pa_cons (pv 1) (pa_cons (pe_bltn (v := .ty "list") (u := .type "list") (by rfl) T.z_list (by decide +kernel) rfl) pa_nil))) (nomark _)) (pw_or (pt_not (pt_val (pe_callB call_isiT (by rfl) T.z_isinstance (by decide +kernel) (pa_cons (pv 0) (pa_cons (pe_tup (pa_cons (pe_bltn (v := .ty "list") (u := .type "list") (by rfl) T.z_list (by decide +kernel) rfl) (pa_cons (pe_bltn (v := .ty "tuple") (u := .type "tuple") (by rfl) T.z_tuple (by decide +kernel) rfl) pa_nil))) pa_nil))))) (pw_or1 (pt_cmpR op_ne (pe_callB call_lenN (by rfl) T.z_len (by decide +kernel) (pa_cons (pv 0) pa_nil)) (pe_callB call_lenN (by rfl) T.z_len (by decide +kernel) (pa_cons (pv 1) pa_nil)) (nomark _))))))
            (pss_one (ps_ret pe_bl))
            pss_nil)
          (pss_one (ps_ret (pe_callB (cr_all rfl) (by rfl) T.z_all (by decide +kernel) (pa_cons (pe_lc (own := [("_law_one", 2), ("_law_other", 3)]) (g := gTup K 2 (gCons (gName 2) (gCons (gName 3) (gNil)))) rfl sc_l_same.nd (My.pi_zipP (by rfl) T.z_zip (pa_cons (pv 0) (pa_cons (pv 1) pa_nil))) (blkOk_by (own := [("_law_one", 2), ("_law_other", 3)]) (N := N_l_same) (sc := defScope s_l_same) (by decide +kernel)) (fun _ _ _ _ _ => (pg_tup rfl (pgs_cons (pg_name (i := 2) sc_l_same.nd rfl (by first | exact Or.inl rfl | exact Or.inr rfl)) (pgs_cons (pg_name (i := 3) sc_l_same.nd rfl (by first | exact Or.inl rfl | exact Or.inr rfl)) pgs_nil)))) (fun _ _ _ _ _ => pts_nil) (fun _ _ _ _ _ => (pe_call G_l_same (hr.mono (by decide)) (by rfl) T.g_l_same T.k_l_same T.b_l_same .nil pass0 (pa_cons (pv 2) (pa_cons (pv 3) pa_nil))))) pa_nil)))))
        pss_nil)
      (pss_cons (ps_if (pt_cmpR op_isN (pv 1) pe_non (nomark _))
        (pss_one (ps_ret (pe_cmpR op_isN (pv 0) pe_non (nomark _))))
        pss_nil)
      (pss_cons (ps_if (pt_val (pe_callB call_isi (by rfl) T.z_isinstance (by decide +kernel) (pa_cons (pv 1) (pa_cons (pe_bltn (v := .ty "bool") (u := .type "bool") (by rfl) T.z_bool (by decide +kernel) rfl) pa_nil))))
        (pss_one (ps_ret (pe_and (pe_callB call_isi (by rfl) T.z_isinstance (by decide +kernel) (pa_cons (pv 0) (pa_cons (pe_bltn (v := .ty "bool") (u := .type "bool") (by rfl) T.z_bool (by decide +kernel) rfl) pa_nil))) (pe_one (pe_cmpR op_eq (pv 0) (pv 1) (nomark _))))))
        pss_nil)
      (pss_cons (ps_if (pt_val (pe_callB call_isi (by rfl) T.z_isinstance (by decide +kernel) (pa_cons (pv 1) (pa_cons (pe_bltn (v := .ty "str") (u := .type "str") (by rfl) T.z_str (by decide +kernel) rfl) pa_nil))))
        (pss_one (ps_ret (pe_and (pe_callB call_isi (by rfl) T.z_isinstance (by decide +kernel) (pa_cons (pv 0) (pa_cons (pe_bltn (v := .ty "str") (u := .type "str") (by rfl) T.z_str (by decide +kernel) rfl) pa_nil))) (pe_one (pe_cmpR op_eq (pv 0) (pv 1) (nomark _))))))
        pss_nil)
      (pss_one (ps_ret (pe_and (pe_call G_l_is_integer (hr.mono (by decide)) (by rfl) T.g_l_is_integer T.k_l_is_integer T.b_l_is_integer .nil pass0 (pa_cons (pv 0) pa_nil)) (pe_one (pe_cmpR op_eq (pv 0) (pv 1) (nomark _)))))))))), ?_⟩
    walk_at "r"
    intro p np
    have s1 := same_upd (o := .tup [V.ty "list", .ty "tuple"]) np
    walk_at "r"
    refine isiT_non upd_same ?_
    generalize upd H p (.tup [V.ty "list", .ty "tuple"]) = H1 at *
    walk_at "r"
    refine ⟨rfl, ?_⟩
    rw [decide_eq_true rfl]
    walk_at "r"
    refine ⟨rfl, ?_⟩
    rw [decide_eq_true rfl]
    exact q _ s1
theorem same_br {ss : List Stl} {b g : Nat} {a : Rat} {H : Hp} {v u : V} {Q : VK} {E : XK} (l6 : ss.length ≤ 6) (h1 : IsBR K ss b g a H v) (h2 : IsBR K ss b g a H u) (k : ∀ H', Same H H' → Q (.bl true) H') : sp_same K 3 [v, u] H Q E ∨ sp_sameN [v, u] H Q E := by
  rcases h1 with ⟨n1, rfl⟩ | ⟨p, vf, vr, st, rfl, hp, hf, hr, hb⟩
  · rcases h2 with ⟨_, rfl⟩ | ⟨_, _, _, st, _, _, _, _, hb⟩
    · exact .inr ⟨rfl, k⟩
    · exact absurd hb.mem (n1 st)
  · rcases h2 with ⟨n1, _⟩ | ⟨p', vf', vr', st', rfl, hp', hf', hr', hb'⟩
    · exact absurd hb.mem (n1 st)
    · have e := best_uniq hb hb'
      subst e
      have lt := hb.mem.1.lt
      have lt : st.length ≤ ss.length := lt
      refine .inl ⟨_, _, rfl, .inr ⟨p, p', _, _, rfl, rfl, .inl hp, .inl hp', rfl, by show 2 ≤ 100; decide, fun i x y hx hy => ?_⟩, k⟩
      match i, hx, hy with
      | 0, hx, hy =>
        cases hx
        cases hy
        exact (sm_fr hf hf').up
      | 1, hx, hy =>
        cases hx
        cases hy
        exact sm_rt hr hr' (by omega)
def sp_law (K : PySem.W.Frag) : Sp := fun vs H Q _ => ∃ (a : Addr) (ns : List Int), vs = [.ref a] ∧ SqL K H a (ns.map V.int) ∧ ns.length ≤ 63 ∧ (∀ z ∈ ns, Builtin.Int.intBits z ≤ 1048576) ∧ ∀ H', Q (.bl true) H'
theorem ok_law (T : Txt K mg f_is_integer f_is_row f_is_fraction f_is_some f_lowest f_multiplied f_squared f_lies_below f_is_stall f_is_ware f_check_ware f_check_two f_across f_hold_of f_is_index f_check_some f_is_step f_end_of f_is_walk f_check_route f_rule_behind f_rule_of f_out_by f_route_out f_routes_on f_best_route f_l_is_integer f_l_source f_l_draw f_l_made f_l_plus f_l_times f_l_over f_l_below f_l_some f_l_stall f_l_stalls f_l_piece f_l_pair f_l_same f_l_rule f_l_comes f_l_routes f_l_fair f_l_web f_l_best f_law f_Web_init f_Web_eq c_BadWare c_Web c_NO_STEPS d_is_integer d_is_row d_is_fraction d_is_some d_lowest d_multiplied d_squared d_lies_below d_is_stall d_is_ware d_check_ware d_check_two d_across d_hold_of d_is_index d_check_some d_is_step d_end_of d_is_walk d_check_route d_rule_behind d_rule_of d_out_by d_route_out d_routes_on d_best_route d_l_is_integer d_l_source d_l_draw d_l_made d_l_plus d_l_times d_l_over d_l_below d_l_some d_l_stall d_l_stalls d_l_piece d_l_pair d_l_same d_l_rule d_l_comes d_l_routes d_l_fair d_l_web d_l_best d_law d_Web_init d_Web_eq) : FnOk P w K mg base CX0 17 f_law d_law ["_law_script"] (sp_law K) := by
  have G_l_source : FnOk P w K mg base CX0 1 f_l_source d_l_source ["_law_script", "_law_k"] (sp_source K) := ok_l_source T
  have G_l_draw : FnOk P w K mg base CX0 1 f_l_draw d_l_draw ["_law_source_here", "_law_many"] (sp_draw 1048576) := ok_l_draw (by decide) (by decide) T
  have G_l_fair : FnOk P w K mg base CX0 5 f_l_fair d_l_fair ["_law_source_here"] (sp_lfair K 1048576) := ok_l_fair (by decide) (by decide) T
  have G_l_some : FnOk P w K mg base CX0 2 f_l_some d_l_some ["_law_source_here"] (sp_lsome K 1048576) := ok_l_some (by decide) (by decide) T
  have G_l_web : FnOk P w K mg base CX0 7 f_l_web d_l_web ["_law_stalls_here", "_law_wares"] (sp_lweb K c_Web) := ok_l_web T
  have G_l_pair : FnOk P w K mg base CX0 2 f_l_pair d_l_pair ["_law_source_here", "_law_wares"] (sp_lpair 1048576) := ok_l_pair (by decide) (by decide) T
  have G_l_piece : FnOk P w K mg base CX0 1 f_l_piece d_l_piece ["_law_stalls_here", "_law_wares", "_law_ware"] (sp_lpiece K) := ok_l_piece T
  have G_l_best : FnOk P w K mg base CX0 4 f_l_best d_l_best ["_law_stalls_here", "_law_one", "_law_other", "_law_amount"] (sp_lbest K) := ok_l_best T
  have G_best_route : FnOk P w K mg base CX0 16 f_best_route d_best_route ["web", "one", "other", "amount"] (sp_best_route K c_Web) := ok_best_route T
  have G_route_out : FnOk P w K mg base CX0 7 f_route_out d_route_out ["web", "route", "amount"] (sp_route_out K c_Web) := ok_route_out T
  have G_l_same : FnOk P w K mg base CX0 9 f_l_same d_l_same ["_law_told", "_law_due"] (fun vs H Q E => sp_same K 3 vs H Q E ∨ sp_sameN vs H Q E) := (fn_or61 (ok_same3 T) ((ok_sameN T).mono (by decide))).mono (by decide)
  refine T.F_law.ok sc_law (fun vs H Q E h => ?_) (fun cdv A outer s H vs Q E hr h => ?_)
  · obtain ⟨a, ns, rfl, _⟩ := h
    rfl
  · obtain ⟨a, ns, rfl, hS, hl, hb, q⟩ := h
    refine ⟨_, (pss_cons (ps_for PassesOwn.never rfl (pi_range1 (by rfl) T.z_range (pa_cons pe_int pa_nil)) (pg_name (i := 1) sc_law.nd rfl (by first | exact Or.inl rfl | exact Or.inr rfl))
        (pss_cons (ps_set (i := 2) sc_law.nd rfl (by first | exact Or.inl rfl | exact Or.inr rfl) (pe_call G_l_source (hr.mono (by decide)) (by rfl) T.g_l_source T.k_l_source T.b_l_source .nil pass0 (pa_cons (pv 0) (pa_cons (pv 1) pa_nil))))
          (pss_cons (ps_asg (pe_call G_l_fair (hr.mono (by decide)) (by rfl) T.g_l_fair T.k_l_fair T.b_l_fair .nil pass0 (pa_cons (pv 2) pa_nil)) (pg_lst rfl (pgs_cons (pg_name (i := 3) sc_law.nd rfl (by first | exact Or.inl rfl | exact Or.inr rfl)) (pgs_cons (pg_name (i := 4) sc_law.nd rfl (by first | exact Or.inl rfl | exact Or.inr rfl)) pgs_nil))))
          (pss_cons (ps_set (i := 4) sc_law.nd rfl (by first | exact Or.inl rfl | exact Or.inr rfl) (pe_callB (call_max2 rfl) (by rfl) T.z_max (by decide +kernel) (pa_cons pe_int (pa_cons (pv 4) pa_nil))))
          (pss_cons (ps_set (i := 3) sc_law.nd rfl (by first | exact Or.inl rfl | exact Or.inr rfl) (My.pe_cut (pe_ifExp (pt_cmpR op_eq (pe_call G_l_draw (hr.mono (by decide)) (by rfl) T.g_l_draw T.k_l_draw T.b_l_draw .nil pass0 (pa_cons (pv 2) (pa_cons pe_int pa_nil))) pe_int (nomark _)) (pe_slice sl_list (pv 3) po_none (po_some pe_int)) (pe_slice sl_list (pv 3) po_none (po_some pe_int)))))
          (pss_cons (ps_set (i := 5) sc_law.nd rfl (by first | exact Or.inl rfl | exact Or.inr rfl) (pe_call G_l_web (hr.mono (by decide)) (by rfl) T.g_l_web T.k_l_web T.b_l_web .nil pass0 (pa_cons (pv 3) (pa_cons (pv 4) pa_nil))))
          (pss_one (ps_for PassesOwn.never rfl (pi_range1 (by rfl) T.z_range (pa_cons (My.pe_cut (pe_ifExp (pt_cmpR op_lt (pe_callB call_lenN (by rfl) T.z_len (by decide +kernel) (pa_cons (pv 3) pa_nil)) pe_int (nomark _)) pe_int pe_int)) pa_nil)) (pg_name (i := 6) sc_law.nd rfl (by first | exact Or.inl rfl | exact Or.inr rfl))
            (pss_cons (ps_asg (pe_call G_l_pair (hr.mono (by decide)) (by rfl) T.g_l_pair T.k_l_pair T.b_l_pair .nil pass0 (pa_cons (pv 2) (pa_cons (pv 4) pa_nil))) (pg_tup rfl (pgs_cons (pg_name (i := 7) sc_law.nd rfl (by first | exact Or.inl rfl | exact Or.inr rfl)) (pgs_cons (pg_name (i := 8) sc_law.nd rfl (by first | exact Or.inl rfl | exact Or.inr rfl)) pgs_nil))))
              (pss_cons (ps_set (i := 9) sc_law.nd rfl (by first | exact Or.inl rfl | exact Or.inr rfl) (pe_call G_l_some (hr.mono (by decide)) (by rfl) T.g_l_some T.k_l_some T.b_l_some .nil pass0 (pa_cons (pv 2) pa_nil)))
              (pss_cons (ps_set (i := 10) sc_law.nd rfl (by first | exact Or.inl rfl | exact Or.inr rfl) (pe_call G_l_best (hr.mono (by decide)) (by rfl) T.g_l_best T.k_l_best T.b_l_best .nil pass0 (pa_cons (pv 3) (pa_cons (pv 7) (pa_cons (pv 8) (pa_cons (pv 9) pa_nil))))))
              (pss_cons (ps_set (i := 11) sc_law.nd rfl (by first | exact Or.inl rfl | exact Or.inr rfl) (pe_call G_best_route (hr.mono (by decide)) (by rfl) T.g_best_route T.k_best_route T.b_best_route .nil pass0 (pa_cons (pv 5) (pa_cons (pv 7) (pa_cons (pv 8) (pa_cons (pv 9) pa_nil))))))
              (pss_cons (ps_if (PW.pt (pw_or (pt_not (pt_val (pe_call G_l_same (hr.mono (by decide)) (by rfl) T.g_l_same T.k_l_same T.b_l_same .nil pass0 (pa_cons (pv 11) (pa_cons (pv 10) pa_nil))))) (pw_or1 (pt_cmpR (op_neD hr.units) (pe_call G_best_route (hr.mono (by decide)) (by rfl) T.g_best_route T.k_best_route T.b_best_route .nil pass0 (pa_cons (pv 5) (pa_cons (pv 7) (pa_cons (pv 8) (pa_cons (pv 9) pa_nil))))) (pv 10) (nomark _)))))
                (pss_one (ps_ret pe_bl))
                pss_nil)
              (pss_cons (ps_if (pt_cmpR op_ne (pe_cmpR op_isN (pv 11) pe_non (nomark _)) (pe_cmpR op_notIn_seq (pv 8) (pe_call G_l_piece (hr.mono (by decide)) (by rfl) T.g_l_piece T.k_l_piece T.b_l_piece .nil pass0 (pa_cons (pv 3) (pa_cons (pv 4) (pa_cons (pv 7) pa_nil)))) (by rfl)) (nomark _))
                (pss_one (ps_ret pe_bl))
                pss_nil)
              (pss_one (ps_if (PW.pt (pw_and (pt_cmpR op_notN (pv 11) pe_non (nomark _)) (pw_and1 (pt_cmpR (op_neD hr.units) (pe_call G_route_out (hr.mono (by decide)) (by rfl) T.g_route_out T.k_route_out T.b_route_out .nil pass0 (pa_cons (pv 5) (pa_cons (pe_ix ix_tup (pv 11) pe_int (fun _ _ => rfl)) (pa_cons (pv 9) pa_nil)))) (pe_ix ix_tup (pv 11) pe_int (fun _ _ => rfl)) (nomark _)))))
                (pss_one (ps_ret pe_bl))
                pss_nil))))))))))))))))
      (pss_one (ps_ret pe_bl))), ?_⟩
    walk_at "r"
    refine ⟨by decide, by decide, ?_⟩
    refine for_range (lo := 0) (n := 2) (fun i σ H' => ∃ t1 t2 t3 t4 t5 t6 t7 t8 t9 t10 t11 : Option V, σ = [some (.ref a), t1, t2, t3, t4, t5, t6, t7, t8, t9, t10, t11] ∧ SqL K H' a (ns.map V.int)) ?_ ?_ ?_
    · exact ⟨_, _, _, _, _, _, _, _, _, _, _, rfl, hS⟩
    · rintro i σ H0 hi ⟨t1, t2, t3, t4, t5, t6, t7, t8, t9, t10, t11, rfl, hS0⟩
      walk_at "r"
      refine ⟨a, ns, i, ?_, hS0, hl, hb, by omega, fun H1 D s1 n0 k1 => ?_⟩
      · rw [show (0 + (i : Nat) : Int) = (i : Nat) by omega]
        rfl
      walk_at "r"
      refine ⟨D, 0, rfl, k1, by decide, fun H2 L0 S0 n' xs0 ss0 w2 k2 hL0 nSD hSs hst l16 hok n1 n8 => ?_⟩
      have sm2 := same_fw n0 s1 w2
      walk_at "r"
      refine ⟨L0, _, rfl, .of hL0, rfl, ?_⟩
      walk_at "r"
      refine ⟨_, _, rfl, ?_⟩
      obtain ⟨n, en, n2, n8', nn⟩ : ∃ n : Nat, (if ((n' : Nat) : Int) > 2 then ((n' : Nat) : Int) else 2) = (n : Nat) ∧ 2 ≤ n ∧ n ≤ 8 ∧ n' ≤ n := by
        by_cases c : ((n' : Nat) : Int) > 2
        · exact ⟨n', if_pos c, by omega, by omega, Nat.le_refl _⟩
        · exact ⟨2, if_neg c, by omega, by omega, by omega⟩
      rw [en]
      walk_at "r"
      refine ⟨fun x H' => ∃ (S : Addr) (xs : List V) (ss : List Stl), x = .ref S ∧ Same H0 H' ∧ Src 1048576 D H' 300 ∧ S ≠ D ∧ H' S = some (.lst xs) ∧ Sts K H' xs ss ∧ ss.length ≤ 6 ∧ (∀ s ∈ ss, OkSt n s ∧ BdSt 20 s), ?_, ?_⟩
      · walk_at "r"
        refine ⟨_, _, _, rfl, ⟨by decide, by decide⟩, k2, by omega, fun H3 r3 w3 k3 a3 b3 => ?_⟩
        have sm3 := same_fw n0 sm2 w3
        have hS3 := w3 _ _ nSD hSs
        have st3 := hst.ts (k2.tps w3)
        walk_at "r"
        walk_at "if"
        · walk_at "r"
          refine rd_slL (.of hS3) fun S nS => ?_
          rw [show cutV xs0 none (some 6) = xs0.take 6 from cut_take xs0 6]
          have s4 := same_upd (o := .lst (xs0.take 6)) nS
          exact ⟨S, xs0.take 6, ss0.take 6, rfl, sm3.trans s4, (k3.same s4).mono (by omega), k3.ne nS, upd_same, Paired.take (st3.same s4) 6, by rw [List.length_take]; omega, fun s hs => ⟨ok_more (hok s (List.mem_of_mem_take hs)).1 nn, (hok s (List.mem_of_mem_take hs)).2.1⟩⟩
        · walk_at "r"
          refine rd_slL (.of hS3) fun S nS => ?_
          rw [show cutV xs0 none (some 4) = xs0.take 4 from cut_take xs0 4]
          have s4 := same_upd (o := .lst (xs0.take 4)) nS
          exact ⟨S, xs0.take 4, ss0.take 4, rfl, sm3.trans s4, (k3.same s4).mono (by omega), k3.ne nS, upd_same, Paired.take (st3.same s4) 4, by rw [List.length_take]; omega, fun s hs => ⟨ok_more (hok s (List.mem_of_mem_take hs)).1 nn, (hok s (List.mem_of_mem_take hs)).2.1⟩⟩
      clear hL0 w2 k1 hSs hst k2 sm2 s1 nSD hok n1 l16
      rintro x H3 ⟨S, xs, ss, rfl, sm3, k3, SD, hS3, st3, l6, hok⟩
      have hok1 : ∀ s ∈ ss, OkSt n s := fun s hs => (hok s hs).1
      walk_at "r"
      refine ⟨S, n, xs, ss, rfl, hS3, st3, by omega, by omega, by omega, fun s hs => ⟨(hok s hs).1, (hok s hs).2.mono (by decide)⟩, fun H4 wv s4 hweb => ?_⟩
      obtain ⟨w7, dx7, tw7, xw7, rfl, hw7, _⟩ := id hweb
      have g : G67 K c_Web D H0 S w7 n 300 xs ss H4 := ⟨k3.same s4, sm3.trans s4, hweb, s4 _ _ hS3, st3.same s4⟩
      clear hw7 hweb k3 sm3 hS3 st3 s4
      have fS4 := g.fS
      walk_at "r"
      refine ⟨fun x H' => ∃ N : Nat, x = .int (N : Nat) ∧ N ≤ 2 ∧ H' = H4, ?_, ?_⟩
      · walk_at "r"
        by_cases c : ((xs.length : Nat) : Int) < 5
        · walk_at "r"
          exact ⟨by decide, rfl⟩
        · walk_at "r"
          exact ⟨by decide, rfl⟩
      rintro x H' ⟨N, rfl, hN, rfl⟩
      clear fS4
      walk_at "r"
      refine ⟨by omega, by omega, ?_⟩
      refine for_range (lo := 0) (n := N) (fun j σ H' => ∃ t6 t7 t8 t9 t10 t11 : Option V, σ = [some (.ref a), some (.int (0 + (i : Nat))), some (.ref D), some (.ref S), some (.int (n : Nat)), some (.ref w7), t6, t7, t8, t9, t10, t11] ∧ G67 K c_Web D H0 S w7 n (300 + 20 * j) xs ss H') ?_ ?_ ?_
      · exact ⟨_, _, _, _, _, _, rfl, g⟩
      · rintro j σ H5 hj ⟨t6, t7, t8, t9, t10, t11, rfl, g⟩
        walk_at "r"
        refine ⟨D, _, n, rfl, g.dk, by omega, n2, n8', fun H6 p6 u v w6 k6 h6 hu hv huv => ?_⟩
        have g := g.fw n0 SD w6 k6
        clear w6 k6
        walk_at "r"
        refine ⟨D, _, rfl, g.dk, by omega, fun H7 va am w7' k7 ia ba a0 => ?_⟩
        have g := g.fw n0 SD w7' k7
        clear w7' k7
        have ba : Bd 1500 am := ba.mono (by decide)
        walk_at "r"
        refine ⟨S, va, u, v, n, xs, ss, am, rfl, g.fS, g.st, l6, hok, ia, a0, ba, fun H8 vd s8 br => ?_⟩
        have g := g.same s8
        have ia := ia.same s8
        clear s8
        walk_at "r"
        refine ⟨.ref w7, va, u, v, n, ss, am, rfl, g.web, hu, hv, huv, l6, hok, ia, a0, ba, fun H9 vt s9 bt => ?_⟩
        have g := g.same s9
        have ia := ia.same s9
        have br := br.same s9
        clear s9
        walk_at "r"
        refine same_br l6 bt br fun Ha sa => ?_
        have g := g.same sa
        have ia := ia.same sa
        have br := br.same sa
        have bt := bt.same sa
        clear sa
        walk_at "r"
        refine ⟨.ref w7, va, u, v, n, ss, am, rfl, g.web, hu, hv, huv, l6, hok, ia, a0, ba, fun Hb vt2 sb bt2 => ?_⟩
        have g := g.same sb
        have ia := ia.same sb
        have br := br.same sb
        have bt := bt.same sb
        clear sb
        walk_at "r"
        refine neBR bt2 br ?_
        clear bt2 br
        walk_at "r"
        rcases bt with ⟨none, rfl⟩ | ⟨pt, vf, vr, st, rfl, hpt, ivf, irt, best⟩
        · refine ⟨rfl, ?_⟩
          rw [decide_eq_true rfl]
          walk_at "r"
          refine ⟨S, n, u, xs, ss, rfl, g.fS, g.st, by omega, n8', hu, hok1, fun Hc F f sc hF hf => ?_⟩
          have g := g.same sc
          have nf : ¬ v ∈ f := fun z => by
            obtain ⟨st, h⟩ := (hf v huv.symm).mp z
            exact none st h
          walk_at "r"
          refine ⟨_, _, rfl, .inl (.of hF), rfl, flat_ints _, ?_⟩
          rw [in_ints, decide_eq_false nf, show (if true = true then !false else false) = true from rfl]
          walk_at "r"
          refine ⟨rfl, ?_⟩
          rw [decide_eq_true rfl]
          walk_at "r"
          exact ⟨_, _, _, _, _, _, rfl, g.mono (by omega)⟩
        · have hmem := best.mem
          obtain ⟨rte, ebeg, eend⟩ := hmem.1.fin hmem.2
          refine ⟨rfl, ?_⟩
          rw [decide_eq_false (fun z => by cases z)]
          walk_at "r"
          refine ⟨S, n, u, xs, ss, rfl, g.fS, g.st, by omega, n8', hu, hok1, fun Hc F f sc hF hf => ?_⟩
          have g := g.same sc
          have ia := ia.same sc
          have hpt := sc _ _ hpt
          have ivf := ivf.same sc
          have irt := irt.same sc
          clear sc
          have nf : v ∈ f := (hf v huv.symm).mpr ⟨st, hmem⟩
          walk_at "r"
          refine ⟨_, _, rfl, .inl (.of hF), rfl, flat_ints _, ?_⟩
          rw [in_ints, decide_eq_true nf, show (if true = true then !true else true) = false from rfl]
          walk_at "r"
          refine ⟨rfl, ?_⟩
          rw [decide_eq_false (fun z => by cases z)]
          walk_at "r"
          refine ⟨.ref w7, vr, va, n, ss, st, am, rfl, g.web, irt, rte, by omega, hok, ia, a0, ba, fun Hd vo sd io => ?_⟩
          have g := g.same sd
          have hpt := sd _ _ hpt
          have ivf := ivf.same sd
          walk_at "r"
          refine neF (K := K) io ivf ?_
          rw [decide_eq_true rfl]
          walk_at "r"
          exact ⟨_, _, _, _, _, _, rfl, g.mono (by omega)⟩
      · rintro σ H5 ⟨t6, t7, t8, t9, t10, t11, rfl, g⟩
        walk_at "r"
        exact ⟨_, _, _, _, _, _, _, _, _, _, _, rfl, g.sm.seq hS0⟩
    · rintro σ H' ⟨t1, t2, t3, t4, t5, t6, t7, t8, t9, t10, t11, rfl, _⟩
      walk_at "r"
      exact q _
theorem ok_all (T : Txt K mg f_is_integer f_is_row f_is_fraction f_is_some f_lowest f_multiplied f_squared f_lies_below f_is_stall f_is_ware f_check_ware f_check_two f_across f_hold_of f_is_index f_check_some f_is_step f_end_of f_is_walk f_check_route f_rule_behind f_rule_of f_out_by f_route_out f_routes_on f_best_route f_l_is_integer f_l_source f_l_draw f_l_made f_l_plus f_l_times f_l_over f_l_below f_l_some f_l_stall f_l_stalls f_l_piece f_l_pair f_l_same f_l_rule f_l_comes f_l_routes f_l_fair f_l_web f_l_best f_law f_Web_init f_Web_eq c_BadWare c_Web c_NO_STEPS d_is_integer d_is_row d_is_fraction d_is_some d_lowest d_multiplied d_squared d_lies_below d_is_stall d_is_ware d_check_ware d_check_two d_across d_hold_of d_is_index d_check_some d_is_step d_end_of d_is_walk d_check_route d_rule_behind d_rule_of d_out_by d_route_out d_routes_on d_best_route d_l_is_integer d_l_source d_l_draw d_l_made d_l_plus d_l_times d_l_over d_l_below d_l_some d_l_stall d_l_stalls d_l_piece d_l_pair d_l_same d_l_rule d_l_comes d_l_routes d_l_fair d_l_web d_l_best d_law d_Web_init d_Web_eq) : FnOk P w K mg base CX0 17 f_law d_law ["_law_script"] (sp_law K) := ok_law T
end
end My
namespace My
open PySem PySem.Spec PyProof.Rows L2
theorem all_mk {l : PySem.W.OpenLaw} {w : World} {K : PySem.W.Frag} {h : Heap} {mg : Str → Option Value} {fa : Addr} (X : K.In h) (G : h.Ns mainGlobals mg) (hfa : mg "law" = some (.ref fa))
    {c_BadWare : Addr}
    {c_Web : Addr}
    {c_NO_STEPS : Addr} {dd_NO_STEPS : Option Addr} {its_NO_STEPS : Array Value} {n_NO_STEPS : Nat} {sl_NO_STEPS : Array (Option Value)}
    {tk_MOST_STALLS : Tok}
    {tk_MOST_WARES : Tok}
    {od0 an0 : Option Addr} {sl0 : Array (Option Value)} {oc0 kV0 dc0 pm0 cd0 ct0 : Value} {f_is_integer : Addr}
    {od1 an1 : Option Addr} {sl1 : Array (Option Value)} {oc1 kV1 dc1 pm1 cd1 ct1 : Value} {f_is_row : Addr}
    {od2 an2 : Option Addr} {sl2 : Array (Option Value)} {oc2 kV2 dc2 pm2 cd2 ct2 : Value} {f_is_fraction : Addr}
    {od3 an3 : Option Addr} {sl3 : Array (Option Value)} {oc3 kV3 dc3 pm3 cd3 ct3 : Value} {f_is_some : Addr}
    {od4 an4 : Option Addr} {sl4 : Array (Option Value)} {oc4 kV4 dc4 pm4 cd4 ct4 : Value} {f_lowest : Addr}
    {od5 an5 : Option Addr} {sl5 : Array (Option Value)} {oc5 kV5 dc5 pm5 cd5 ct5 : Value} {f_multiplied : Addr}
    {od6 an6 : Option Addr} {sl6 : Array (Option Value)} {oc6 kV6 dc6 pm6 cd6 ct6 : Value} {f_squared : Addr}
    {od7 an7 : Option Addr} {sl7 : Array (Option Value)} {oc7 kV7 dc7 pm7 cd7 ct7 : Value} {f_lies_below : Addr}
    {od8 an8 : Option Addr} {sl8 : Array (Option Value)} {oc8 kV8 dc8 pm8 cd8 ct8 : Value} {f_is_stall : Addr}
    {od9 an9 : Option Addr} {sl9 : Array (Option Value)} {oc9 kV9 dc9 pm9 cd9 ct9 : Value} {f_is_ware : Addr}
    {od10 an10 : Option Addr} {sl10 : Array (Option Value)} {oc10 kV10 dc10 pm10 cd10 ct10 : Value} {f_check_ware : Addr}
    {od11 an11 : Option Addr} {sl11 : Array (Option Value)} {oc11 kV11 dc11 pm11 cd11 ct11 : Value} {f_check_two : Addr}
    {od12 an12 : Option Addr} {sl12 : Array (Option Value)} {oc12 kV12 dc12 pm12 cd12 ct12 : Value} {f_across : Addr}
    {od13 an13 : Option Addr} {sl13 : Array (Option Value)} {oc13 kV13 dc13 pm13 cd13 ct13 : Value} {f_hold_of : Addr}
    {od14 an14 : Option Addr} {sl14 : Array (Option Value)} {oc14 kV14 dc14 pm14 cd14 ct14 : Value} {f_is_index : Addr}
    {od15 an15 : Option Addr} {sl15 : Array (Option Value)} {oc15 kV15 dc15 pm15 cd15 ct15 : Value} {f_check_some : Addr}
    {od16 an16 : Option Addr} {sl16 : Array (Option Value)} {oc16 kV16 dc16 pm16 cd16 ct16 : Value} {f_is_step : Addr}
    {od17 an17 : Option Addr} {sl17 : Array (Option Value)} {oc17 kV17 dc17 pm17 cd17 ct17 : Value} {f_end_of : Addr}
    {od18 an18 : Option Addr} {sl18 : Array (Option Value)} {oc18 kV18 dc18 pm18 cd18 ct18 : Value} {f_is_walk : Addr}
    {od19 an19 : Option Addr} {sl19 : Array (Option Value)} {oc19 kV19 dc19 pm19 cd19 ct19 : Value} {f_check_route : Addr}
    {od20 an20 : Option Addr} {sl20 : Array (Option Value)} {oc20 kV20 dc20 pm20 cd20 ct20 : Value} {f_rule_behind : Addr}
    {od21 an21 : Option Addr} {sl21 : Array (Option Value)} {oc21 kV21 dc21 pm21 cd21 ct21 : Value} {f_rule_of : Addr}
    {od22 an22 : Option Addr} {sl22 : Array (Option Value)} {oc22 kV22 dc22 pm22 cd22 ct22 : Value} {f_out_by : Addr}
    {od23 an23 : Option Addr} {sl23 : Array (Option Value)} {oc23 kV23 dc23 pm23 cd23 ct23 : Value} {f_route_out : Addr}
    {od24 an24 : Option Addr} {sl24 : Array (Option Value)} {oc24 kV24 dc24 pm24 cd24 ct24 : Value} {f_routes_on : Addr}
    {od25 an25 : Option Addr} {sl25 : Array (Option Value)} {oc25 kV25 dc25 pm25 cd25 ct25 : Value} {f_best_route : Addr}
    {od26 an26 : Option Addr} {sl26 : Array (Option Value)} {oc26 kV26 dc26 pm26 cd26 ct26 : Value} {f_l_is_integer : Addr}
    {od27 an27 : Option Addr} {sl27 : Array (Option Value)} {oc27 kV27 dc27 pm27 cd27 ct27 : Value} {f_l_source : Addr}
    {od28 an28 : Option Addr} {sl28 : Array (Option Value)} {oc28 kV28 dc28 pm28 cd28 ct28 : Value} {f_l_draw : Addr}
    {od29 an29 : Option Addr} {sl29 : Array (Option Value)} {oc29 kV29 dc29 pm29 cd29 ct29 : Value} {f_l_made : Addr}
    {od30 an30 : Option Addr} {sl30 : Array (Option Value)} {oc30 kV30 dc30 pm30 cd30 ct30 : Value} {f_l_plus : Addr}
    {od31 an31 : Option Addr} {sl31 : Array (Option Value)} {oc31 kV31 dc31 pm31 cd31 ct31 : Value} {f_l_times : Addr}
    {od32 an32 : Option Addr} {sl32 : Array (Option Value)} {oc32 kV32 dc32 pm32 cd32 ct32 : Value} {f_l_over : Addr}
    {od33 an33 : Option Addr} {sl33 : Array (Option Value)} {oc33 kV33 dc33 pm33 cd33 ct33 : Value} {f_l_below : Addr}
    {od34 an34 : Option Addr} {sl34 : Array (Option Value)} {oc34 kV34 dc34 pm34 cd34 ct34 : Value} {f_l_some : Addr}
    {od35 an35 : Option Addr} {sl35 : Array (Option Value)} {oc35 kV35 dc35 pm35 cd35 ct35 : Value} {f_l_stall : Addr}
    {od36 an36 : Option Addr} {sl36 : Array (Option Value)} {oc36 kV36 dc36 pm36 cd36 ct36 : Value} {f_l_stalls : Addr}
    {od37 an37 : Option Addr} {sl37 : Array (Option Value)} {oc37 kV37 dc37 pm37 cd37 ct37 : Value} {f_l_piece : Addr}
    {od38 an38 : Option Addr} {sl38 : Array (Option Value)} {oc38 kV38 dc38 pm38 cd38 ct38 : Value} {f_l_pair : Addr}
    {od39 an39 : Option Addr} {sl39 : Array (Option Value)} {oc39 kV39 dc39 pm39 cd39 ct39 : Value} {f_l_same : Addr}
    {od40 an40 : Option Addr} {sl40 : Array (Option Value)} {oc40 kV40 dc40 pm40 cd40 ct40 : Value} {f_l_rule : Addr}
    {od41 an41 : Option Addr} {sl41 : Array (Option Value)} {oc41 kV41 dc41 pm41 cd41 ct41 : Value} {f_l_comes : Addr}
    {od42 an42 : Option Addr} {sl42 : Array (Option Value)} {oc42 kV42 dc42 pm42 cd42 ct42 : Value} {f_l_routes : Addr}
    {od43 an43 : Option Addr} {sl43 : Array (Option Value)} {oc43 kV43 dc43 pm43 cd43 ct43 : Value} {f_l_fair : Addr}
    {od44 an44 : Option Addr} {sl44 : Array (Option Value)} {oc44 kV44 dc44 pm44 cd44 ct44 : Value} {f_l_web : Addr}
    {od45 an45 : Option Addr} {sl45 : Array (Option Value)} {oc45 kV45 dc45 pm45 cd45 ct45 : Value} {f_l_best : Addr}
    {od46 an46 : Option Addr} {sl46 : Array (Option Value)} {oc46 kV46 dc46 pm46 cd46 ct46 : Value} {f_law : Addr}
    {od47 an47 : Option Addr} {sl47 : Array (Option Value)} {oc47 kV47 dc47 pm47 cd47 ct47 : Value} {f_Web_init : Addr}
    {od48 an48 : Option Addr} {sl48 : Array (Option Value)} {oc48 kV48 dc48 pm48 cd48 ct48 : Value} {f_Web_eq : Addr}
    (z_abs : PySem.W.nsIn K mainGlobals "abs" = some none)
    (z_all : PySem.W.nsIn K mainGlobals "all" = some none)
    (z_bool : PySem.W.nsIn K mainGlobals "bool" = some none)
    (z_enumerate : PySem.W.nsIn K mainGlobals "enumerate" = some none)
    (z_int : PySem.W.nsIn K mainGlobals "int" = some none)
    (z_isinstance : PySem.W.nsIn K mainGlobals "isinstance" = some none)
    (z_len : PySem.W.nsIn K mainGlobals "len" = some none)
    (z_list : PySem.W.nsIn K mainGlobals "list" = some none)
    (z_max : PySem.W.nsIn K mainGlobals "max" = some none)
    (z_range : PySem.W.nsIn K mainGlobals "range" = some none)
    (z_set : PySem.W.nsIn K mainGlobals "set" = some none)
    (z_str : PySem.W.nsIn K mainGlobals "str" = some none)
    (z_tuple : PySem.W.nsIn K mainGlobals "tuple" = some none)
    (z_zip : PySem.W.nsIn K mainGlobals "zip" = some none)
    (m_gcd : PySem.W.nsIn K mainGlobals "gcd" = some (some (.builtin "math.gcd")))
    (a_BadWare : PySem.W.nsIn K mainGlobals "BadWare" = some (some (.ref c_BadWare)))
    (ex_BadWare : PySem.W.excIn K c_BadWare veChain "ValueError.__new__" = true)
    (kp_BadWare : PySem.W.keepIn K (.ref c_BadWare) = true)
    (be_BadWare : PySem.W.subIn K (.ref c_BadWare) (.type "BaseException") = some true)
    (ty_BadWare : PySem.W.typeIn K (.ref c_BadWare) = some (.type "type"))
    (ic_BadWare : PySem.W.isClsIn K c_BadWare = true)
    (sf_BadWare : PySem.W.subIn K (.ref c_BadWare) (.ref c_BadWare) = some true)
    (a_Web : PySem.W.nsIn K mainGlobals "Web" = some (some (.ref c_Web)))
    (mk_Web : PySem.W.makesIn K c_Web = true)
    (in_Web : PySem.W.findIn K (.ref c_Web) "__init__" = some (some (.ref f_Web_init)))
    (fn_Web : PySem.W.isFn K (.ref f_Web_init) = true)
    (kp_Web : PySem.W.keepIn K (.ref c_Web) = true)
    (pg_Web : PySem.W.plainGet K c_Web Str.empty = true)
    (hd_Web : PySem.W.hasDictIn K c_Web = true)
    (po_Web : PySem.W.plainOver K c_Web = true)
    (sa_Web : PySem.W.findIn K (.ref c_Web) "__setattr__" = some (some (.builtin "object.__setattr__")))
    (ha_Web : PySem.W.findIn K (.ref c_Web) "__class__" = some (some (.builtin "object.__class__")))
    (hn_Web : PySem.W.specialIn K (.builtin "object.__class__") "__get__" = some (some (.builtin "getset_descriptor.__get__")))
    (ht_Web : PySem.W.takesIn K (.builtin "object.__class__") = some true)
    (mo_Web : PySem.W.mroIn K c_Web (.type "object") = some true)
    (i_int_Web : PySem.W.kitOne K (.ref c_Web) (.type "int") = some false)
    (i_bool_Web : PySem.W.kitOne K (.ref c_Web) (.type "bool") = some false)
    (i_tuple_Web : PySem.W.kitOne K (.ref c_Web) (.type "tuple") = some false)
    (i_list_Web : PySem.W.kitOne K (.ref c_Web) (.type "list") = some false)
    (na_Web_wares : PySem.W.findIn K (.ref c_Web) "wares" = some none)
    (na_Web_stalls : PySem.W.findIn K (.ref c_Web) "stalls" = some none)
    (v_NO_STEPS : PySem.W.nsIn K mainGlobals "NO_STEPS" = some (some (.ref c_NO_STEPS)))
    (o_NO_STEPS : K.lookup c_NO_STEPS = some ⟨.type "tuple", dd_NO_STEPS, .seq its_NO_STEPS n_NO_STEPS, sl_NO_STEPS⟩)
    (tv_NO_STEPS : Vals [V.int 1, V.int 1, V.int 0] its_NO_STEPS.toList ∧ its_NO_STEPS.size ≤ sizeLine)
    (v_MOST_STALLS : PySem.W.nsIn K mainGlobals "MOST_STALLS" = some (some (.int 16 tk_MOST_STALLS)))
    (v_MOST_WARES : PySem.W.nsIn K mainGlobals "MOST_WARES" = some (some (.int 8 tk_MOST_WARES)))
    (a_is_integer : PySem.W.nsIn K mainGlobals "is_integer" = some (some (.ref f_is_integer)))
    (l_is_integer : K.lookup f_is_integer = some ⟨oc0, od0, .func (PySem.W.fnOf "is_integer" "is_integer" (defArgs s_is_integer) (defBody s_is_integer) (defScope s_is_integer) .none kV0 dc0 pm0 an0 cd0 ct0), sl0⟩)
    (c_is_integer : PySem.W.codeIn K cd0 "is_integer" = true)
    (k_is_integer : PySem.W.keepIn K (.ref f_is_integer) = true)
    (a_is_row : PySem.W.nsIn K mainGlobals "is_row" = some (some (.ref f_is_row)))
    (l_is_row : K.lookup f_is_row = some ⟨oc1, od1, .func (PySem.W.fnOf "is_row" "is_row" (defArgs s_is_row) (defBody s_is_row) (defScope s_is_row) .none kV1 dc1 pm1 an1 cd1 ct1), sl1⟩)
    (c_is_row : PySem.W.codeIn K cd1 "is_row" = true)
    (k_is_row : PySem.W.keepIn K (.ref f_is_row) = true)
    (a_is_fraction : PySem.W.nsIn K mainGlobals "is_fraction" = some (some (.ref f_is_fraction)))
    (l_is_fraction : K.lookup f_is_fraction = some ⟨oc2, od2, .func (PySem.W.fnOf "is_fraction" "is_fraction" (defArgs s_is_fraction) (defBody s_is_fraction) (defScope s_is_fraction) .none kV2 dc2 pm2 an2 cd2 ct2), sl2⟩)
    (c_is_fraction : PySem.W.codeIn K cd2 "is_fraction" = true)
    (k_is_fraction : PySem.W.keepIn K (.ref f_is_fraction) = true)
    (a_is_some : PySem.W.nsIn K mainGlobals "is_some" = some (some (.ref f_is_some)))
    (l_is_some : K.lookup f_is_some = some ⟨oc3, od3, .func (PySem.W.fnOf "is_some" "is_some" (defArgs s_is_some) (defBody s_is_some) (defScope s_is_some) .none kV3 dc3 pm3 an3 cd3 ct3), sl3⟩)
    (c_is_some : PySem.W.codeIn K cd3 "is_some" = true)
    (k_is_some : PySem.W.keepIn K (.ref f_is_some) = true)
    (a_lowest : PySem.W.nsIn K mainGlobals "lowest" = some (some (.ref f_lowest)))
    (l_lowest : K.lookup f_lowest = some ⟨oc4, od4, .func (PySem.W.fnOf "lowest" "lowest" (defArgs s_lowest) (defBody s_lowest) (defScope s_lowest) .none kV4 dc4 pm4 an4 cd4 ct4), sl4⟩)
    (c_lowest : PySem.W.codeIn K cd4 "lowest" = true)
    (k_lowest : PySem.W.keepIn K (.ref f_lowest) = true)
    (a_multiplied : PySem.W.nsIn K mainGlobals "multiplied" = some (some (.ref f_multiplied)))
    (l_multiplied : K.lookup f_multiplied = some ⟨oc5, od5, .func (PySem.W.fnOf "multiplied" "multiplied" (defArgs s_multiplied) (defBody s_multiplied) (defScope s_multiplied) .none kV5 dc5 pm5 an5 cd5 ct5), sl5⟩)
    (c_multiplied : PySem.W.codeIn K cd5 "multiplied" = true)
    (k_multiplied : PySem.W.keepIn K (.ref f_multiplied) = true)
    (a_squared : PySem.W.nsIn K mainGlobals "squared" = some (some (.ref f_squared)))
    (l_squared : K.lookup f_squared = some ⟨oc6, od6, .func (PySem.W.fnOf "squared" "squared" (defArgs s_squared) (defBody s_squared) (defScope s_squared) .none kV6 dc6 pm6 an6 cd6 ct6), sl6⟩)
    (c_squared : PySem.W.codeIn K cd6 "squared" = true)
    (k_squared : PySem.W.keepIn K (.ref f_squared) = true)
    (a_lies_below : PySem.W.nsIn K mainGlobals "lies_below" = some (some (.ref f_lies_below)))
    (l_lies_below : K.lookup f_lies_below = some ⟨oc7, od7, .func (PySem.W.fnOf "lies_below" "lies_below" (defArgs s_lies_below) (defBody s_lies_below) (defScope s_lies_below) .none kV7 dc7 pm7 an7 cd7 ct7), sl7⟩)
    (c_lies_below : PySem.W.codeIn K cd7 "lies_below" = true)
    (k_lies_below : PySem.W.keepIn K (.ref f_lies_below) = true)
    (a_is_stall : PySem.W.nsIn K mainGlobals "is_stall" = some (some (.ref f_is_stall)))
    (l_is_stall : K.lookup f_is_stall = some ⟨oc8, od8, .func (PySem.W.fnOf "is_stall" "is_stall" (defArgs s_is_stall) (defBody s_is_stall) (defScope s_is_stall) .none kV8 dc8 pm8 an8 cd8 ct8), sl8⟩)
    (c_is_stall : PySem.W.codeIn K cd8 "is_stall" = true)
    (k_is_stall : PySem.W.keepIn K (.ref f_is_stall) = true)
    (a_is_ware : PySem.W.nsIn K mainGlobals "is_ware" = some (some (.ref f_is_ware)))
    (l_is_ware : K.lookup f_is_ware = some ⟨oc9, od9, .func (PySem.W.fnOf "is_ware" "is_ware" (defArgs s_is_ware) (defBody s_is_ware) (defScope s_is_ware) .none kV9 dc9 pm9 an9 cd9 ct9), sl9⟩)
    (c_is_ware : PySem.W.codeIn K cd9 "is_ware" = true)
    (k_is_ware : PySem.W.keepIn K (.ref f_is_ware) = true)
    (a_check_ware : PySem.W.nsIn K mainGlobals "check_ware" = some (some (.ref f_check_ware)))
    (l_check_ware : K.lookup f_check_ware = some ⟨oc10, od10, .func (PySem.W.fnOf "check_ware" "check_ware" (defArgs s_check_ware) (defBody s_check_ware) (defScope s_check_ware) .none kV10 dc10 pm10 an10 cd10 ct10), sl10⟩)
    (c_check_ware : PySem.W.codeIn K cd10 "check_ware" = true)
    (k_check_ware : PySem.W.keepIn K (.ref f_check_ware) = true)
    (a_check_two : PySem.W.nsIn K mainGlobals "check_two" = some (some (.ref f_check_two)))
    (l_check_two : K.lookup f_check_two = some ⟨oc11, od11, .func (PySem.W.fnOf "check_two" "check_two" (defArgs s_check_two) (defBody s_check_two) (defScope s_check_two) .none kV11 dc11 pm11 an11 cd11 ct11), sl11⟩)
    (c_check_two : PySem.W.codeIn K cd11 "check_two" = true)
    (k_check_two : PySem.W.keepIn K (.ref f_check_two) = true)
    (a_across : PySem.W.nsIn K mainGlobals "across" = some (some (.ref f_across)))
    (l_across : K.lookup f_across = some ⟨oc12, od12, .func (PySem.W.fnOf "across" "across" (defArgs s_across) (defBody s_across) (defScope s_across) .none kV12 dc12 pm12 an12 cd12 ct12), sl12⟩)
    (c_across : PySem.W.codeIn K cd12 "across" = true)
    (k_across : PySem.W.keepIn K (.ref f_across) = true)
    (a_hold_of : PySem.W.nsIn K mainGlobals "hold_of" = some (some (.ref f_hold_of)))
    (l_hold_of : K.lookup f_hold_of = some ⟨oc13, od13, .func (PySem.W.fnOf "hold_of" "hold_of" (defArgs s_hold_of) (defBody s_hold_of) (defScope s_hold_of) .none kV13 dc13 pm13 an13 cd13 ct13), sl13⟩)
    (c_hold_of : PySem.W.codeIn K cd13 "hold_of" = true)
    (k_hold_of : PySem.W.keepIn K (.ref f_hold_of) = true)
    (a_is_index : PySem.W.nsIn K mainGlobals "is_index" = some (some (.ref f_is_index)))
    (l_is_index : K.lookup f_is_index = some ⟨oc14, od14, .func (PySem.W.fnOf "is_index" "is_index" (defArgs s_is_index) (defBody s_is_index) (defScope s_is_index) .none kV14 dc14 pm14 an14 cd14 ct14), sl14⟩)
    (c_is_index : PySem.W.codeIn K cd14 "is_index" = true)
    (k_is_index : PySem.W.keepIn K (.ref f_is_index) = true)
    (a_check_some : PySem.W.nsIn K mainGlobals "check_some" = some (some (.ref f_check_some)))
    (l_check_some : K.lookup f_check_some = some ⟨oc15, od15, .func (PySem.W.fnOf "check_some" "check_some" (defArgs s_check_some) (defBody s_check_some) (defScope s_check_some) .none kV15 dc15 pm15 an15 cd15 ct15), sl15⟩)
    (c_check_some : PySem.W.codeIn K cd15 "check_some" = true)
    (k_check_some : PySem.W.keepIn K (.ref f_check_some) = true)
    (a_is_step : PySem.W.nsIn K mainGlobals "is_step" = some (some (.ref f_is_step)))
    (l_is_step : K.lookup f_is_step = some ⟨oc16, od16, .func (PySem.W.fnOf "is_step" "is_step" (defArgs s_is_step) (defBody s_is_step) (defScope s_is_step) .none kV16 dc16 pm16 an16 cd16 ct16), sl16⟩)
    (c_is_step : PySem.W.codeIn K cd16 "is_step" = true)
    (k_is_step : PySem.W.keepIn K (.ref f_is_step) = true)
    (a_end_of : PySem.W.nsIn K mainGlobals "end_of" = some (some (.ref f_end_of)))
    (l_end_of : K.lookup f_end_of = some ⟨oc17, od17, .func (PySem.W.fnOf "end_of" "end_of" (defArgs s_end_of) (defBody s_end_of) (defScope s_end_of) .none kV17 dc17 pm17 an17 cd17 ct17), sl17⟩)
    (c_end_of : PySem.W.codeIn K cd17 "end_of" = true)
    (k_end_of : PySem.W.keepIn K (.ref f_end_of) = true)
    (a_is_walk : PySem.W.nsIn K mainGlobals "is_walk" = some (some (.ref f_is_walk)))
    (l_is_walk : K.lookup f_is_walk = some ⟨oc18, od18, .func (PySem.W.fnOf "is_walk" "is_walk" (defArgs s_is_walk) (defBody s_is_walk) (defScope s_is_walk) .none kV18 dc18 pm18 an18 cd18 ct18), sl18⟩)
    (c_is_walk : PySem.W.codeIn K cd18 "is_walk" = true)
    (k_is_walk : PySem.W.keepIn K (.ref f_is_walk) = true)
    (a_check_route : PySem.W.nsIn K mainGlobals "check_route" = some (some (.ref f_check_route)))
    (l_check_route : K.lookup f_check_route = some ⟨oc19, od19, .func (PySem.W.fnOf "check_route" "check_route" (defArgs s_check_route) (defBody s_check_route) (defScope s_check_route) .none kV19 dc19 pm19 an19 cd19 ct19), sl19⟩)
    (c_check_route : PySem.W.codeIn K cd19 "check_route" = true)
    (k_check_route : PySem.W.keepIn K (.ref f_check_route) = true)
    (a_rule_behind : PySem.W.nsIn K mainGlobals "rule_behind" = some (some (.ref f_rule_behind)))
    (l_rule_behind : K.lookup f_rule_behind = some ⟨oc20, od20, .func (PySem.W.fnOf "rule_behind" "rule_behind" (defArgs s_rule_behind) (defBody s_rule_behind) (defScope s_rule_behind) .none kV20 dc20 pm20 an20 cd20 ct20), sl20⟩)
    (c_rule_behind : PySem.W.codeIn K cd20 "rule_behind" = true)
    (k_rule_behind : PySem.W.keepIn K (.ref f_rule_behind) = true)
    (a_rule_of : PySem.W.nsIn K mainGlobals "rule_of" = some (some (.ref f_rule_of)))
    (l_rule_of : K.lookup f_rule_of = some ⟨oc21, od21, .func (PySem.W.fnOf "rule_of" "rule_of" (defArgs s_rule_of) (defBody s_rule_of) (defScope s_rule_of) .none kV21 dc21 pm21 an21 cd21 ct21), sl21⟩)
    (c_rule_of : PySem.W.codeIn K cd21 "rule_of" = true)
    (k_rule_of : PySem.W.keepIn K (.ref f_rule_of) = true)
    (a_out_by : PySem.W.nsIn K mainGlobals "out_by" = some (some (.ref f_out_by)))
    (l_out_by : K.lookup f_out_by = some ⟨oc22, od22, .func (PySem.W.fnOf "out_by" "out_by" (defArgs s_out_by) (defBody s_out_by) (defScope s_out_by) .none kV22 dc22 pm22 an22 cd22 ct22), sl22⟩)
    (c_out_by : PySem.W.codeIn K cd22 "out_by" = true)
    (k_out_by : PySem.W.keepIn K (.ref f_out_by) = true)
    (a_route_out : PySem.W.nsIn K mainGlobals "route_out" = some (some (.ref f_route_out)))
    (l_route_out : K.lookup f_route_out = some ⟨oc23, od23, .func (PySem.W.fnOf "route_out" "route_out" (defArgs s_route_out) (defBody s_route_out) (defScope s_route_out) .none kV23 dc23 pm23 an23 cd23 ct23), sl23⟩)
    (c_route_out : PySem.W.codeIn K cd23 "route_out" = true)
    (k_route_out : PySem.W.keepIn K (.ref f_route_out) = true)
    (a_routes_on : PySem.W.nsIn K mainGlobals "routes_on" = some (some (.ref f_routes_on)))
    (l_routes_on : K.lookup f_routes_on = some ⟨oc24, od24, .func (PySem.W.fnOf "routes_on" "routes_on" (defArgs s_routes_on) (defBody s_routes_on) (defScope s_routes_on) .none kV24 dc24 pm24 an24 cd24 ct24), sl24⟩)
    (c_routes_on : PySem.W.codeIn K cd24 "routes_on" = true)
    (k_routes_on : PySem.W.keepIn K (.ref f_routes_on) = true)
    (a_best_route : PySem.W.nsIn K mainGlobals "best_route" = some (some (.ref f_best_route)))
    (l_best_route : K.lookup f_best_route = some ⟨oc25, od25, .func (PySem.W.fnOf "best_route" "best_route" (defArgs s_best_route) (defBody s_best_route) (defScope s_best_route) .none kV25 dc25 pm25 an25 cd25 ct25), sl25⟩)
    (c_best_route : PySem.W.codeIn K cd25 "best_route" = true)
    (k_best_route : PySem.W.keepIn K (.ref f_best_route) = true)
    (a_l_is_integer : PySem.W.nsIn K mainGlobals "_law_is_integer" = some (some (.ref f_l_is_integer)))
    (l_l_is_integer : K.lookup f_l_is_integer = some ⟨oc26, od26, .func (PySem.W.fnOf "_law_is_integer" "_law_is_integer" (defArgs s_l_is_integer) (defBody s_l_is_integer) (defScope s_l_is_integer) .none kV26 dc26 pm26 an26 cd26 ct26), sl26⟩)
    (c_l_is_integer : PySem.W.codeIn K cd26 "_law_is_integer" = true)
    (k_l_is_integer : PySem.W.keepIn K (.ref f_l_is_integer) = true)
    (a_l_source : PySem.W.nsIn K mainGlobals "_law_source" = some (some (.ref f_l_source)))
    (l_l_source : K.lookup f_l_source = some ⟨oc27, od27, .func (PySem.W.fnOf "_law_source" "_law_source" (defArgs s_l_source) (defBody s_l_source) (defScope s_l_source) .none kV27 dc27 pm27 an27 cd27 ct27), sl27⟩)
    (c_l_source : PySem.W.codeIn K cd27 "_law_source" = true)
    (k_l_source : PySem.W.keepIn K (.ref f_l_source) = true)
    (a_l_draw : PySem.W.nsIn K mainGlobals "_law_draw" = some (some (.ref f_l_draw)))
    (l_l_draw : K.lookup f_l_draw = some ⟨oc28, od28, .func (PySem.W.fnOf "_law_draw" "_law_draw" (defArgs s_l_draw) (defBody s_l_draw) (defScope s_l_draw) .none kV28 dc28 pm28 an28 cd28 ct28), sl28⟩)
    (c_l_draw : PySem.W.codeIn K cd28 "_law_draw" = true)
    (k_l_draw : PySem.W.keepIn K (.ref f_l_draw) = true)
    (a_l_made : PySem.W.nsIn K mainGlobals "_law_made" = some (some (.ref f_l_made)))
    (l_l_made : K.lookup f_l_made = some ⟨oc29, od29, .func (PySem.W.fnOf "_law_made" "_law_made" (defArgs s_l_made) (defBody s_l_made) (defScope s_l_made) .none kV29 dc29 pm29 an29 cd29 ct29), sl29⟩)
    (c_l_made : PySem.W.codeIn K cd29 "_law_made" = true)
    (k_l_made : PySem.W.keepIn K (.ref f_l_made) = true)
    (a_l_plus : PySem.W.nsIn K mainGlobals "_law_plus" = some (some (.ref f_l_plus)))
    (l_l_plus : K.lookup f_l_plus = some ⟨oc30, od30, .func (PySem.W.fnOf "_law_plus" "_law_plus" (defArgs s_l_plus) (defBody s_l_plus) (defScope s_l_plus) .none kV30 dc30 pm30 an30 cd30 ct30), sl30⟩)
    (c_l_plus : PySem.W.codeIn K cd30 "_law_plus" = true)
    (k_l_plus : PySem.W.keepIn K (.ref f_l_plus) = true)
    (a_l_times : PySem.W.nsIn K mainGlobals "_law_times" = some (some (.ref f_l_times)))
    (l_l_times : K.lookup f_l_times = some ⟨oc31, od31, .func (PySem.W.fnOf "_law_times" "_law_times" (defArgs s_l_times) (defBody s_l_times) (defScope s_l_times) .none kV31 dc31 pm31 an31 cd31 ct31), sl31⟩)
    (c_l_times : PySem.W.codeIn K cd31 "_law_times" = true)
    (k_l_times : PySem.W.keepIn K (.ref f_l_times) = true)
    (a_l_over : PySem.W.nsIn K mainGlobals "_law_over" = some (some (.ref f_l_over)))
    (l_l_over : K.lookup f_l_over = some ⟨oc32, od32, .func (PySem.W.fnOf "_law_over" "_law_over" (defArgs s_l_over) (defBody s_l_over) (defScope s_l_over) .none kV32 dc32 pm32 an32 cd32 ct32), sl32⟩)
    (c_l_over : PySem.W.codeIn K cd32 "_law_over" = true)
    (k_l_over : PySem.W.keepIn K (.ref f_l_over) = true)
    (a_l_below : PySem.W.nsIn K mainGlobals "_law_below" = some (some (.ref f_l_below)))
    (l_l_below : K.lookup f_l_below = some ⟨oc33, od33, .func (PySem.W.fnOf "_law_below" "_law_below" (defArgs s_l_below) (defBody s_l_below) (defScope s_l_below) .none kV33 dc33 pm33 an33 cd33 ct33), sl33⟩)
    (c_l_below : PySem.W.codeIn K cd33 "_law_below" = true)
    (k_l_below : PySem.W.keepIn K (.ref f_l_below) = true)
    (a_l_some : PySem.W.nsIn K mainGlobals "_law_some" = some (some (.ref f_l_some)))
    (l_l_some : K.lookup f_l_some = some ⟨oc34, od34, .func (PySem.W.fnOf "_law_some" "_law_some" (defArgs s_l_some) (defBody s_l_some) (defScope s_l_some) .none kV34 dc34 pm34 an34 cd34 ct34), sl34⟩)
    (c_l_some : PySem.W.codeIn K cd34 "_law_some" = true)
    (k_l_some : PySem.W.keepIn K (.ref f_l_some) = true)
    (a_l_stall : PySem.W.nsIn K mainGlobals "_law_stall" = some (some (.ref f_l_stall)))
    (l_l_stall : K.lookup f_l_stall = some ⟨oc35, od35, .func (PySem.W.fnOf "_law_stall" "_law_stall" (defArgs s_l_stall) (defBody s_l_stall) (defScope s_l_stall) .none kV35 dc35 pm35 an35 cd35 ct35), sl35⟩)
    (c_l_stall : PySem.W.codeIn K cd35 "_law_stall" = true)
    (k_l_stall : PySem.W.keepIn K (.ref f_l_stall) = true)
    (a_l_stalls : PySem.W.nsIn K mainGlobals "_law_stalls" = some (some (.ref f_l_stalls)))
    (l_l_stalls : K.lookup f_l_stalls = some ⟨oc36, od36, .func (PySem.W.fnOf "_law_stalls" "_law_stalls" (defArgs s_l_stalls) (defBody s_l_stalls) (defScope s_l_stalls) .none kV36 dc36 pm36 an36 cd36 ct36), sl36⟩)
    (c_l_stalls : PySem.W.codeIn K cd36 "_law_stalls" = true)
    (k_l_stalls : PySem.W.keepIn K (.ref f_l_stalls) = true)
    (a_l_piece : PySem.W.nsIn K mainGlobals "_law_piece" = some (some (.ref f_l_piece)))
    (l_l_piece : K.lookup f_l_piece = some ⟨oc37, od37, .func (PySem.W.fnOf "_law_piece" "_law_piece" (defArgs s_l_piece) (defBody s_l_piece) (defScope s_l_piece) .none kV37 dc37 pm37 an37 cd37 ct37), sl37⟩)
    (c_l_piece : PySem.W.codeIn K cd37 "_law_piece" = true)
    (k_l_piece : PySem.W.keepIn K (.ref f_l_piece) = true)
    (a_l_pair : PySem.W.nsIn K mainGlobals "_law_pair" = some (some (.ref f_l_pair)))
    (l_l_pair : K.lookup f_l_pair = some ⟨oc38, od38, .func (PySem.W.fnOf "_law_pair" "_law_pair" (defArgs s_l_pair) (defBody s_l_pair) (defScope s_l_pair) .none kV38 dc38 pm38 an38 cd38 ct38), sl38⟩)
    (c_l_pair : PySem.W.codeIn K cd38 "_law_pair" = true)
    (k_l_pair : PySem.W.keepIn K (.ref f_l_pair) = true)
    (a_l_same : PySem.W.nsIn K mainGlobals "_law_same" = some (some (.ref f_l_same)))
    (l_l_same : K.lookup f_l_same = some ⟨oc39, od39, .func (PySem.W.fnOf "_law_same" "_law_same" (defArgs s_l_same) (defBody s_l_same) (defScope s_l_same) .none kV39 dc39 pm39 an39 cd39 ct39), sl39⟩)
    (c_l_same : PySem.W.codeIn K cd39 "_law_same" = true)
    (k_l_same : PySem.W.keepIn K (.ref f_l_same) = true)
    (a_l_rule : PySem.W.nsIn K mainGlobals "_law_rule" = some (some (.ref f_l_rule)))
    (l_l_rule : K.lookup f_l_rule = some ⟨oc40, od40, .func (PySem.W.fnOf "_law_rule" "_law_rule" (defArgs s_l_rule) (defBody s_l_rule) (defScope s_l_rule) .none kV40 dc40 pm40 an40 cd40 ct40), sl40⟩)
    (c_l_rule : PySem.W.codeIn K cd40 "_law_rule" = true)
    (k_l_rule : PySem.W.keepIn K (.ref f_l_rule) = true)
    (a_l_comes : PySem.W.nsIn K mainGlobals "_law_comes" = some (some (.ref f_l_comes)))
    (l_l_comes : K.lookup f_l_comes = some ⟨oc41, od41, .func (PySem.W.fnOf "_law_comes" "_law_comes" (defArgs s_l_comes) (defBody s_l_comes) (defScope s_l_comes) .none kV41 dc41 pm41 an41 cd41 ct41), sl41⟩)
    (c_l_comes : PySem.W.codeIn K cd41 "_law_comes" = true)
    (k_l_comes : PySem.W.keepIn K (.ref f_l_comes) = true)
    (a_l_routes : PySem.W.nsIn K mainGlobals "_law_routes" = some (some (.ref f_l_routes)))
    (l_l_routes : K.lookup f_l_routes = some ⟨oc42, od42, .func (PySem.W.fnOf "_law_routes" "_law_routes" (defArgs s_l_routes) (defBody s_l_routes) (defScope s_l_routes) .none kV42 dc42 pm42 an42 cd42 ct42), sl42⟩)
    (c_l_routes : PySem.W.codeIn K cd42 "_law_routes" = true)
    (k_l_routes : PySem.W.keepIn K (.ref f_l_routes) = true)
    (a_l_fair : PySem.W.nsIn K mainGlobals "_law_fair" = some (some (.ref f_l_fair)))
    (l_l_fair : K.lookup f_l_fair = some ⟨oc43, od43, .func (PySem.W.fnOf "_law_fair" "_law_fair" (defArgs s_l_fair) (defBody s_l_fair) (defScope s_l_fair) .none kV43 dc43 pm43 an43 cd43 ct43), sl43⟩)
    (c_l_fair : PySem.W.codeIn K cd43 "_law_fair" = true)
    (k_l_fair : PySem.W.keepIn K (.ref f_l_fair) = true)
    (a_l_web : PySem.W.nsIn K mainGlobals "_law_web" = some (some (.ref f_l_web)))
    (l_l_web : K.lookup f_l_web = some ⟨oc44, od44, .func (PySem.W.fnOf "_law_web" "_law_web" (defArgs s_l_web) (defBody s_l_web) (defScope s_l_web) .none kV44 dc44 pm44 an44 cd44 ct44), sl44⟩)
    (c_l_web : PySem.W.codeIn K cd44 "_law_web" = true)
    (k_l_web : PySem.W.keepIn K (.ref f_l_web) = true)
    (a_l_best : PySem.W.nsIn K mainGlobals "_law_best" = some (some (.ref f_l_best)))
    (l_l_best : K.lookup f_l_best = some ⟨oc45, od45, .func (PySem.W.fnOf "_law_best" "_law_best" (defArgs s_l_best) (defBody s_l_best) (defScope s_l_best) .none kV45 dc45 pm45 an45 cd45 ct45), sl45⟩)
    (c_l_best : PySem.W.codeIn K cd45 "_law_best" = true)
    (k_l_best : PySem.W.keepIn K (.ref f_l_best) = true)
    (a_law : PySem.W.nsIn K mainGlobals "law" = some (some (.ref f_law)))
    (l_law : K.lookup f_law = some ⟨oc46, od46, .func (PySem.W.fnOf "law" "law" (defArgs s_law) (defBody s_law) (defScope s_law) .none kV46 dc46 pm46 an46 cd46 ct46), sl46⟩)
    (c_law : PySem.W.codeIn K cd46 "law" = true)
    (k_law : PySem.W.keepIn K (.ref f_law) = true)
    (l_Web_init : K.lookup f_Web_init = some ⟨oc47, od47, .func (PySem.W.fnOf "__init__" "Web.__init__" (defArgs s_Web_init) (defBody s_Web_init) (defScope s_Web_init) .none kV47 dc47 pm47 an47 cd47 ct47), sl47⟩)
    (c_Web_init : PySem.W.codeIn K cd47 "Web.__init__" = true)
    (k_Web_init : PySem.W.keepIn K (.ref f_Web_init) = true)
    (mi_Web_eq : PySem.W.findIn K (.ref c_Web) "__eq__" = some (some (.ref f_Web_eq)))
    (l_Web_eq : K.lookup f_Web_eq = some ⟨oc48, od48, .func (PySem.W.fnOf "__eq__" "Web.__eq__" (defArgs s_Web_eq) (defBody s_Web_eq) (defScope s_Web_eq) .none kV48 dc48 pm48 an48 cd48 ct48), sl48⟩)
    (c_Web_eq : PySem.W.codeIn K cd48 "Web.__eq__" = true)
    (k_Web_eq : PySem.W.keepIn K (.ref f_Web_eq) = true)
    (mf_Web_eq : PySem.W.isFn K (.ref f_Web_eq) = true)
    (mn_Web : PySem.W.findIn K (.ref c_Web) "__ne__" = some (some (.builtin "object.__ne__")))
    : ∃ fd : FuncData, (∀ (s : Shared) (v : Value), BindsTo s fd ⟨[v], []⟩ [("_law_script", v)]) ∧ ∀ base : Heap, K.In base → base.Ns mainGlobals mg → FnOk l.prog w K mg base CX0 17 fa fd ["_law_script"] (sp_law K) := by
  have e := hfa.symm.trans (PySem.W.mg_of X G a_law)
  cases e
  have T : Txt K mg f_is_integer f_is_row f_is_fraction f_is_some f_lowest f_multiplied f_squared f_lies_below f_is_stall f_is_ware f_check_ware f_check_two f_across f_hold_of f_is_index f_check_some f_is_step f_end_of f_is_walk f_check_route f_rule_behind f_rule_of f_out_by f_route_out f_routes_on f_best_route f_l_is_integer f_l_source f_l_draw f_l_made f_l_plus f_l_times f_l_over f_l_below f_l_some f_l_stall f_l_stalls f_l_piece f_l_pair f_l_same f_l_rule f_l_comes f_l_routes f_l_fair f_l_web f_l_best fa f_Web_init f_Web_eq c_BadWare c_Web c_NO_STEPS _ _ _ _ _ _ _ _ _ _ _ _ _ _ _ _ _ _ _ _ _ _ _ _ _ _ _ _ _ _ _ _ _ _ _ _ _ _ _ _ _ _ _ _ _ _ _ _ _ := {
    z_abs := PySem.W.mg_none_of X G z_abs
    z_all := PySem.W.mg_none_of X G z_all
    z_bool := PySem.W.mg_none_of X G z_bool
    z_enumerate := PySem.W.mg_none_of X G z_enumerate
    z_int := PySem.W.mg_none_of X G z_int
    z_isinstance := PySem.W.mg_none_of X G z_isinstance
    z_len := PySem.W.mg_none_of X G z_len
    z_list := PySem.W.mg_none_of X G z_list
    z_max := PySem.W.mg_none_of X G z_max
    z_range := PySem.W.mg_none_of X G z_range
    z_set := PySem.W.mg_none_of X G z_set
    z_str := PySem.W.mg_none_of X G z_str
    z_tuple := PySem.W.mg_none_of X G z_tuple
    z_zip := PySem.W.mg_none_of X G z_zip
    m_gcd := PySem.W.mg_of X G m_gcd
    c_BadWare := ⟨PySem.W.mg_of X G a_BadWare, ex_BadWare, kp_BadWare, be_BadWare, ty_BadWare, ic_BadWare, sf_BadWare⟩
    w_Web := ⟨PySem.W.mg_of X G a_Web, ⟨mk_Web, in_Web, fn_Web, kp_Web⟩, ⟨⟨pg_Web, hd_Web, po_Web, sa_Web⟩, ha_Web, hn_Web, ht_Web, mo_Web, i_int_Web, i_bool_Web, i_tuple_Web, i_list_Web⟩⟩
    n_Web_wares := na_Web_wares
    n_Web_stalls := na_Web_stalls
    v_NO_STEPS := PySem.W.mg_of X G v_NO_STEPS
    t_NO_STEPS := .inr ⟨_, _, _, o_NO_STEPS, rfl, rfl, tv_NO_STEPS.2, tv_NO_STEPS.1⟩
    v_MOST_STALLS := ⟨_, PySem.W.mg_of X G v_MOST_STALLS, ⟨_, rfl⟩⟩
    v_MOST_WARES := ⟨_, PySem.W.mg_of X G v_MOST_WARES, ⟨_, rfl⟩⟩
    g_is_integer := PySem.W.mg_of X G a_is_integer
    F_is_integer := fun_mk (st := s_is_integer) l_is_integer c_is_integer k_is_integer
    k_is_integer := k_is_integer
    b_is_integer := (fun_mk (st := s_is_integer) l_is_integer c_is_integer k_is_integer).binds (ps := ["thing"]) fun _ _ _ _ _ _ us hl => match us, hl with | [_], _ => rfl
    g_is_row := PySem.W.mg_of X G a_is_row
    F_is_row := fun_mk (st := s_is_row) l_is_row c_is_row k_is_row
    k_is_row := k_is_row
    b_is_row := (fun_mk (st := s_is_row) l_is_row c_is_row k_is_row).binds (ps := ["thing"]) fun _ _ _ _ _ _ us hl => match us, hl with | [_], _ => rfl
    g_is_fraction := PySem.W.mg_of X G a_is_fraction
    F_is_fraction := fun_mk (st := s_is_fraction) l_is_fraction c_is_fraction k_is_fraction
    k_is_fraction := k_is_fraction
    b_is_fraction := (fun_mk (st := s_is_fraction) l_is_fraction c_is_fraction k_is_fraction).binds (ps := ["thing"]) fun _ _ _ _ _ _ us hl => match us, hl with | [_], _ => rfl
    g_is_some := PySem.W.mg_of X G a_is_some
    F_is_some := fun_mk (st := s_is_some) l_is_some c_is_some k_is_some
    k_is_some := k_is_some
    b_is_some := (fun_mk (st := s_is_some) l_is_some c_is_some k_is_some).binds (ps := ["thing"]) fun _ _ _ _ _ _ us hl => match us, hl with | [_], _ => rfl
    g_lowest := PySem.W.mg_of X G a_lowest
    F_lowest := fun_mk (st := s_lowest) l_lowest c_lowest k_lowest
    k_lowest := k_lowest
    b_lowest := (fun_mk (st := s_lowest) l_lowest c_lowest k_lowest).binds (ps := ["top", "bottom"]) fun _ _ _ _ _ _ us hl => match us, hl with | [_, _], _ => rfl
    g_multiplied := PySem.W.mg_of X G a_multiplied
    F_multiplied := fun_mk (st := s_multiplied) l_multiplied c_multiplied k_multiplied
    k_multiplied := k_multiplied
    b_multiplied := (fun_mk (st := s_multiplied) l_multiplied c_multiplied k_multiplied).binds (ps := ["one", "other"]) fun _ _ _ _ _ _ us hl => match us, hl with | [_, _], _ => rfl
    g_squared := PySem.W.mg_of X G a_squared
    F_squared := fun_mk (st := s_squared) l_squared c_squared k_squared
    k_squared := k_squared
    b_squared := (fun_mk (st := s_squared) l_squared c_squared k_squared).binds (ps := ["one"]) fun _ _ _ _ _ _ us hl => match us, hl with | [_], _ => rfl
    g_lies_below := PySem.W.mg_of X G a_lies_below
    F_lies_below := fun_mk (st := s_lies_below) l_lies_below c_lies_below k_lies_below
    k_lies_below := k_lies_below
    b_lies_below := (fun_mk (st := s_lies_below) l_lies_below c_lies_below k_lies_below).binds (ps := ["one", "other"]) fun _ _ _ _ _ _ us hl => match us, hl with | [_, _], _ => rfl
    g_is_stall := PySem.W.mg_of X G a_is_stall
    F_is_stall := fun_mk (st := s_is_stall) l_is_stall c_is_stall k_is_stall
    k_is_stall := k_is_stall
    b_is_stall := (fun_mk (st := s_is_stall) l_is_stall c_is_stall k_is_stall).binds (ps := ["wares", "thing"]) fun _ _ _ _ _ _ us hl => match us, hl with | [_, _], _ => rfl
    g_is_ware := PySem.W.mg_of X G a_is_ware
    F_is_ware := fun_mk (st := s_is_ware) l_is_ware c_is_ware k_is_ware
    k_is_ware := k_is_ware
    b_is_ware := (fun_mk (st := s_is_ware) l_is_ware c_is_ware k_is_ware).binds (ps := ["web", "thing"]) fun _ _ _ _ _ _ us hl => match us, hl with | [_, _], _ => rfl
    g_check_ware := PySem.W.mg_of X G a_check_ware
    F_check_ware := fun_mk (st := s_check_ware) l_check_ware c_check_ware k_check_ware
    k_check_ware := k_check_ware
    b_check_ware := (fun_mk (st := s_check_ware) l_check_ware c_check_ware k_check_ware).binds (ps := ["web", "ware"]) fun _ _ _ _ _ _ us hl => match us, hl with | [_, _], _ => rfl
    g_check_two := PySem.W.mg_of X G a_check_two
    F_check_two := fun_mk (st := s_check_two) l_check_two c_check_two k_check_two
    k_check_two := k_check_two
    b_check_two := (fun_mk (st := s_check_two) l_check_two c_check_two k_check_two).binds (ps := ["web", "one", "other"]) fun _ _ _ _ _ _ us hl => match us, hl with | [_, _, _], _ => rfl
    g_across := PySem.W.mg_of X G a_across
    F_across := fun_mk (st := s_across) l_across c_across k_across
    k_across := k_across
    b_across := (fun_mk (st := s_across) l_across c_across k_across).binds (ps := ["stall", "ware"]) fun _ _ _ _ _ _ us hl => match us, hl with | [_, _], _ => rfl
    g_hold_of := PySem.W.mg_of X G a_hold_of
    F_hold_of := fun_mk (st := s_hold_of) l_hold_of c_hold_of k_hold_of
    k_hold_of := k_hold_of
    b_hold_of := (fun_mk (st := s_hold_of) l_hold_of c_hold_of k_hold_of).binds (ps := ["stall", "ware"]) fun _ _ _ _ _ _ us hl => match us, hl with | [_, _], _ => rfl
    g_is_index := PySem.W.mg_of X G a_is_index
    F_is_index := fun_mk (st := s_is_index) l_is_index c_is_index k_is_index
    k_is_index := k_is_index
    b_is_index := (fun_mk (st := s_is_index) l_is_index c_is_index k_is_index).binds (ps := ["web", "thing"]) fun _ _ _ _ _ _ us hl => match us, hl with | [_, _], _ => rfl
    g_check_some := PySem.W.mg_of X G a_check_some
    F_check_some := fun_mk (st := s_check_some) l_check_some c_check_some k_check_some
    k_check_some := k_check_some
    b_check_some := (fun_mk (st := s_check_some) l_check_some c_check_some k_check_some).binds (ps := ["amount"]) fun _ _ _ _ _ _ us hl => match us, hl with | [_], _ => rfl
    g_is_step := PySem.W.mg_of X G a_is_step
    F_is_step := fun_mk (st := s_is_step) l_is_step c_is_step k_is_step
    k_is_step := k_is_step
    b_is_step := (fun_mk (st := s_is_step) l_is_step c_is_step k_is_step).binds (ps := ["web", "thing"]) fun _ _ _ _ _ _ us hl => match us, hl with | [_, _], _ => rfl
    g_end_of := PySem.W.mg_of X G a_end_of
    F_end_of := fun_mk (st := s_end_of) l_end_of c_end_of k_end_of
    k_end_of := k_end_of
    b_end_of := (fun_mk (st := s_end_of) l_end_of c_end_of k_end_of).binds (ps := ["web", "step"]) fun _ _ _ _ _ _ us hl => match us, hl with | [_, _], _ => rfl
    g_is_walk := PySem.W.mg_of X G a_is_walk
    F_is_walk := fun_mk (st := s_is_walk) l_is_walk c_is_walk k_is_walk
    k_is_walk := k_is_walk
    b_is_walk := (fun_mk (st := s_is_walk) l_is_walk c_is_walk k_is_walk).binds (ps := ["web", "thing"]) fun _ _ _ _ _ _ us hl => match us, hl with | [_, _], _ => rfl
    g_check_route := PySem.W.mg_of X G a_check_route
    F_check_route := fun_mk (st := s_check_route) l_check_route c_check_route k_check_route
    k_check_route := k_check_route
    b_check_route := (fun_mk (st := s_check_route) l_check_route c_check_route k_check_route).binds (ps := ["web", "thing"]) fun _ _ _ _ _ _ us hl => match us, hl with | [_, _], _ => rfl
    g_rule_behind := PySem.W.mg_of X G a_rule_behind
    F_rule_behind := fun_mk (st := s_rule_behind) l_rule_behind c_rule_behind k_rule_behind
    k_rule_behind := k_rule_behind
    b_rule_behind := (fun_mk (st := s_rule_behind) l_rule_behind c_rule_behind k_rule_behind).binds (ps := ["rule", "stall", "ware"]) fun _ _ _ _ _ _ us hl => match us, hl with | [_, _, _], _ => rfl
    g_rule_of := PySem.W.mg_of X G a_rule_of
    F_rule_of := fun_mk (st := s_rule_of) l_rule_of c_rule_of k_rule_of
    k_rule_of := k_rule_of
    b_rule_of := (fun_mk (st := s_rule_of) l_rule_of c_rule_of k_rule_of).binds (ps := ["web", "route"]) fun _ _ _ _ _ _ us hl => match us, hl with | [_, _], _ => rfl
    g_out_by := PySem.W.mg_of X G a_out_by
    F_out_by := fun_mk (st := s_out_by) l_out_by c_out_by k_out_by
    k_out_by := k_out_by
    b_out_by := (fun_mk (st := s_out_by) l_out_by c_out_by k_out_by).binds (ps := ["rule", "amount"]) fun _ _ _ _ _ _ us hl => match us, hl with | [_, _], _ => rfl
    g_route_out := PySem.W.mg_of X G a_route_out
    F_route_out := fun_mk (st := s_route_out) l_route_out c_route_out k_route_out
    k_route_out := k_route_out
    b_route_out := (fun_mk (st := s_route_out) l_route_out c_route_out k_route_out).binds (ps := ["web", "route", "amount"]) fun _ _ _ _ _ _ us hl => match us, hl with | [_, _, _], _ => rfl
    g_routes_on := PySem.W.mg_of X G a_routes_on
    F_routes_on := fun_mk (st := s_routes_on) l_routes_on c_routes_on k_routes_on
    k_routes_on := k_routes_on
    b_routes_on := (fun_mk (st := s_routes_on) l_routes_on c_routes_on k_routes_on).binds (ps := ["web", "ware", "goal", "begun", "rule"]) fun _ _ _ _ _ _ us hl => match us, hl with | [_, _, _, _, _], _ => rfl
    g_best_route := PySem.W.mg_of X G a_best_route
    F_best_route := fun_mk (st := s_best_route) l_best_route c_best_route k_best_route
    k_best_route := k_best_route
    b_best_route := (fun_mk (st := s_best_route) l_best_route c_best_route k_best_route).binds (ps := ["web", "one", "other", "amount"]) fun _ _ _ _ _ _ us hl => match us, hl with | [_, _, _, _], _ => rfl
    g_l_is_integer := PySem.W.mg_of X G a_l_is_integer
    F_l_is_integer := fun_mk (st := s_l_is_integer) l_l_is_integer c_l_is_integer k_l_is_integer
    k_l_is_integer := k_l_is_integer
    b_l_is_integer := (fun_mk (st := s_l_is_integer) l_l_is_integer c_l_is_integer k_l_is_integer).binds (ps := ["_law_thing"]) fun _ _ _ _ _ _ us hl => match us, hl with | [_], _ => rfl
    g_l_source := PySem.W.mg_of X G a_l_source
    F_l_source := fun_mk (st := s_l_source) l_l_source c_l_source k_l_source
    k_l_source := k_l_source
    b_l_source := (fun_mk (st := s_l_source) l_l_source c_l_source k_l_source).binds (ps := ["_law_script", "_law_k"]) fun _ _ _ _ _ _ us hl => match us, hl with | [_, _], _ => rfl
    g_l_draw := PySem.W.mg_of X G a_l_draw
    F_l_draw := fun_mk (st := s_l_draw) l_l_draw c_l_draw k_l_draw
    k_l_draw := k_l_draw
    b_l_draw := (fun_mk (st := s_l_draw) l_l_draw c_l_draw k_l_draw).binds (ps := ["_law_source_here", "_law_many"]) fun _ _ _ _ _ _ us hl => match us, hl with | [_, _], _ => rfl
    g_l_made := PySem.W.mg_of X G a_l_made
    F_l_made := fun_mk (st := s_l_made) l_l_made c_l_made k_l_made
    k_l_made := k_l_made
    b_l_made := (fun_mk (st := s_l_made) l_l_made c_l_made k_l_made).binds (ps := ["_law_top", "_law_bottom"]) fun _ _ _ _ _ _ us hl => match us, hl with | [_, _], _ => rfl
    g_l_plus := PySem.W.mg_of X G a_l_plus
    F_l_plus := fun_mk (st := s_l_plus) l_l_plus c_l_plus k_l_plus
    k_l_plus := k_l_plus
    b_l_plus := (fun_mk (st := s_l_plus) l_l_plus c_l_plus k_l_plus).binds (ps := ["_law_one", "_law_other"]) fun _ _ _ _ _ _ us hl => match us, hl with | [_, _], _ => rfl
    g_l_times := PySem.W.mg_of X G a_l_times
    F_l_times := fun_mk (st := s_l_times) l_l_times c_l_times k_l_times
    k_l_times := k_l_times
    b_l_times := (fun_mk (st := s_l_times) l_l_times c_l_times k_l_times).binds (ps := ["_law_one", "_law_other"]) fun _ _ _ _ _ _ us hl => match us, hl with | [_, _], _ => rfl
    g_l_over := PySem.W.mg_of X G a_l_over
    F_l_over := fun_mk (st := s_l_over) l_l_over c_l_over k_l_over
    k_l_over := k_l_over
    b_l_over := (fun_mk (st := s_l_over) l_l_over c_l_over k_l_over).binds (ps := ["_law_one", "_law_other"]) fun _ _ _ _ _ _ us hl => match us, hl with | [_, _], _ => rfl
    g_l_below := PySem.W.mg_of X G a_l_below
    F_l_below := fun_mk (st := s_l_below) l_l_below c_l_below k_l_below
    k_l_below := k_l_below
    b_l_below := (fun_mk (st := s_l_below) l_l_below c_l_below k_l_below).binds (ps := ["_law_one", "_law_other"]) fun _ _ _ _ _ _ us hl => match us, hl with | [_, _], _ => rfl
    g_l_some := PySem.W.mg_of X G a_l_some
    F_l_some := fun_mk (st := s_l_some) l_l_some c_l_some k_l_some
    k_l_some := k_l_some
    b_l_some := (fun_mk (st := s_l_some) l_l_some c_l_some k_l_some).binds (ps := ["_law_source_here"]) fun _ _ _ _ _ _ us hl => match us, hl with | [_], _ => rfl
    g_l_stall := PySem.W.mg_of X G a_l_stall
    F_l_stall := fun_mk (st := s_l_stall) l_l_stall c_l_stall k_l_stall
    k_l_stall := k_l_stall
    b_l_stall := (fun_mk (st := s_l_stall) l_l_stall c_l_stall k_l_stall).binds (ps := ["_law_source_here", "_law_one", "_law_other", "_law_ratio"]) fun _ _ _ _ _ _ us hl => match us, hl with | [_, _, _, _], _ => rfl
    g_l_stalls := PySem.W.mg_of X G a_l_stalls
    F_l_stalls := fun_mk (st := s_l_stalls) l_l_stalls c_l_stalls k_l_stalls
    k_l_stalls := k_l_stalls
    b_l_stalls := (fun_mk (st := s_l_stalls) l_l_stalls c_l_stalls k_l_stalls).binds (ps := ["_law_source_here", "_law_wares", "_law_most"]) fun _ _ _ _ _ _ us hl => match us, hl with | [_, _, _], _ => rfl
    g_l_piece := PySem.W.mg_of X G a_l_piece
    F_l_piece := fun_mk (st := s_l_piece) l_l_piece c_l_piece k_l_piece
    k_l_piece := k_l_piece
    b_l_piece := (fun_mk (st := s_l_piece) l_l_piece c_l_piece k_l_piece).binds (ps := ["_law_stalls_here", "_law_wares", "_law_ware"]) fun _ _ _ _ _ _ us hl => match us, hl with | [_, _, _], _ => rfl
    g_l_pair := PySem.W.mg_of X G a_l_pair
    F_l_pair := fun_mk (st := s_l_pair) l_l_pair c_l_pair k_l_pair
    k_l_pair := k_l_pair
    b_l_pair := (fun_mk (st := s_l_pair) l_l_pair c_l_pair k_l_pair).binds (ps := ["_law_source_here", "_law_wares"]) fun _ _ _ _ _ _ us hl => match us, hl with | [_, _], _ => rfl
    g_l_same := PySem.W.mg_of X G a_l_same
    F_l_same := fun_mk (st := s_l_same) l_l_same c_l_same k_l_same
    k_l_same := k_l_same
    b_l_same := (fun_mk (st := s_l_same) l_l_same c_l_same k_l_same).binds (ps := ["_law_told", "_law_due"]) fun _ _ _ _ _ _ us hl => match us, hl with | [_, _], _ => rfl
    g_l_rule := PySem.W.mg_of X G a_l_rule
    F_l_rule := fun_mk (st := s_l_rule) l_l_rule c_l_rule k_l_rule
    k_l_rule := k_l_rule
    b_l_rule := (fun_mk (st := s_l_rule) l_l_rule c_l_rule k_l_rule).binds (ps := ["_law_stalls_here", "_law_route"]) fun _ _ _ _ _ _ us hl => match us, hl with | [_, _], _ => rfl
    g_l_comes := PySem.W.mg_of X G a_l_comes
    F_l_comes := fun_mk (st := s_l_comes) l_l_comes c_l_comes k_l_comes
    k_l_comes := k_l_comes
    b_l_comes := (fun_mk (st := s_l_comes) l_l_comes c_l_comes k_l_comes).binds (ps := ["_law_rule_here", "_law_amount"]) fun _ _ _ _ _ _ us hl => match us, hl with | [_, _], _ => rfl
    g_l_routes := PySem.W.mg_of X G a_l_routes
    F_l_routes := fun_mk (st := s_l_routes) l_l_routes c_l_routes k_l_routes
    k_l_routes := k_l_routes
    b_l_routes := (fun_mk (st := s_l_routes) l_l_routes c_l_routes k_l_routes).binds (ps := ["_law_stalls_here", "_law_one"]) fun _ _ _ _ _ _ us hl => match us, hl with | [_, _], _ => rfl
    g_l_fair := PySem.W.mg_of X G a_l_fair
    F_l_fair := fun_mk (st := s_l_fair) l_l_fair c_l_fair k_l_fair
    k_l_fair := k_l_fair
    b_l_fair := (fun_mk (st := s_l_fair) l_l_fair c_l_fair k_l_fair).binds (ps := ["_law_source_here"]) fun _ _ _ _ _ _ us hl => match us, hl with | [_], _ => rfl
    g_l_web := PySem.W.mg_of X G a_l_web
    F_l_web := fun_mk (st := s_l_web) l_l_web c_l_web k_l_web
    k_l_web := k_l_web
    b_l_web := (fun_mk (st := s_l_web) l_l_web c_l_web k_l_web).binds (ps := ["_law_stalls_here", "_law_wares"]) fun _ _ _ _ _ _ us hl => match us, hl with | [_, _], _ => rfl
    g_l_best := PySem.W.mg_of X G a_l_best
    F_l_best := fun_mk (st := s_l_best) l_l_best c_l_best k_l_best
    k_l_best := k_l_best
    b_l_best := (fun_mk (st := s_l_best) l_l_best c_l_best k_l_best).binds (ps := ["_law_stalls_here", "_law_one", "_law_other", "_law_amount"]) fun _ _ _ _ _ _ us hl => match us, hl with | [_, _, _, _], _ => rfl
    g_law := PySem.W.mg_of X G a_law
    F_law := fun_mk (st := s_law) l_law c_law k_law
    k_law := k_law
    b_law := (fun_mk (st := s_law) l_law c_law k_law).binds (ps := ["_law_script"]) fun _ _ _ _ _ _ us hl => match us, hl with | [_], _ => rfl
    F_Web_init := fun_mk (st := s_Web_init) l_Web_init c_Web_init k_Web_init
    b_Web_init := (fun_mk (st := s_Web_init) l_Web_init c_Web_init k_Web_init).binds (ps := ["self", "wares", "stalls"]) fun _ _ _ _ _ _ us hl => match us, hl with | [_, _, _], _ => rfl
    i_Web_eq := mi_Web_eq
    fn_Web_eq := mf_Web_eq
    ne_Web := mn_Web
    F_Web_eq := fun_mk (st := s_Web_eq) l_Web_eq c_Web_eq k_Web_eq
    b_Web_eq := (fun_mk (st := s_Web_eq) l_Web_eq c_Web_eq k_Web_eq).binds (ps := ["self", "other"]) fun _ _ _ _ _ _ us hl => match us, hl with | [_, _], _ => rfl
  }
  exact ⟨_, fun s v => .of_eq rfl, fun base _ _ => ok_all T⟩
end My
open PySem PySem.W PyProof.Rows
set_option maxRecDepth 100000 in
set_option maxHeartbeats 0 in
theorem PySem.Challenge.cw_rootstalls_k67_whole_best_routes_by_all_holds : PySem.Challenge.rw_rootstalls_k67_whole_best_routes_by_all.Holds := by
  w_on; o_law; k_head; (case hw => w_witness2)
  k_fill
  refine L2.walk_ofB (l := PySem.Challenge.rw_rootstalls_k67_whole_best_routes_by_all) (n := 63) (k := 17) (x := "_law_script") (CX := fun _ => L2.CX0) (sp := fun w => My.sp_law _) rfl (by decide) rfl ⟨rfl, by decide, by decide⟩ (fun w h Y => PySem.W.kIn_of Y) ?F (fun _ _ a ns hl hb _ hS => ⟨a, ns, rfl, hS, hl, hb, fun _ => rfl⟩) (fun _ _ _ _ _ h => h)
  case F =>
    intro w mg fa h KX G hmg
    refine' My.all_mk KX G hmg ?z_abs ?z_all ?z_bool ?z_enumerate ?z_int ?z_isinstance ?z_len ?z_list ?z_max ?z_range ?z_set ?z_str ?z_tuple ?z_zip ?m_gcd ?a_BadWare ?ex_BadWare ?kp_BadWare ?be_BadWare ?ty_BadWare ?ic_BadWare ?sf_BadWare ?a_Web ?mk_Web ?in_Web ?fn_Web ?kp_Web ?pg_Web ?hd_Web ?po_Web ?sa_Web ?ha_Web ?hn_Web ?ht_Web ?mo_Web ?i_int_Web ?i_bool_Web ?i_tuple_Web ?i_list_Web ?na_Web_wares ?na_Web_stalls ?v_NO_STEPS ?o_NO_STEPS ?tv_NO_STEPS ?v_MOST_STALLS ?v_MOST_WARES ?a_is_integer ?l_is_integer ?c_is_integer ?k_is_integer ?a_is_row ?l_is_row ?c_is_row ?k_is_row ?a_is_fraction ?l_is_fraction ?c_is_fraction ?k_is_fraction ?a_is_some ?l_is_some ?c_is_some ?k_is_some ?a_lowest ?l_lowest ?c_lowest ?k_lowest ?a_multiplied ?l_multiplied ?c_multiplied ?k_multiplied ?a_squared ?l_squared ?c_squared ?k_squared ?a_lies_below ?l_lies_below ?c_lies_below ?k_lies_below ?a_is_stall ?l_is_stall ?c_is_stall ?k_is_stall ?a_is_ware ?l_is_ware ?c_is_ware ?k_is_ware ?a_check_ware ?l_check_ware ?c_check_ware ?k_check_ware ?a_check_two ?l_check_two ?c_check_two ?k_check_two ?a_across ?l_across ?c_across ?k_across ?a_hold_of ?l_hold_of ?c_hold_of ?k_hold_of ?a_is_index ?l_is_index ?c_is_index ?k_is_index ?a_check_some ?l_check_some ?c_check_some ?k_check_some ?a_is_step ?l_is_step ?c_is_step ?k_is_step ?a_end_of ?l_end_of ?c_end_of ?k_end_of ?a_is_walk ?l_is_walk ?c_is_walk ?k_is_walk ?a_check_route ?l_check_route ?c_check_route ?k_check_route ?a_rule_behind ?l_rule_behind ?c_rule_behind ?k_rule_behind ?a_rule_of ?l_rule_of ?c_rule_of ?k_rule_of ?a_out_by ?l_out_by ?c_out_by ?k_out_by ?a_route_out ?l_route_out ?c_route_out ?k_route_out ?a_routes_on ?l_routes_on ?c_routes_on ?k_routes_on ?a_best_route ?l_best_route ?c_best_route ?k_best_route ?a_l_is_integer ?l_l_is_integer ?c_l_is_integer ?k_l_is_integer ?a_l_source ?l_l_source ?c_l_source ?k_l_source ?a_l_draw ?l_l_draw ?c_l_draw ?k_l_draw ?a_l_made ?l_l_made ?c_l_made ?k_l_made ?a_l_plus ?l_l_plus ?c_l_plus ?k_l_plus ?a_l_times ?l_l_times ?c_l_times ?k_l_times ?a_l_over ?l_l_over ?c_l_over ?k_l_over ?a_l_below ?l_l_below ?c_l_below ?k_l_below ?a_l_some ?l_l_some ?c_l_some ?k_l_some ?a_l_stall ?l_l_stall ?c_l_stall ?k_l_stall ?a_l_stalls ?l_l_stalls ?c_l_stalls ?k_l_stalls ?a_l_piece ?l_l_piece ?c_l_piece ?k_l_piece ?a_l_pair ?l_l_pair ?c_l_pair ?k_l_pair ?a_l_same ?l_l_same ?c_l_same ?k_l_same ?a_l_rule ?l_l_rule ?c_l_rule ?k_l_rule ?a_l_comes ?l_l_comes ?c_l_comes ?k_l_comes ?a_l_routes ?l_l_routes ?c_l_routes ?k_l_routes ?a_l_fair ?l_l_fair ?c_l_fair ?k_l_fair ?a_l_web ?l_l_web ?c_l_web ?k_l_web ?a_l_best ?l_l_best ?c_l_best ?k_l_best ?a_law ?l_law ?c_law ?k_law ?l_Web_init ?c_Web_init ?k_Web_init ?mi_Web_eq ?l_Web_eq ?c_Web_eq ?k_Web_eq ?mf_Web_eq ?mn_Web
    (case z_abs => k_is)
    (case z_all => k_is)
    (case z_bool => k_is)
    (case z_enumerate => k_is)
    (case z_int => k_is)
    (case z_isinstance => k_is)
    (case z_len => k_is)
    (case z_list => k_is)
    (case z_max => k_is)
    (case z_range => k_is)
    (case z_set => k_is)
    (case z_str => k_is)
    (case z_tuple => k_is)
    (case z_zip => k_is)
    (case m_gcd => k_is)
    (case a_BadWare => k_is)
    (case ex_BadWare => first | k_exc | k_is)
    (case kp_BadWare => k_is)
    (case be_BadWare => k_is)
    (case ty_BadWare => k_is)
    (case ic_BadWare => k_is)
    (case sf_BadWare => first | rfl | k_is)
    (case a_Web => k_is)
    (case mk_Web => k_is)
    (case in_Web => k_is)
    (case fn_Web => k_is)
    (case kp_Web => k_is)
    (case pg_Web => k_is)
    (case hd_Web => k_is)
    (case po_Web => k_is)
    (case sa_Web => k_is)
    (case ha_Web => k_is)
    (case hn_Web => k_is)
    (case ht_Web => k_is)
    (case mo_Web => k_is)
    (case i_int_Web => first | rfl | k_is | decide +kernel)
    (case i_bool_Web => first | rfl | k_is | decide +kernel)
    (case i_tuple_Web => first | rfl | k_is | decide +kernel)
    (case i_list_Web => first | rfl | k_is | decide +kernel)
    (case na_Web_wares => k_is)
    (case na_Web_stalls => k_is)
    (case v_NO_STEPS => k_is)
    (case o_NO_STEPS => k_is)
    (case tv_NO_STEPS => exact ⟨(.cons ⟨_, rfl⟩ (.cons ⟨_, rfl⟩ (.cons ⟨_, rfl⟩ .nil))), by decide⟩)
    (case v_MOST_STALLS => k_is)
    (case v_MOST_WARES => k_is)
    (case a_is_integer => k_is)
    (case l_is_integer => k_is)
    (case c_is_integer => k_is)
    (case k_is_integer => k_is)
    (case a_is_row => k_is)
    (case l_is_row => k_is)
    (case c_is_row => k_is)
    (case k_is_row => k_is)
    (case a_is_fraction => k_is)
    (case l_is_fraction => k_is)
    (case c_is_fraction => k_is)
    (case k_is_fraction => k_is)
    (case a_is_some => k_is)
    (case l_is_some => k_is)
    (case c_is_some => k_is)
    (case k_is_some => k_is)
    (case a_lowest => k_is)
    (case l_lowest => k_is)
    (case c_lowest => k_is)
    (case k_lowest => k_is)
    (case a_multiplied => k_is)
    (case l_multiplied => k_is)
    (case c_multiplied => k_is)
    (case k_multiplied => k_is)
    (case a_squared => k_is)
    (case l_squared => k_is)
    (case c_squared => k_is)
    (case k_squared => k_is)
    (case a_lies_below => k_is)
    (case l_lies_below => k_is)
    (case c_lies_below => k_is)
    (case k_lies_below => k_is)
    (case a_is_stall => k_is)
    (case l_is_stall => k_is)
    (case c_is_stall => k_is)
    (case k_is_stall => k_is)
    (case a_is_ware => k_is)
    (case l_is_ware => k_is)
    (case c_is_ware => k_is)
    (case k_is_ware => k_is)
    (case a_check_ware => k_is)
    (case l_check_ware => k_is)
    (case c_check_ware => k_is)
    (case k_check_ware => k_is)
    (case a_check_two => k_is)
    (case l_check_two => k_is)
    (case c_check_two => k_is)
    (case k_check_two => k_is)
    (case a_across => k_is)
    (case l_across => k_is)
    (case c_across => k_is)
    (case k_across => k_is)
    (case a_hold_of => k_is)
    (case l_hold_of => k_is)
    (case c_hold_of => k_is)
    (case k_hold_of => k_is)
    (case a_is_index => k_is)
    (case l_is_index => k_is)
    (case c_is_index => k_is)
    (case k_is_index => k_is)
    (case a_check_some => k_is)
    (case l_check_some => k_is)
    (case c_check_some => k_is)
    (case k_check_some => k_is)
    (case a_is_step => k_is)
    (case l_is_step => k_is)
    (case c_is_step => k_is)
    (case k_is_step => k_is)
    (case a_end_of => k_is)
    (case l_end_of => k_is)
    (case c_end_of => k_is)
    (case k_end_of => k_is)
    (case a_is_walk => k_is)
    (case l_is_walk => k_is)
    (case c_is_walk => k_is)
    (case k_is_walk => k_is)
    (case a_check_route => k_is)
    (case l_check_route => k_is)
    (case c_check_route => k_is)
    (case k_check_route => k_is)
    (case a_rule_behind => k_is)
    (case l_rule_behind => k_is)
    (case c_rule_behind => k_is)
    (case k_rule_behind => k_is)
    (case a_rule_of => k_is)
    (case l_rule_of => k_is)
    (case c_rule_of => k_is)
    (case k_rule_of => k_is)
    (case a_out_by => k_is)
    (case l_out_by => k_is)
    (case c_out_by => k_is)
    (case k_out_by => k_is)
    (case a_route_out => k_is)
    (case l_route_out => k_is)
    (case c_route_out => k_is)
    (case k_route_out => k_is)
    (case a_routes_on => k_is)
    (case l_routes_on => k_is)
    (case c_routes_on => k_is)
    (case k_routes_on => k_is)
    (case a_best_route => k_is)
    (case l_best_route => k_is)
    (case c_best_route => k_is)
    (case k_best_route => k_is)
    (case a_l_is_integer => k_is)
    (case l_l_is_integer => k_is)
    (case c_l_is_integer => k_is)
    (case k_l_is_integer => k_is)
    (case a_l_source => k_is)
    (case l_l_source => k_is)
    (case c_l_source => k_is)
    (case k_l_source => k_is)
    (case a_l_draw => k_is)
    (case l_l_draw => k_is)
    (case c_l_draw => k_is)
    (case k_l_draw => k_is)
    (case a_l_made => k_is)
    (case l_l_made => k_is)
    (case c_l_made => k_is)
    (case k_l_made => k_is)
    (case a_l_plus => k_is)
    (case l_l_plus => k_is)
    (case c_l_plus => k_is)
    (case k_l_plus => k_is)
    (case a_l_times => k_is)
    (case l_l_times => k_is)
    (case c_l_times => k_is)
    (case k_l_times => k_is)
    (case a_l_over => k_is)
    (case l_l_over => k_is)
    (case c_l_over => k_is)
    (case k_l_over => k_is)
    (case a_l_below => k_is)
    (case l_l_below => k_is)
    (case c_l_below => k_is)
    (case k_l_below => k_is)
    (case a_l_some => k_is)
    (case l_l_some => k_is)
    (case c_l_some => k_is)
    (case k_l_some => k_is)
    (case a_l_stall => k_is)
    (case l_l_stall => k_is)
    (case c_l_stall => k_is)
    (case k_l_stall => k_is)
    (case a_l_stalls => k_is)
    (case l_l_stalls => k_is)
    (case c_l_stalls => k_is)
    (case k_l_stalls => k_is)
    (case a_l_piece => k_is)
    (case l_l_piece => k_is)
    (case c_l_piece => k_is)
    (case k_l_piece => k_is)
    (case a_l_pair => k_is)
    (case l_l_pair => k_is)
    (case c_l_pair => k_is)
    (case k_l_pair => k_is)
    (case a_l_same => k_is)
    (case l_l_same => k_is)
    (case c_l_same => k_is)
    (case k_l_same => k_is)
    (case a_l_rule => k_is)
    (case l_l_rule => k_is)
    (case c_l_rule => k_is)
    (case k_l_rule => k_is)
    (case a_l_comes => k_is)
    (case l_l_comes => k_is)
    (case c_l_comes => k_is)
    (case k_l_comes => k_is)
    (case a_l_routes => k_is)
    (case l_l_routes => k_is)
    (case c_l_routes => k_is)
    (case k_l_routes => k_is)
    (case a_l_fair => k_is)
    (case l_l_fair => k_is)
    (case c_l_fair => k_is)
    (case k_l_fair => k_is)
    (case a_l_web => k_is)
    (case l_l_web => k_is)
    (case c_l_web => k_is)
    (case k_l_web => k_is)
    (case a_l_best => k_is)
    (case l_l_best => k_is)
    (case c_l_best => k_is)
    (case k_l_best => k_is)
    (case a_law => k_is)
    (case l_law => k_is)
    (case c_law => k_is)
    (case k_law => k_is)
    (case l_Web_init => k_is)
    (case c_Web_init => k_is)
    (case k_Web_init => k_is)
    (case mi_Web_eq => k_is)
    (case l_Web_eq => k_is)
    (case c_Web_eq => k_is)
    (case k_Web_eq => k_is)
    (case mf_Web_eq => k_is)
    (case mn_Web => k_is)
