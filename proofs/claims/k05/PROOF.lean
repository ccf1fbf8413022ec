import PyProof.Rows.All
import Wide.All
import OpenK.AllK
import Wide.FinOn
import HandS.ForMost
import HandS.WideBits
import HandS.Gcd
import HandS.IsInst
import HandS.Style
import HandS.SetFor
import HandS.EndBits
import HandS.Codes
import HandS.ForExc
import HandS.Small
import HandS.Exc
import HandS.ExcOwn
import HandS.TryOnly
import HandS.WordsExc
import HandS.ExcInit
import HandS.ExcField
import Flt.RightSqrt
import HandS.GenYield
import HandS.OwnEq
import HandS.TupAny
import PyProof.Draws
import KE.DataMinMax
import HandS.Zip
import KE.GoesZip
import HandS.TupMul
import HandS.TryMany
import HandS.CallSlots
import PyProof.NeKinds
import PySem.Challenge.RW_rootstalls_k05_webs_judged
set_option Elab.async false
set_option linter.all false
set_option maxRecDepth 100000
set_option maxHeartbeats 4000000
namespace My
/-! ### fractions in lowest terms are the rationals -/
theorem rat_of {n : Int} {d : Nat} {r : Rat} (hd : d ≠ 0) (hc : n.natAbs.Coprime d) (h : Rat.divInt n (d : Int) = r) : r.num = n ∧ r.den = d := by
  subst h
  rw [← Rat.mk_eq_divInt (nz := hd) (c := hc)]
  exact ⟨rfl, rfl⟩
theorem rat_cross {n d : Int} {r : Rat} (hd : d ≠ 0) : Rat.divInt n d = r ↔ n * r.den = r.num * d := by
  have h := Rat.num_divInt_den r
  have hz : (r.den : Int) ≠ 0 := by
    have := r.den_pos
    omega
  constructor
  · intro e
    rw [← h] at e
    exact (Rat.divInt_eq_divInt_iff hd hz).mp e
  · intro e
    rw [← h]
    exact (Rat.divInt_eq_divInt_iff hd hz).mpr e
theorem den_pos (r : Rat) : (0 : Int) < r.den := by
  have := r.den_pos
  omega
theorem gcd_den (r : Rat) : Nat.gcd r.num.natAbs r.den = 1 := r.reduced
/-- the sum -/
theorem add_form (r s : Rat) (g ad bd : Nat) (top : Int) (g1 : Nat) (hg : g = r.den.gcd s.den) (had : ad = r.den / g) (hbd : bd = s.den / g) (ht : top = r.num * bd + s.num * ad) (h1 : g1 = top.natAbs.gcd g) :
    (r + s).num = top / g1 ∧ (r + s).den = ad * (s.den / g1) := by
  have hd := r.den_pos
  have hs := s.den_pos
  have gpos : 0 < g := hg ▸ Nat.gcd_pos_of_pos_left _ hd
  have ae : ad * g = r.den := had ▸ Nat.div_mul_cancel (hg ▸ Nat.gcd_dvd_left ..)
  have be : bd * g = s.den := hbd ▸ Nat.div_mul_cancel (hg ▸ Nat.gcd_dvd_right ..)
  have adpos : 0 < ad := by
    rcases Nat.eq_zero_or_pos ad with e | e
    · rw [e] at ae
      omega
    · exact e
  have aux : top.natAbs.gcd g = top.natAbs.gcd (ad * s.den) := by
    rw [ht]
    exact Rat.add.aux r s hg had hbd
  have g1pos : 0 < g1 := h1 ▸ Nat.gcd_pos_of_pos_right _ gpos
  have d1 : g1 ∣ top.natAbs := h1 ▸ Nat.gcd_dvd_left ..
  have d2 : g1 ∣ g := h1 ▸ Nat.gcd_dvd_right ..
  have d3 : g1 ∣ s.den := Nat.dvd_trans d2 ⟨bd, by rw [← be, Nat.mul_comm]⟩
  have e1 : ad * (s.den / g1) = ad * s.den / g1 := (Nat.mul_div_assoc ad d3).symm
  have d4 : g1 ∣ ad * s.den := Nat.dvd_trans d3 (Nat.dvd_mul_left ..)
  rw [e1]
  have tz : (g1 : Int) ∣ top := Int.ofNat_dvd_left.mpr d1
  have tm : top / g1 * g1 = top := Int.ediv_mul_cancel tz
  have dm : ad * s.den / g1 * g1 = ad * s.den := Nat.div_mul_cancel d4
  have nz : ad * s.den / g1 ≠ 0 := by
    intro e
    rw [e] at dm
    have : 0 < ad * s.den := Nat.mul_pos adpos hs
    omega
  refine rat_of nz ?_ ?_
  · have na : (top / (g1 : Int)).natAbs = top.natAbs / g1 := by
      rw [Int.natAbs_ediv_of_dvd tz, Int.natAbs_natCast]
    rw [na, h1, aux]
    exact Nat.coprime_div_gcd_div_gcd (Nat.gcd_pos_of_pos_right _ (Nat.mul_pos adpos hs))
  · have z1 : (g1 : Int) ≠ 0 := by omega
    have z2 : (g : Int) ≠ 0 := by omega
    rw [← Rat.divInt_mul_right z1, tm, ← Int.natCast_mul, dm, ← Rat.divInt_mul_right z2]
    have er := Rat.num_divInt_den r
    have es := Rat.num_divInt_den s
    have rz : (r.den : Int) ≠ 0 := by omega
    have sz : (s.den : Int) ≠ 0 := by omega
    have key := Rat.divInt_add_divInt r.num s.num rz sz
    rw [er, es] at key
    rw [key]
    have k1 : top * g = r.num * s.den + s.num * r.den := by
      rw [ht, ← be, ← ae, Int.natCast_mul, Int.natCast_mul, Int.add_mul, Int.mul_assoc, Int.mul_assoc]
    have k2 : ((ad * s.den : Nat) : Int) * (g : Int) = r.den * s.den := by
      rw [← ae, Int.natCast_mul, Int.natCast_mul, Int.mul_assoc, Int.mul_comm (s.den : Int), ← Int.mul_assoc]
    rw [k1, k2]
/-- the product -/
theorem mul_form (r s : Rat) (g1 g2 : Nat) (h1 : g1 = r.num.natAbs.gcd s.den) (h2 : g2 = s.num.natAbs.gcd r.den) :
    (r * s).num = r.num / g1 * (s.num / g2) ∧ (r * s).den = r.den / g2 * (s.den / g1) := by
  subst h1 h2
  have e : r * s = Rat.mul r s := rfl
  rw [e]
  unfold Rat.mul
  refine ⟨?_, ?_⟩
  · show r.num.divExact _ _ * s.num.divExact _ _ = _
    rw [Int.divExact_eq_tdiv, Int.divExact_eq_tdiv, Int.tdiv_eq_ediv_of_dvd, Int.tdiv_eq_ediv_of_dvd]
    · exact Int.ofNat_dvd_left.mpr (Nat.gcd_dvd_left ..)
    · exact Int.ofNat_dvd_left.mpr (Nat.gcd_dvd_left ..)
  · show r.den.divExact _ _ * s.den.divExact _ _ = _
    rw [Nat.divExact_eq_div, Nat.divExact_eq_div]
/-- lowest terms of any pair -/
theorem low_form (n d : Int) (hd : d ≠ 0) : (Rat.divInt n d).num = (if d < 0 then n / (-(n.natAbs.gcd d.natAbs : Nat) : Int) else n / (n.natAbs.gcd d.natAbs : Nat)) ∧
    ((Rat.divInt n d).den : Int) = (if d < 0 then d / (-(n.natAbs.gcd d.natAbs : Nat) : Int) else d / (n.natAbs.gcd d.natAbs : Nat)) := by
  have pos : ∀ (n d : Int), 0 < d → (Rat.divInt n d).num = n / (n.natAbs.gcd d.natAbs : Nat) ∧ ((Rat.divInt n d).den : Int) = d / (n.natAbs.gcd d.natAbs : Nat) := by
    intro n d h
    have gp : 0 < n.natAbs.gcd d.natAbs := Nat.gcd_pos_of_pos_right _ (by omega)
    have z1 : ((n.natAbs.gcd d.natAbs : Nat) : Int) ≠ 0 := by omega
    have dn : ((n.natAbs.gcd d.natAbs : Nat) : Int) ∣ n := Int.ofNat_dvd_left.mpr (Nat.gcd_dvd_left ..)
    have dd : ((n.natAbs.gcd d.natAbs : Nat) : Int) ∣ d := Int.ofNat_dvd_left.mpr (Nat.gcd_dvd_right ..)
    have e : d / ((n.natAbs.gcd d.natAbs : Nat) : Int) = ((d.natAbs / n.natAbs.gcd d.natAbs : Nat) : Int) := by
      rw [Int.natCast_ediv]
      congr 1
      omega
    have dpos : d.natAbs / n.natAbs.gcd d.natAbs ≠ 0 := Nat.ne_of_gt (Nat.div_pos (Nat.le_of_dvd (by omega) (Nat.gcd_dvd_right ..)) gp)
    have key := rat_of (n := n / ((n.natAbs.gcd d.natAbs : Nat) : Int)) (d := d.natAbs / n.natAbs.gcd d.natAbs) (r := Rat.divInt n d) dpos
      (by
        rw [Int.natAbs_ediv_of_dvd dn, Int.natAbs_natCast]
        exact Nat.coprime_div_gcd_div_gcd gp)
      (by rw [← e, ← Rat.divInt_mul_right z1, Int.ediv_mul_cancel dn, Int.ediv_mul_cancel dd])
    exact ⟨key.1, by rw [key.2, e]⟩
  rcases Int.lt_or_gt_of_ne hd with h | h
  · rw [if_pos h, if_pos h, ← Rat.neg_divInt_neg]
    have k := pos (-n) (-d) (by omega)
    rw [Int.natAbs_neg, Int.natAbs_neg] at k
    rw [k.1, k.2]
    have dn : ((n.natAbs.gcd d.natAbs : Nat) : Int) ∣ n := Int.ofNat_dvd_left.mpr (Nat.gcd_dvd_left ..)
    have dd : ((n.natAbs.gcd d.natAbs : Nat) : Int) ∣ d := Int.ofNat_dvd_left.mpr (Nat.gcd_dvd_right ..)
    rw [Int.neg_ediv_of_dvd dn, Int.neg_ediv_of_dvd dd, Int.ediv_neg, Int.ediv_neg]
    exact ⟨rfl, rfl⟩
  · have k := pos n d h
    rw [if_neg (by omega), if_neg (by omega)]
    exact k
theorem low_self (r : Rat) : Rat.divInt r.num r.den = r := Rat.num_divInt_den r
/-! ### sizes -/
def Bd (k : Nat) (r : Rat) : Prop := r.num.natAbs < 2 ^ k ∧ r.den < 2 ^ k
theorem Bd.mono {k l : Nat} {r : Rat} (h : Bd k r) (hl : k ≤ l) : Bd l r := ⟨Nat.lt_of_lt_of_le h.1 (Nat.pow_le_pow_right (by decide) hl), Nat.lt_of_lt_of_le h.2 (Nat.pow_le_pow_right (by decide) hl)⟩
theorem nat_mul_lt {a b k l : Nat} (ha : a < 2 ^ k) (hb : b < 2 ^ l) : a * b < 2 ^ (k + l) := by
  rw [Nat.pow_add]
  exact Nat.mul_lt_mul'' ha hb
theorem Bd.divInt {k : Nat} {n d : Int} (hd : d ≠ 0) (h1 : n.natAbs < 2 ^ k) (h2 : d.natAbs < 2 ^ k) : Bd k (Rat.divInt n d) := by
  obtain ⟨a, b⟩ := low_form n d hd
  have dn : ((n.natAbs.gcd d.natAbs : Nat) : Int) ∣ n := Int.ofNat_dvd_left.mpr (Nat.gcd_dvd_left ..)
  have dd : ((n.natAbs.gcd d.natAbs : Nat) : Int) ∣ d := Int.ofNat_dvd_left.mpr (Nat.gcd_dvd_right ..)
  have dp := (Rat.divInt n d).den_pos
  refine ⟨Nat.lt_of_le_of_lt ?_ h1, Nat.lt_of_le_of_lt ?_ h2⟩
  · rw [a]
    split
    · rw [Int.ediv_neg, Int.natAbs_neg, Int.natAbs_ediv_of_dvd dn]
      exact Nat.div_le_self _ _
    · rw [Int.natAbs_ediv_of_dvd dn]
      exact Nat.div_le_self _ _
  · have e : (Rat.divInt n d).den = ((Rat.divInt n d).den : Int).natAbs := (Int.natAbs_natCast _).symm
    rw [e, b]
    split
    · rw [Int.ediv_neg, Int.natAbs_neg, Int.natAbs_ediv_of_dvd dd]
      exact Nat.div_le_self _ _
    · rw [Int.natAbs_ediv_of_dvd dd]
      exact Nat.div_le_self _ _
theorem Bd.add {k l : Nat} {r s : Rat} (hr : Bd k r) (hs : Bd l s) : Bd (k + l + 1) (r + s) := by
  have rz : (r.den : Int) ≠ 0 := Int.ne_of_gt (den_pos r)
  have sz : (s.den : Int) ≠ 0 := Int.ne_of_gt (den_pos s)
  have key := Rat.divInt_add_divInt r.num s.num rz sz
  rw [low_self, low_self] at key
  rw [key]
  have a := nat_mul_lt hr.1 hs.2
  have b := nat_mul_lt hs.1 hr.2
  have c := nat_mul_lt hr.2 hs.2
  rw [Nat.add_comm l k] at b
  refine Bd.divInt (Int.mul_ne_zero rz sz) ?_ ?_
  · have h1 : (r.num * (s.den : Int) + s.num * (r.den : Int)).natAbs ≤ (r.num * (s.den : Int)).natAbs + (s.num * (r.den : Int)).natAbs := Int.natAbs_add_le _ _
    rw [Int.natAbs_mul, Int.natAbs_mul, Int.natAbs_natCast, Int.natAbs_natCast] at h1
    rw [Nat.pow_succ]
    omega
  · rw [Int.natAbs_mul, Int.natAbs_natCast, Int.natAbs_natCast, Nat.pow_succ]
    omega
theorem Bd.mul {k l : Nat} {r s : Rat} (hr : Bd k r) (hs : Bd l s) : Bd (k + l) (r * s) := by
  have rz : (r.den : Int) ≠ 0 := Int.ne_of_gt (den_pos r)
  have sz : (s.den : Int) ≠ 0 := Int.ne_of_gt (den_pos s)
  have key := Rat.divInt_mul_divInt r.num s.num (d₁ := r.den) (d₂ := s.den)
  rw [low_self, low_self] at key
  rw [key]
  refine Bd.divInt (Int.mul_ne_zero rz sz) ?_ ?_
  · rw [Int.natAbs_mul]
    exact nat_mul_lt hr.1 hs.1
  · rw [Int.natAbs_mul, Int.natAbs_natCast, Int.natAbs_natCast]
    exact nat_mul_lt hr.2 hs.2
theorem Bd.neg {k : Nat} {r : Rat} (hr : Bd k r) : Bd k (-r) := by
  refine ⟨?_, ?_⟩
  · rw [Rat.neg_num, Int.natAbs_neg]
    exact hr.1
  · rw [Rat.neg_den]
    exact hr.2
theorem Bd.sub {k l : Nat} {r s : Rat} (hr : Bd k r) (hs : Bd l s) : Bd (k + l + 1) (r - s) := by
  rw [Rat.sub_eq_add_neg]
  exact hr.add hs.neg
theorem inv_num {s : Rat} (h : s ≠ 0) : (if s.num < 0 then -(s.den : Int) else s.den) = (s⁻¹).num ∧ (if s.num < 0 then -s.num else s.num) = (s⁻¹).den := by
  have hn : s.num ≠ 0 := fun e => h (Rat.num_eq_zero.mp e)
  rw [Rat.num_inv, Rat.den_inv, if_neg hn]
  split
  · rename_i g
    rw [Int.sign_eq_neg_one_of_neg g]
    omega
  · rename_i g
    rw [Int.sign_eq_one_of_pos (by omega)]
    omega
theorem Bd.inv {k : Nat} {s : Rat} (h : s ≠ 0) (hs : Bd k s) : Bd k s⁻¹ := by
  obtain ⟨a, b⟩ := inv_num h
  have dp := den_pos s
  refine ⟨?_, ?_⟩
  · rw [← a]
    have := hs.2
    split <;> omega
  · have := hs.1
    have e : (s⁻¹).den = ((s⁻¹).den : Int).natAbs := (Int.natAbs_natCast _).symm
    rw [e, ← b]
    split <;> omega
theorem Bd.div {k l : Nat} {r s : Rat} (h : s ≠ 0) (hr : Bd k r) (hs : Bd l s) : Bd (k + l) (r / s) := by
  rw [Rat.div_def]
  exact hr.mul (hs.inv h)
end My
namespace My
open PySem PySem.Spec PyProof.Rows L2
theorem and_sw {A B : Prop} (b : B) (a : A) : A ∧ B := ⟨a, b⟩
theorem if_dec {p : Prop} [Decidable p] {A B : Prop} (h1 : p → A) (h2 : ¬ p → B) : if decide p = true then A else B := by
  by_cases h : p
  · rw [if_pos (decide_eq_true h)]
    exact h1 h
  · rw [if_neg (fun q => h (of_decide_eq_true q))]
    exact h2 h
theorem if_ndec {p : Prop} [Decidable p] {A B : Prop} (h1 : ¬ p → A) (h2 : p → B) : if (!decide p) = true then A else B := by
  by_cases h : p
  · rw [decide_eq_true h]
    exact iteF (h2 h)
  · rw [decide_eq_false h]
    exact iteT (h1 h)
/-- // by a divisor that is not 0, below 2 ^ 9000 -/
def CDivX (_ j : Int) : Prop := j ≠ 0 ∧ j.natAbs.log2 < 9000
section
variable {X : Cx}
theorem op_fdivX : OpR X (binaryOp .FloorDiv) (rI CDivX fun i j => .int (i.fdiv j)) := opI fun _ _ _ _ _ _ _ hc q => floordiv_int hc.1 q (.inl (PyProof.noPylong_of_log2 hc.2))
end
theorem cdivx {i j : Int} {b : Nat} (h : j ≠ 0) (hb : j.natAbs < 2 ^ b) (h9 : b ≤ 9000) : CDivX i j := by
  refine ⟨h, ?_⟩
  by_cases h0 : b = 0
  · subst h0
    omega
  · exact Nat.lt_of_lt_of_le (PySem.Flt.log2_lt_of (by omega) hb) h9
/-! ### heaps: all that was there, but what stands at D, stands -/
def Fw (D : Addr) (H H' : Hp) : Prop := ∀ b o, b ≠ D → H b = some o → H' b = some o
theorem Fw.refl (D : Addr) (H : Hp) : Fw D H H := fun _ _ _ h => h
theorem Fw.trans {D : Addr} {H H1 H2 : Hp} (a : Fw D H H1) (b : Fw D H1 H2) : Fw D H H2 := fun c o n h => b c o n (a c o n h)
theorem Same.fw {D : Addr} {H H' : Hp} (s : Same H H') : Fw D H H' := fun b o _ h => s b o h
theorem same_upd {H : Hp} {p : Addr} {o : HO} (h : H p = none) : Same H (upd H p o) := fun b x e => by
  rw [upd_ne (ne_of_none e h)]
  exact e
theorem fw_upd {D : Addr} {H : Hp} {o : HO} : Fw D H (upd H D o) := fun b x n e => by
  rw [upd_ne n]
  exact e
/-! ### the deck -/
def Deck (M : Nat) (D C : Addr) (H : Hp) (c : Nat) : Prop := ∃ (cells : List Int) (pl rest cnt : Int), C ≠ D ∧ H D = some (.lst [.ref C, .int pl, .int rest, .int cnt]) ∧ H C = some (.lst (cells.map V.int)) ∧
  cells.length ≤ 63 ∧ (∀ z ∈ cells, z.natAbs < 2 ^ M) ∧ (0 ≤ rest ∧ rest.natAbs < 2 ^ M) ∧ 0 ≤ cnt ∧ cnt ≤ c
theorem Deck.same {M : Nat} {D C : Addr} {H H' : Hp} {c : Nat} (d : Deck M D C H c) (s : Same H H') : Deck M D C H' c := by
  obtain ⟨cells, pl, rest, cnt, h0, h1, h2, h3⟩ := d
  exact ⟨cells, pl, rest, cnt, h0, s _ _ h1, s _ _ h2, h3⟩
theorem Deck.mono {M : Nat} {D C : Addr} {H : Hp} {c c' : Nat} (d : Deck M D C H c) (h : c ≤ c') : Deck M D C H c' := by
  obtain ⟨cells, pl, rest, cnt, h0, h1, h2, h3, h4, h5, h6, h7⟩ := d
  exact ⟨cells, pl, rest, cnt, h0, h1, h2, h3, h4, h5, h6, by omega⟩
theorem Deck.ne {M : Nat} {D C p : Addr} {H : Hp} {c : Nat} (d : Deck M D C H c) (h : H p = none) : p ≠ D := by
  obtain ⟨cells, pl, rest, cnt, h0, h1, h2⟩ := d
  exact (ne_of_none h1 h).symm
theorem Deck.neC {M : Nat} {D C p : Addr} {H : Hp} {c : Nat} (d : Deck M D C H c) (h : H p = none) : p ≠ C := by
  obtain ⟨cells, pl, rest, cnt, h0, h1, h2, _⟩ := d
  exact (ne_of_none h2 h).symm
theorem Deck.put {M : Nat} {D C p : Addr} {H : Hp} {c : Nat} {o : HO} (d : Deck M D C H c) (n1 : p ≠ D) (n2 : p ≠ C) : Deck M D C (upd H p o) c := by
  obtain ⟨cells, pl, rest, cnt, h0, h1, h2, h3⟩ := d
  exact ⟨cells, pl, rest, cnt, h0, (upd_ne (Ne.symm n1)).trans h1, (upd_ne (Ne.symm n2)).trans h2, h3⟩
theorem pow_le {a b : Nat} (h : a ≤ b) : (2 : Nat) ^ a ≤ 2 ^ b := Nat.pow_le_pow_right (by decide) h
theorem div_small {i j : Int} {M : Nat} (h0 : 0 ≤ i) (h : i.natAbs < 2 ^ M) (hj : 0 < j) : 0 ≤ i.fdiv j ∧ (i.fdiv j).natAbs < 2 ^ M := by
  rw [Int.fdiv_eq_ediv_of_nonneg i (by omega)]
  have a := Int.ediv_nonneg h0 (Int.le_of_lt hj)
  have b : i / j ≤ i := Int.ediv_le_self j h0
  exact ⟨a, by omega⟩
end My
namespace My
open PySem PySem.Spec PyProof.Rows L2
theorem at_ints {cells : List Int} {i : Int} (h0 : 0 ≤ i) (h1 : i < ((cells.map V.int).length : Nat)) : ∃ z, z ∈ cells ∧ atI (cells.map V.int) i = some (.int z) := by
  obtain ⟨j, rfl⟩ := Int.eq_ofNat_of_zero_le h0
  rw [List.length_map] at h1
  have hj : j < cells.length := by omega
  refine ⟨cells[j], List.getElem_mem hj, atI_nat ?_⟩
  rw [List.getElem?_map, List.getElem?_eq_getElem hj]
  rfl
theorem bits_lt {z : Int} {M : Nat} (h : Builtin.Int.intBits z ≤ M) : z.natAbs < 2 ^ M := by
  unfold Builtin.Int.intBits at h
  split at h
  · rename_i e
    have e' : z = 0 := by simpa using e
    subst e'
    exact Nat.two_pow_pos M
  · have := Nat.lt_log2_self (n := z.natAbs)
    exact Nat.lt_of_lt_of_le this (pow_le h)
theorem pw_big {z cnt : Int} {c M : Nat} (hz : z.natAbs < 2 ^ M) (hM : 64 ≤ M) (h0 : 0 ≤ cnt) (h1 : cnt ≤ c) (hc : c ≤ 2 ^ 40) : (z + 7919 * (cnt + 1) + 1).natAbs < 2 ^ (M + 1) := by
  have e : (2 : Nat) ^ 64 ≤ 2 ^ M := pow_le hM
  rw [Nat.pow_succ]
  generalize (2 : Nat) ^ M = p at *
  omega
theorem fdiv_dvd {a b : Int} (h : b ∣ a) : a.fdiv b = a / b := by
  obtain ⟨c, rfl⟩ := h
  by_cases hb : b = 0
  · subst hb
    rw [Int.zero_mul]
    simp
  · rw [Int.mul_fdiv_cancel_left _ hb, Int.mul_ediv_cancel_left _ hb]
theorem mod_rng (x : Int) {m : Int} (h : 0 < m) : 0 ≤ x % m ∧ x % m < m := ⟨Int.emod_nonneg _ (by omega), Int.emod_lt_of_pos _ h⟩
end My
namespace My
open PySem PySem.Spec PyProof.Rows L2
theorem cpow_of {i j : Int} (h : 0 ≤ j ∧ j ≤ 1000000 ∧ i.natAbs < 2 ^ 64) : CPow i j := h
theorem ten18 : (0 : Int) ≤ 10 ^ (18 : Int).toNat := by decide
theorem cmul_small {i j : Int} (h : i.natAbs < 2 ^ 64) (h2 : j.natAbs < 2 ^ 64) : CMulX i j := mulx_ok h h2 (by decide)
theorem cmul_big {i j : Int} {M : Nat} (h : i.natAbs < 2 ^ M) (h2 : j.natAbs < 2 ^ 64) (hM : M ≤ 100000000) : CMulX i j := mulx_ok h h2 (by omega)
theorem pick_mul2 (x : Int) {m k : Int} (h0 : 0 < m) (hm : m.natAbs < 2 ^ 32) (hk : k.natAbs < 2 ^ 32) {d : Int} (hd : 0 < d) : CMulX (x % m) ((x % m).fdiv d + k) := by
  obtain ⟨a, b⟩ := mod_rng x h0
  rw [Int.fdiv_eq_ediv_of_nonneg _ (by omega)]
  have c := Int.ediv_nonneg a (Int.le_of_lt hd)
  have e : (x % m) / d ≤ x % m := Int.ediv_le_self d a
  exact cmul_small (by omega) (by omega)
end My
namespace My
open PySem PySem.Spec PyProof.Rows L2
variable {K : PySem.W.Frag}
/-! ### isinstance -/
section
variable {K : PySem.W.Frag} {H : Hp} {Q : VK}
theorem isi_int_int {i : Int} (q : Q (.bl true) H) : rIsi K [.int i, .ty "int"] H Q := ⟨_, _, _, _, _, rfl, .ty _, .base (.int _), kit_ty (by decide +kernel), q⟩
theorem isi_int_bool {i : Int} (q : Q (.bl false) H) : rIsi K [.int i, .ty "bool"] H Q := ⟨_, _, _, _, _, rfl, .ty _, .base (.int _), kit_ty (by decide +kernel), q⟩
theorem isi_bl_bool {b : Bool} (q : Q (.bl true) H) : rIsi K [.bl b, .ty "bool"] H Q := ⟨_, _, _, _, _, rfl, .ty _, .base (.bl _), kit_ty (by decide +kernel), q⟩
theorem isi_tup_tup {p : Addr} {xs : List V} (h : H p = some (.tup xs)) (q : Q (.bl true) H) : rIsi K [.ref p, .ty "tuple"] H Q := ⟨_, _, _, _, _, rfl, .ty _, .base (.tup h), kit_ty (by decide +kernel), q⟩
end
/-! ### a fraction that stands in the heap -/
abbrev frV (r : Rat) : List V := [.int r.num, .int r.den]
/-- a tuple: in the heap, or one of the module's own -/
def Tp (K : PySem.W.Frag) (H : Hp) (p : Addr) (xs : List V) : Prop := H p = some (.tup xs) ∨ SqT K (fun _ => none) p xs
theorem Tp.same {H H' : Hp} {p : Addr} {xs : List V} (s : Same H H') (h : Tp K H p xs) : Tp K H' p xs := h.imp (fun h => s _ _ h) id
theorem Tp.sq {H : Hp} {p : Addr} {xs : List V} (h : Tp K H p xs) : SqT K H p xs := by
  rcases h with h | (h | ⟨_, h⟩) | h
  · exact .of h
  · cases h
  · cases h
  · exact .inr h
def IsF (K : PySem.W.Frag) (H : Hp) (v : V) (r : Rat) : Prop := ∃ p, v = .ref p ∧ Tp K H p (frV r)
theorem IsF.same {H H' : Hp} {v : V} {r : Rat} (s : Same H H') (h : IsF K H v r) : IsF K H' v r := by
  obtain ⟨p, e, h⟩ := h
  exact ⟨p, e, h.same s⟩
theorem Tp.new {H : Hp} {p : Addr} {xs : List V} : Tp K (upd H p (.tup xs)) p xs := .inl upd_same
theorem at_same {H H' : Hp} {p : Addr} {o : HO} (s : Same H H') (h : H p = some o) : H' p = some o := s _ _ h
theorem Tp.fw {M : Nat} {D C : Addr} {c : Nat} {H H' : Hp} {p : Addr} {xs : List V} (d : Deck M D C H c) (s : Fw D H H') (h : Tp K H p xs) : Tp K H' p xs := by
  obtain ⟨cells, pl, rest, cnt, h0, h1, h2⟩ := d
  exact h.imp (fun h => s _ _ (ne_of h h1 (by intro z; cases z)) h) id
theorem IsF.fw {M : Nat} {D C : Addr} {c : Nat} {H H' : Hp} {v : V} {r : Rat} (d : Deck M D C H c) (s : Fw D H H') (h : IsF K H v r) : IsF K H' v r := by
  obtain ⟨p, e, h⟩ := h
  exact ⟨p, e, h.fw d s⟩
/-- all tuples stand -/
def Tps (H H' : Hp) : Prop := ∀ b xs, H b = some (.tup xs) → H' b = some (.tup xs)
theorem Tp.ts {H H' : Hp} {p : Addr} {xs : List V} (f : Tps H H') (h : Tp K H p xs) : Tp K H' p xs := h.imp (fun h => f _ _ h) id
theorem isi_tp {K' : PySem.W.Frag} {H : Hp} {Q : VK} {p : Addr} {xs : List V} (h : Tp K' H p xs) (hk : K' = K) (q : Q (.bl true) H) : rIsi K [.ref p, .ty "tuple"] H Q := by
  subst hk
  rcases h with h | (h | ⟨_, h⟩) | ⟨o, its, n, h1, h2, _⟩
  · exact ⟨_, _, _, _, _, rfl, .ty _, .base (.tup h), kit_ty (by decide +kernel), q⟩
  · cases h
  · cases h
  · exact ⟨_, _, _, _, _, rfl, .ty _, .kTuple h1 h2, kit_ty (by decide +kernel), q⟩
theorem isF_new {H : Hp} {p : Addr} {a b : Int} {r : Rat} (h1 : r.num = a) (h2 : (r.den : Int) = b) : IsF K (upd H p (.tup [.int a, .int b])) (.ref p) r := by
  subst h1 h2
  exact ⟨p, rfl, .new⟩
def frD (r : Rat) : PyData := .tuple [.int r.num, .int r.den]
theorem IsF.dp {K : PySem.W.Frag} {H : Hp} {v : V} {r : Rat} (h : IsF K H v r) : Dp K H v (frD r) := by
  obtain ⟨p, rfl, h⟩ := h
  exact .tup h.sq (.cons (.int _) (.cons (.int _) .nil))
theorem frD_shaped (r : Rat) : SeqAt.shaped (frD r) = true := by rfl
theorem frD_eqv (r s : Rat) : PyData.eqv (frD r) (frD s) = decide (r = s) := by
  have e : PyData.eqv (frD r) (frD s) = (decide (r.num = s.num) && decide ((r.den : Int) = s.den)) := by
    simp only [frD, PyData.eqv, PyData.eqvAll, Bool.and_true, Bool.beq_eq_decide_eq]
  rw [e, Bool.eq_iff_iff]
  simp only [Bool.and_eq_true, decide_eq_true_eq]
  constructor
  · rintro ⟨a, b⟩
    exact Rat.ext a (by omega)
  · rintro rfl
    exact ⟨rfl, rfl⟩
theorem eqF {K : PySem.W.Frag} {H : Hp} {v w : V} {r s : Rat} {Q : VK} (h1 : IsF K H v r) (h2 : IsF K H w s) (q : Q (.bl (decide (r = s))) H) : rEqD K v w H Q := ⟨_, _, h1.dp, h2.dp, frD_shaped r, frD_shaped s, by rw [frD_eqv]; exact q⟩
theorem neF {K : PySem.W.Frag} {H : Hp} {v w : V} {r s : Rat} {Q : VK} (h1 : IsF K H v r) (h2 : IsF K H w s) (q : Q (.bl (!decide (r = s))) H) : rNeD K v w H Q := ⟨_, _, h1.dp, h2.dp, frD_shaped r, frD_shaped s, by rw [frD_eqv]; exact q⟩
end My
namespace My
open PySem PySem.Spec PyProof.Rows L2
/-! ### calls of built-ins by named readings -/
def rInt : List V → Hp → VK → Prop := fun xs H Q => (∃ i, xs = [.int i] ∧ Q (.int i) H) ∨ ∃ k, xs = [.bl k] ∧ Q (.int (if k then 1 else 0)) H
def rLen (K : PySem.W.Frag) : List V → Hp → VK → Prop := fun xs H Q => ∃ p ys, xs = [.ref p] ∧ (SqL K H p ys ∨ SqT K H p ys) ∧ Q (.int ys.length) H
def rAbs : List V → Hp → VK → Prop := fun xs H Q => ∃ i, xs = [.int i] ∧ Q (.int (if i < 0 then -i else i)) H
def rMin : List V → Hp → VK → Prop := fun xs H Q => ∃ i j, xs = [.int i, .int j] ∧ Q (.int (if j < i then j else i)) H
theorem call_intN {X : Cx} : CallR X (.type "int") rInt := call_int1
theorem call_lenN {X : Cx} : CallR X (.builtin "len") (rLen X.K) := call_len_seq
theorem call_absN {X : Cx} : CallR X (.builtin "abs") rAbs := call_abs
theorem call_minN {X : Cx} (hc : X.calm = true) : CallR X (.builtin "min") rMin := call_min2 hc
/-! ### a reading, one step a rule: each says what its left side asks first -/
section
variable {σ : L2.St} {H : Hp} {Q : VK} {K : PySem.W.Frag} {D : Ends} {ta tb te : TE} {t : TA} {i : Nat} {v x y : V}
theorem rd_var (e : σ[i]? = some (some v)) (q : Q v H) : tVar i σ H Q := ⟨v, e, q⟩
theorem rd_C (q : Q v H) : tC v σ H Q := q
theorem rd_op {r : R2} (h : ta σ H fun x H1 => tb σ H1 fun y H2 => r x y H2 Q) : tOp r ta tb σ H Q := h
theorem rd_un {r : V → Hp → VK → Prop} (h : ta σ H fun x H1 => r x H1 Q) : tUn r ta σ H Q := h
theorem rd_CB {r : List V → Hp → VK → Prop} (h : t σ H fun vs H1 => r vs H1 Q) : tCB r t σ H Q := h
theorem rd_nil {Q : List V → Hp → Prop} (q : Q [] H) : tNil σ H Q := q
theorem rd_cons {Q : List V → Hp → Prop} (h : ta σ H fun x H1 => t σ H1 fun xs H2 => Q (x :: xs) H2) : tCons ta t σ H Q := h
theorem rd_call {sp : Sp} {dvs : List V} {E : XK} (h : t σ H fun vs H1 => sp (vs ++ dvs) H1 Q E) : tCall sp dvs E t σ H Q := h
theorem rd_rI {C : Int → Int → Prop} {g : Int → Int → V} {i j : Int} (q : Q (g i j) H) (c : C i j) : rI C g (.int i) (.int j) H Q := ⟨i, j, rfl, rfl, c, q⟩
theorem rd_rI0 {g : Int → Int → V} {i j : Int} (q : Q (g i j) H) : rI0 g (.int i) (.int j) H Q := ⟨i, j, rfl, rfl, q⟩
theorem rd_rU {g : Int → V} {i : Int} (q : Q (g i) H) : rU g (.int i) H Q := ⟨i, rfl, q⟩
theorem rd_eq (s : scal x y = true) (q : Q (.bl (decide (x = y))) H) : rEq x y H Q := ⟨s, q⟩
theorem rd_ne (s : scal x y = true) (q : Q (.bl (!decide (x = y))) H) : rNe x y H Q := ⟨s, q⟩
theorem int_eq {i j : Int} : (V.int i = V.int j) = (i = j) := by simp
theorem rd_eqI {i j : Int} (q : Q (.bl (decide (i = j))) H) : rEq (.int i) (.int j) H Q := ⟨rfl, by simpa using q⟩
theorem rd_neI {i j : Int} (q : Q (.bl (!decide (i = j))) H) : rNe (.int i) (.int j) H Q := ⟨rfl, by simpa using q⟩
theorem rd_ixL {p : Addr} {xs : List V} {i : Int} {v : V} (h : H p = some (.lst xs)) (e : atI xs i = some v) (q : Q v H) : rIxL K (.ref p) (.int i) H Q := ⟨p, xs, i, v, rfl, rfl, .of h, e, q⟩
theorem rd_ixT {p : Addr} {xs : List V} {i : Int} {v : V} (h : H p = some (.tup xs)) (e : atI xs i = some v) (q : Q v H) : rIxT K (.ref p) (.int i) H Q := ⟨p, xs, i, v, rfl, rfl, .of h, e, q⟩
theorem rd_ixTp {K' : PySem.W.Frag} {p : Addr} {xs : List V} {i : Int} {v : V} (h : Tp K' H p xs) (hk : K' = K) (e : atI xs i = some v) (q : Q v H) : rIxT K (.ref p) (.int i) H Q := ⟨p, xs, i, v, rfl, rfl, hk ▸ h.sq, e, q⟩
theorem rd_setL {p : Addr} {xs : List V} {k : Int} {j : Nat} {Q : Hp → Prop} (h : H p = some (.lst xs)) (e : ixN xs.length k = some j) (q : Q (upd H p (.lst (xs.set j v)))) : rSetL (.ref p) (.int k) v H Q := ⟨p, xs, k, j, rfl, rfl, h, e, q⟩
theorem rd_gcd {a b : Int} (q : Q (.int ((Nat.gcd a.natAbs b.natAbs : Nat) : Int)) H) : rGcd [.int a, .int b] H Q := ⟨a, b, rfl, q⟩
theorem rd_bits (h : te σ H fun x H1 => ∃ i, x = .int i ∧ Q (.int (Builtin.Int.intBits i : Nat)) H1) : tBits te σ H Q := h
theorem rd_tup (h : t σ H fun xs H1 => xs.length ≤ sizeLine ∧ ∀ p, H1 p = none → Q (.ref p) (upd H1 p (.tup xs))) : tTup t σ H Q := h
theorem rd_lst (h : t σ H fun xs H1 => xs.length ≤ sizeLine ∧ ∀ p, H1 p = none → Q (.ref p) (upd H1 p (.lst xs))) : tLst t σ H Q := h
theorem rd_sl {r : V → Option Int → Option Int → Hp → VK → Prop} {tl th : TO} (h : te σ H fun x H1 => tl σ H1 fun l H2 => th σ H2 fun u H3 => r x l u H3 Q) : tSl r te tl th σ H Q := h
theorem rd_part {Q : Option Int → Hp → Prop} (h : te σ H fun x H1 => ∃ i, x = .int i ∧ Q (some i) H1) : tPart te σ H Q := h
theorem rd_nopart {Q : Option Int → Hp → Prop} (h : Q none H) : tNoPart σ H Q := h
theorem rd_slL {a : Addr} {xs : List V} {lo hi : Option Int} (h : SqL K H a xs) (q : ∀ p, H p = none → Q (.ref p) (upd H p (.lst (cutV xs lo hi)))) : rSlL K (.ref a) lo hi H Q := ⟨a, xs, rfl, h, q⟩
theorem rd_bm {T : String} {r : V → List V → Hp → VK → Prop} (h : te σ H fun x H1 => tyV K T x H1 ∧ t σ H1 fun xs H2 => r x xs H2 Q) : tBM K T r te t σ H Q := h
theorem rd_chain {r r' : R2} (h : ta σ H fun x H1 => tb σ H1 fun y H2 => r x y H2 fun z H3 => ∃ k, z = .bl k ∧ (if k = true then te σ H3 fun w' H4 => r' y w' H4 Q else Q (.bl false) H3)) : tChain r r' ta tb te σ H Q := h
theorem rd_andV (h : ta σ H fun x H1 => ∃ c, x = .bl c ∧ if c = true then tb σ H1 Q else Q (.bl false) H1) : tAndV ta tb σ H Q := h
theorem rd_orV (h : ta σ H fun x H1 => ∃ c, x = .bl c ∧ if c = true then Q (.bl true) H1 else tb σ H1 Q) : tOrV ta tb σ H Q := h
theorem rd_notV (h : ta σ H fun x H1 => ∃ c, x = .bl c ∧ Q (.bl (!c)) H1) : tNotV ta σ H Q := h
theorem rd_ifE {c : TT} (h : c σ H fun c H1 => if c = true then ta σ H1 Q else tb σ H1 Q) : tIf c ta tb σ H Q := h
section
variable {Q : Bool → Hp → Prop} {u u' : TT}
theorem rd_test (h : te σ H fun x H' => ∃ k, x = .bl k ∧ Q k H') : tTest te σ H Q := h
theorem rd_B (h : te σ H fun x H1 => ∃ c, x = .bl c ∧ Q c H1) : tB te σ H Q := h
theorem rd_not (h : u σ H fun c H1 => Q (!c) H1) : tNot u σ H Q := h
theorem rd_and (h : u σ H fun c H1 => if c = true then u' σ H1 Q else Q false H1) : tAnd u u' σ H Q := h
theorem rd_or (h : u σ H fun c H1 => if c = true then Q true H1 else u' σ H1 Q) : tOr u u' σ H Q := h
theorem rd_yes (q : Q true H) : tYes σ H Q := q
end
section
variable {s s' : TS} {g : TG} {gs : TGs}
theorem rd_seq (h : s { D with nx := s' D } σ H) : tSeq s s' D σ H := h
theorem rd_next (h : D.nx σ H) : tNext D σ H := h
theorem rd_drop (h : te σ H fun _ H1 => D.nx σ H1) : tDrop te D σ H := h
theorem rd_ret (h : te σ H D.rt) : tRet te D σ H := h
theorem rd_ifS {c : TT} (h : c σ H fun b H1 => if b = true then s D σ H1 else s' D σ H1) : tIfS c s s' D σ H := h
theorem rd_asg (h : te σ H fun x H1 => g x σ H1 D.nx) : tAsg te g D σ H := h
theorem rd_gName {Q : L2.St → Hp → Prop} (h : Q (σ.set i (some v)) H) : gName i v σ H Q := h
theorem rd_gSub {Q : L2.St → Hp → Prop} {ts : TSet} (h : ta σ H fun o H1 => tb σ H1 fun i H2 => ts o i v H2 fun H3 => Q σ H3) : gSub ta tb ts v σ H Q := h
theorem rd_gTup {Q : L2.St → Hp → Prop} {p : Addr} {xs : List V} {n : Nat} (h : H p = some (.tup xs)) (e : xs.length = n) (q : gs xs σ H Q) : gTup K n gs (.ref p) σ H Q := ⟨p, xs, rfl, .of h, e, q⟩
theorem rd_gTp {K' : PySem.W.Frag} {Q : L2.St → Hp → Prop} {p : Addr} {xs : List V} {n : Nat} (h : Tp K' H p xs) (hk : K' = K) (e : xs.length = n) (q : gs xs σ H Q) : gTup K n gs (.ref p) σ H Q := ⟨p, xs, rfl, hk ▸ h.sq, e, q⟩
theorem rd_gNil {Q : L2.St → Hp → Prop} (q : Q σ H) : gNil [] σ H Q := ⟨rfl, q⟩
theorem rd_gCons {Q : L2.St → Hp → Prop} {r : List V} (h : g v σ H fun σ' H' => gs r σ' H' Q) : gCons g gs (v :: r) σ H Q := ⟨v, r, rfl, h⟩
theorem rd_for {wi : TI} (h : wi σ H fun J H1 => ∃ W : Nat → Nat → L2.St → Hp → Prop, (∃ m, W 0 m σ H1) ∧ ∀ i m σ H, W i m σ H →
  (J.stop i H ∧ D.nx σ H) ∨ (J.go i H ∧ ∃ N : L2.St → Hp → Prop, (∀ σ' H', N σ' H' → ∃ m', m' < m ∧ W (i + 1) m' σ' H') ∧ ∀ x H', J.yld i H x H' → g x σ H' fun σ2 H2 => s { D with nx := N, ct := N, bk := D.nx } σ2 H2)) : tFor wi g s D σ H := h
theorem rd_rng1 {R : It → Hp → Prop} (h : t σ H fun vs H1 => ∃ j : Int, vs = [.int j] ∧ -(2 ^ 62) ≤ j ∧ j < 2 ^ 62 ∧ R (Itr 0 j.toNat) H1) : iRng1 t σ H R := h
theorem rd_itL {R : It → Hp → Prop} (h : te σ H fun x H1 => ∃ a, x = .ref a ∧ (∃ xs, SqL K H1 a xs) ∧ R (Itl K a) H1) : iList K te σ H R := h
theorem rd_itT {R : It → Hp → Prop} (h : te σ H fun x H1 => ∃ a, x = .ref a ∧ (∃ xs, SqT K H1 a xs) ∧ R (Itt K a) H1) : iTup K te σ H R := h
end
theorem if_T {p : Prop} [Decidable p] {A B : Prop} (hp : p) (h : A) : if decide p = true then A else B := by
  rw [if_pos (decide_eq_true hp)]
  exact h
theorem if_F {p : Prop} [Decidable p] {A B : Prop} (hp : ¬ p) (h : B) : if decide p = true then A else B := by
  rw [if_neg (fun q => hp (of_decide_eq_true q))]
  exact h
theorem if_nF {p : Prop} [Decidable p] {A B : Prop} (hp : p) (h : B) : if (!decide p) = true then A else B := by
  rw [decide_eq_true hp]
  exact iteF h
theorem if_nT {p : Prop} [Decidable p] {A B : Prop} (hp : ¬ p) (h : A) : if (!decide p) = true then A else B := by
  rw [decide_eq_false hp]
  exact iteT h
theorem ite_nt {A B : Prop} (h : B) : if (!true) = true then A else B := iteF h
theorem ite_nf {A B : Prop} (h : A) : if (!false) = true then A else B := iteT h
theorem rd_len {xs : List V} {R : Prop} (q : R) (h : xs.length.ble sizeLine = true) : xs.length ≤ sizeLine ∧ R := ⟨Nat.le_of_ble_eq_true h, q⟩
theorem rd_lenL {p : Addr} {xs : List V} (q : Q (.int xs.length) H) (h : H p = some (.lst xs)) : rLen K [.ref p] H Q := ⟨p, xs, rfl, .inl (.of h), q⟩
theorem rd_lenS {p : Addr} {xs : List V} (q : Q (.int xs.length) H) (h : SqL K H p xs) : rLen K [.ref p] H Q := ⟨p, xs, rfl, .inl h, q⟩
theorem rd_lenT {p : Addr} {xs : List V} (q : Q (.int xs.length) H) (h : H p = some (.tup xs)) : rLen K [.ref p] H Q := ⟨p, xs, rfl, .inr (.of h), q⟩
theorem rd_lenTp {K' : PySem.W.Frag} {p : Addr} {xs : List V} (q : Q (.int xs.length) H) (h : Tp K' H p xs) (hk : K' = K) : rLen K [.ref p] H Q := ⟨p, xs, rfl, .inr (hk ▸ h.sq), q⟩
theorem rd_int {i : Int} (q : Q (.int i) H) : rInt [.int i] H Q := .inl ⟨i, rfl, q⟩
theorem rd_intB {k : Bool} (q : Q (.int (if k then 1 else 0)) H) : rInt [.bl k] H Q := .inr ⟨k, rfl, q⟩
theorem rd_abs {i : Int} (q : Q (.int (i.natAbs : Nat)) H) : rAbs [.int i] H Q := ⟨i, rfl, by
  have e : (if i < 0 then -i else i) = (i.natAbs : Int) := by split <;> omega
  rw [e]
  exact q⟩
theorem rd_min {i j : Int} (q : Q (.int (min i j)) H) : rMin [.int i, .int j] H Q := ⟨i, j, rfl, by
  have e : (if j < i then j else i) = min i j := by split <;> omega
  rw [e]
  exact q⟩
theorem rd_neB {a b : Bool} (q : Q (.bl (!decide (a = b))) H) : rNe (.bl a) (.bl b) H Q := ⟨rfl, by simpa using q⟩
theorem rd_eqB {a b : Bool} (q : Q (.bl (decide (a = b))) H) : rEq (.bl a) (.bl b) H Q := ⟨rfl, by simpa using q⟩
theorem rd_neS {a b : Str} (q : Q (.bl (!decide (a = b))) H) : rNe (.str a) (.str b) H Q := ⟨rfl, by simpa using q⟩
theorem rd_eqS {a b : Str} (q : Q (.bl (decide (a = b))) H) : rEq (.str a) (.str b) H Q := ⟨rfl, by simpa using q⟩
theorem rd_isBl {a b : Bool} (q : Q (.bl (decide (a = b))) H) : rIsB (.bl a) (.bl b) H Q := ⟨a, b, rfl, rfl, q⟩
end
end My
namespace My
open PySem PySem.Spec PyProof.Rows L2
theorem rd_lc {wi : TI} {g : TG} {tt : TT} {te : TE} {vs : List Nat} {σ : L2.St} {H : Hp} {Q : VK} (h : wi σ H fun J H1 => ∀ D, H1 D = none → ∃ W : Nat → Nat → Hp → Prop, (∃ m, W 0 m (upd H1 D (.lst []))) ∧ ∀ i m H, W i m H →
  (J.stop i H ∧ Q (.ref D) H) ∨ (J.go i H ∧ ∃ Nx : Hp → Prop, (∀ H', Nx H' → ∃ m', m' < m ∧ W (i + 1) m' H') ∧ ∀ x H', J.yld i H x H' → g x (wipe σ vs) H' fun σ2 H2 => wipe σ2 vs = wipe σ vs ∧ tt σ2 H2 fun b H3 =>
    if b = true then te σ2 H3 fun y H4 => ∃ acc, H4 D = some (.lst acc) ∧ acc.length < sizeLine ∧ Nx (upd H4 D (.lst (acc ++ [y]))) else Nx H3)) : tLc wi g tt te vs σ H Q := h
theorem cut_all {xs : List V} {n : Nat} (h : xs.length ≤ n) : cutV xs none (some (n : Int)) = xs := by
  unfold cutV
  rw [HT.sIx_none, HT.sIx_nat, List.drop_zero]
  exact List.take_of_length_le (by omega)
theorem take_succ_map {ns : List Int} {i : Nat} {x : V} (h : (ns.map V.int)[i]? = some x) : ∃ z, x = .int z ∧ z ∈ ns ∧ (ns.take (i + 1)).map V.int = (ns.take i).map V.int ++ [x] := by
  rw [List.getElem?_map] at h
  cases e : ns[i]? with
  | none =>
    rw [e] at h
    cases h
  | some z =>
    rw [e] at h
    have hx : x = .int z := (Option.some.inj h).symm
    refine ⟨z, hx, List.mem_of_getElem? e, ?_⟩
    rw [List.take_add_one, e, List.map_append, hx]
    rfl
/-! ### list.count of flags -/
def eqb (k : Bool) (v : Value) : Bool := match v with
  | .bool b => b == k
  | _ => false
theorem eqb_at {A : Around} {s : Shared} {k : Bool} : ∀ {us : List Value} {bs : List Bool}, Vals (bs.map V.bl) us → ∀ y ∈ us, SeqAt.EqAt A s y (.bool k) (eqb k y)
  | [], bs, r => fun y hy => nomatch hy
  | u :: us, [], r => nomatch r
  | u :: us, b :: bs, r => fun y hy => by
    cases r with
    | cons r1 r2 =>
      rcases List.mem_cons.mp hy with e | e
      · rw [e]
        cases (show u = Value.bool b from r1)
        exact SeqAt.EqAt.bool_bool b k
      · exact eqb_at r2 y e
theorem eqb_count {k : Bool} : ∀ {us : List Value} {bs : List Bool}, Vals (bs.map V.bl) us → us.countP (eqb k) = bs.count k
  | [], [], _ => rfl
  | [], b :: bs, r => nomatch r
  | u :: us, [], r => nomatch r
  | u :: us, b :: bs, r => by
    cases r with
    | cons r1 r2 =>
      cases (show u = Value.bool b from r1)
      rw [List.countP_cons, List.count_cons, eqb_count r2] <;> rfl
def rCntB (K : PySem.W.Frag) : V → List V → Hp → VK → Prop := fun x xs H Q => ∃ (p : Addr) (bs : List Bool) (k : Bool), x = .ref p ∧ xs = [.bl k] ∧ SqL K H p (bs.map V.bl) ∧ Q (.int (bs.count k : Nat)) H
theorem mt_bcount {X : Cx} : MtR X "list.count" (rCntB X.K) := by
  intro pins s σ H x xs v us Q I rx rxs h
  obtain ⟨p, bs, k, rfl, rfl, hs, q⟩ := h
  cases rx
  obtain ⟨u, rfl, ru⟩ := rxs.one
  cases (show u = Value.bool k from ru)
  obtain ⟨its, rv, ⟨⟨cls, dd, data, sl⟩, n, ho, hc, hdn, hd⟩, hlen⟩ := I.list hs
  simp only at hc hd
  subst hc hd
  refine call_meets PySem.F.slot_list_count ⟨_, ho, rfl⟩ PySem.F.entry_list_count (PySem.F.args_list_count_2 _ _)
    (SeqAt.list_countAt p its.toArray n dd sl (.bool k) (eqb k)) ⟨ho, fun y hy => eqb_at rv y (by simpa using hy), ?_⟩
  have ec : its.toArray.toList.countP (eqb k) = bs.count k := eqb_count rv
  refine ⟨.int (bs.count k : Nat), H, I.tok _, ⟨s.toks, ?_⟩, q⟩
  show Value.int ((its.toArray.toList.countP (eqb k) : Nat) : Int) s.toks = Value.int ((bs.count k : Nat) : Int) s.toks
  rw [ec]
/-! ### greatest common divisors by remainders -/
structure Euc (G b i : Nat) (x y : Nat) : Prop where
  g : x.gcd y = G
  h : y * 2 ^ (i / 2) ≤ b
  m : i ≠ 0 → y < x ∧ x * 2 ^ ((i - 1) / 2) ≤ b
theorem Euc.step {G b i x y : Nat} (e : Euc G b i x y) (hy : y ≠ 0) : Euc G b (i + 1) y (x % y) := by
  have lt : x % y < y := Nat.mod_lt _ (by omega)
  refine ⟨?_, ?_, fun _ => ⟨lt, ?_⟩⟩
  · rw [← e.g, Nat.gcd_comm x y, Nat.gcd_comm y (x % y)]
    exact (Nat.gcd_rec y x).symm
  · rcases Nat.mod_two_eq_zero_or_one i with p | p
    · have q : (i + 1) / 2 = i / 2 := by omega
      rw [q]
      exact Nat.le_trans (Nat.mul_le_mul_right _ (Nat.le_of_lt lt)) e.h
    · have q : (i + 1) / 2 = (i - 1) / 2 + 1 := by omega
      obtain ⟨m1, m2⟩ := e.m (by omega)
      have half : 2 * (x % y) ≤ x := by
        have d := Nat.div_add_mod x y
        have dp : 1 ≤ x / y := Nat.div_pos (Nat.le_of_lt m1) (by omega)
        have : y ≤ y * (x / y) := Nat.le_mul_of_pos_right y dp
        omega
      rw [q, Nat.pow_succ]
      calc x % y * (2 ^ ((i - 1) / 2) * 2) = (2 * (x % y)) * 2 ^ ((i - 1) / 2) := by rw [Nat.mul_comm (2 ^ _) 2, ← Nat.mul_assoc, Nat.mul_comm (x % y) 2]
        _ ≤ x * 2 ^ ((i - 1) / 2) := Nat.mul_le_mul_right _ half
        _ ≤ b := m2
  · have q : (i + 1 - 1) / 2 = i / 2 := by omega
    rw [q]
    exact e.h
theorem Euc.done {G b k x y : Nat} (e : Euc G b (2 * k + 2) x y) (hb : b < 2 ^ k) : y = 0 ∧ x = G := by
  have h := e.h
  have q : (2 * k + 2) / 2 = k + 1 := by omega
  rw [q] at h
  have hy : y = 0 := by
    rcases Nat.eq_zero_or_pos y with z | z
    · exact z
    · have p : 2 ^ (k + 1) ≤ y * 2 ^ (k + 1) := Nat.le_mul_of_pos_left _ z
      rw [Nat.pow_succ] at p
      have : 0 < 2 ^ k := Nat.two_pow_pos k
      rw [Nat.pow_succ] at h
      omega
  have g := e.g
  rw [hy, Nat.gcd_zero_right] at g
  exact ⟨hy, g⟩
end My
namespace My
open PySem PySem.Spec PyProof.Rows L2
theorem cdv {j : Int} (h : 0 < j) (hb : j.natAbs < 2 ^ 8000) (i : Int) : CDivX i j := cdivx (by omega) hb (by decide)
theorem cmx {i j : Int} (h1 : i.natAbs < 2 ^ 20000) (h2 : j.natAbs < 2 ^ 20000) : CMulX i j := mulx_ok h1 h2 (by decide)
theorem div_nat (a b : Nat) : (a : Int).fdiv (b : Int) = ((a / b : Nat) : Int) := by
  rw [Int.fdiv_eq_ediv_of_nonneg _ (by omega), Int.natCast_ediv]
theorem p45 {n : Nat} (h : n < 2 ^ 4000) : n < 2 ^ 8000 := Nat.lt_of_lt_of_le h (pow_le (by decide))
theorem p46 {n : Nat} (h : n < 2 ^ 4000) : n < 2 ^ 20000 := Nat.lt_of_lt_of_le h (pow_le (by decide))
theorem added_math {r s : Rat} (hr : Bd 4000 r) (hs : Bd 4000 s) : ∀ g top sh : Int, g = ((Nat.gcd (r.den : Int).natAbs (s.den : Int).natAbs : Nat) : Int) → top = r.num * (s.den : Int).fdiv g + s.num * (r.den : Int).fdiv g →
    sh = ((Nat.gcd top.natAbs g.natAbs : Nat) : Int) → (∀ i, CDivX i g) ∧ CMulX r.num ((s.den : Int).fdiv g) ∧ CMulX s.num ((r.den : Int).fdiv g) ∧ (∀ i, CDivX i sh) ∧ CMulX ((r.den : Int).fdiv g) ((s.den : Int).fdiv sh) ∧
      (r + s).num = top.fdiv sh ∧ ((r + s).den : Int) = (r.den : Int).fdiv g * (s.den : Int).fdiv sh := by
  intro g top sh hg ht hsh
  have hd := r.den_pos
  have hs' := s.den_pos
  rw [Int.natAbs_natCast, Int.natAbs_natCast] at hg
  have gpos : 0 < r.den.gcd s.den := Nat.gcd_pos_of_pos_left _ hd
  have gle : r.den.gcd s.den ≤ r.den := Nat.gcd_le_left _ hd
  have gna : g.natAbs = r.den.gcd s.den := by rw [hg, Int.natAbs_natCast]
  have shpos : 0 < top.natAbs.gcd (r.den.gcd s.den) := Nat.gcd_pos_of_pos_right _ gpos
  have shle : top.natAbs.gcd (r.den.gcd s.den) ≤ r.den.gcd s.den := Nat.gcd_le_right _ gpos
  rw [gna] at hsh
  have hr2 := hr.2
  have hs2 := hs.2
  have e1 : (s.den : Int).fdiv g = ((s.den / r.den.gcd s.den : Nat) : Int) := by rw [hg, div_nat]
  have e2 : (r.den : Int).fdiv g = ((r.den / r.den.gcd s.den : Nat) : Int) := by rw [hg, div_nat]
  have l1 : s.den / r.den.gcd s.den ≤ s.den := Nat.div_le_self _ _
  have l2 : r.den / r.den.gcd s.den ≤ r.den := Nat.div_le_self _ _
  have form := add_form r s (r.den.gcd s.den) (r.den / r.den.gcd s.den) (s.den / r.den.gcd s.den) top (top.natAbs.gcd (r.den.gcd s.den)) rfl rfl rfl (by rw [ht, e1, e2]) rfl
  have e3 : (s.den : Int).fdiv sh = ((s.den / top.natAbs.gcd (r.den.gcd s.den) : Nat) : Int) := by rw [hsh, div_nat]
  have l3 : s.den / top.natAbs.gcd (r.den.gcd s.den) ≤ s.den := Nat.div_le_self _ _
  refine ⟨cdv (by omega) (by rw [gna]; exact p45 (by omega)), ?_, ?_, cdv (by omega) ?_, ?_, ?_, ?_⟩
  · rw [e1]
    exact cmx (p46 hr.1) (by rw [Int.natAbs_natCast]; exact p46 (by omega))
  · rw [e2]
    exact cmx (p46 hs.1) (by rw [Int.natAbs_natCast]; exact p46 (by omega))
  · rw [hsh, Int.natAbs_natCast]
    exact p45 (by omega)
  · rw [e2, e3]
    exact cmx (by rw [Int.natAbs_natCast]; exact p46 (by omega)) (by rw [Int.natAbs_natCast]; exact p46 (by omega))
  · rw [form.1, hsh, Int.fdiv_eq_ediv_of_nonneg _ (by omega)]
  · rw [form.2, e2, e3, Int.natCast_mul]
theorem mul_math {r s : Rat} (hr : Bd 4000 r) (hs : Bd 4000 s) : ∀ a b : Int, a = ((Nat.gcd r.num.natAbs (s.den : Int).natAbs : Nat) : Int) → b = ((Nat.gcd s.num.natAbs (r.den : Int).natAbs : Nat) : Int) →
    (∀ i, CDivX i a) ∧ (∀ i, CDivX i b) ∧ CMulX (r.num.fdiv a) (s.num.fdiv b) ∧ CMulX ((r.den : Int).fdiv b) ((s.den : Int).fdiv a) ∧
      (r * s).num = r.num.fdiv a * s.num.fdiv b ∧ ((r * s).den : Int) = (r.den : Int).fdiv b * (s.den : Int).fdiv a := by
  intro a b ha hb
  rw [Int.natAbs_natCast] at ha hb
  have hd := r.den_pos
  have hs' := s.den_pos
  have ap : 0 < r.num.natAbs.gcd s.den := Nat.gcd_pos_of_pos_right _ hs'
  have bp : 0 < s.num.natAbs.gcd r.den := Nat.gcd_pos_of_pos_right _ hd
  have al : r.num.natAbs.gcd s.den ≤ s.den := Nat.gcd_le_right _ hs'
  have bl : s.num.natAbs.gcd r.den ≤ r.den := Nat.gcd_le_right _ hd
  have da : a ∣ r.num := by rw [ha]; exact Int.ofNat_dvd_left.mpr (Nat.gcd_dvd_left ..)
  have db : b ∣ s.num := by rw [hb]; exact Int.ofNat_dvd_left.mpr (Nat.gcd_dvd_left ..)
  have hr2 := hr.2
  have hs2 := hs.2
  obtain ⟨f1, f2⟩ := mul_form r s _ _ rfl rfl
  have e1 : r.num.fdiv a = r.num / a := fdiv_dvd da
  have e2 : s.num.fdiv b = s.num / b := fdiv_dvd db
  have e3 : (r.den : Int).fdiv b = ((r.den / s.num.natAbs.gcd r.den : Nat) : Int) := by rw [hb, div_nat]
  have e4 : (s.den : Int).fdiv a = ((s.den / r.num.natAbs.gcd s.den : Nat) : Int) := by rw [ha, div_nat]
  have l3 : r.den / s.num.natAbs.gcd r.den ≤ r.den := Nat.div_le_self _ _
  have l4 : s.den / r.num.natAbs.gcd s.den ≤ s.den := Nat.div_le_self _ _
  have n1 : (r.num / a).natAbs ≤ r.num.natAbs := by
    rw [Int.natAbs_ediv_of_dvd da]
    exact Nat.div_le_self _ _
  have n2 : (s.num / b).natAbs ≤ s.num.natAbs := by
    rw [Int.natAbs_ediv_of_dvd db]
    exact Nat.div_le_self _ _
  have hr1 := hr.1
  have hs1 := hs.1
  refine ⟨cdv (by omega) (by rw [ha, Int.natAbs_natCast]; exact p45 (by omega)), cdv (by omega) (by rw [hb, Int.natAbs_natCast]; exact p45 (by omega)), ?_, ?_, ?_, ?_⟩
  · rw [e1, e2]
    exact cmx (p46 (by omega)) (p46 (by omega))
  · rw [e3, e4]
    exact cmx (by rw [Int.natAbs_natCast]; exact p46 (by omega)) (by rw [Int.natAbs_natCast]; exact p46 (by omega))
  · rw [f1, e1, e2, ha, hb]
  · rw [f2, e3, e4, Int.natCast_mul]
end My
namespace My
open PySem PySem.Spec PyProof.Rows L2
theorem low_math {n b : Int} (hb : 0 < b) (hl : b.natAbs < 2 ^ 8000) : ∀ g : Int, g = ((n.natAbs.gcd b.natAbs : Nat) : Int) → (∀ i, CDivX i g) ∧ (Rat.divInt n b).num = n.fdiv g ∧ ((Rat.divInt n b).den : Int) = b.fdiv g := by
  rintro g rfl
  have gp : 0 < n.natAbs.gcd b.natAbs := Nat.gcd_pos_of_pos_right _ (by omega)
  have gl : n.natAbs.gcd b.natAbs ≤ b.natAbs := Nat.gcd_le_right _ (by omega)
  obtain ⟨e1, e2⟩ := low_form n b (by omega)
  rw [if_neg (by omega)] at e1 e2
  refine ⟨cdv (by omega) (by rw [Int.natAbs_natCast]; omega), ?_, ?_⟩
  · rw [e1, fdiv_dvd (Int.ofNat_dvd_left.mpr (Nat.gcd_dvd_left ..))]
  · rw [e2, fdiv_dvd (Int.ofNat_dvd_left.mpr (Nat.gcd_dvd_right ..))]
theorem sign_na {t r : Int} (a : 0 ≤ r) (b : r < 2) : (t * (1 - 2 * r)).natAbs = t.natAbs := by
  have h : r = 0 ∨ r = 1 := by omega
  rcases h with rfl | rfl
  · simp
  · rw [Int.natAbs_mul]
    simp
end My
namespace My
open PySem PySem.Spec PyProof.Rows L2
/-! ### an own error class without __init__, made without arguments -/
abbrev veChain : List Value := [.type "ValueError", .type "Exception", .type "BaseException", .type "object"]
theorem pmk_own0 {X : Cx} {C : Addr} {bmB : List Value} {B newId initId : String} {x : Str} {p pos : Pos} (F : ExcBaseFacts B newId initId bmB) (q : PySem.W.excIn X.K C bmB newId = true) (gC : X.mg x = some (.ref C))
    (kC : PySem.W.keepIn X.K (.ref C) = true) (r : Raises X (.ref C)) (hg : Gl X x) (hdb : (x == ("__debug__" : Str)) = false := by decide) :
    PMk X (.Call (.Name x p) [] [] pos) (fun _ H Q => Q (.ref C) none H) := by
  intro pins s σ H Q I h
  refine wpAny_Call_Name_kw (ld_glob I hg gC ?_ hdb)
  refine PySem.W.callWith_K0 I.kIn kC ?_
  show wpAny _ _ (call (.ref C) []) _ _ _
  obtain ⟨hp, g, d, t, os⟩ := s
  obtain ⟨bm, N, nm, qn, bs, hdct, sn, sub, ab, col, dd, k0, k1, k2, k3, k5, mN, hC, hN, hni, T⟩ := exc_obj I.kIn q
  refine wpAny_call_exc_subT F T hC hN hni (fun h' e hm => ?_) (Nat.zero_le _)
  exact mk_of I hm r h (I.hok.gone hm.new)
/-- what the top holds of such a class -/
structure ExC (K : PySem.W.Frag) (mg : Str → Option Value) (x : Str) (C : Addr) : Prop where
  g : mg x = some (.ref C)
  ex : PySem.W.excIn K C veChain "ValueError.__new__" = true
  kp : PySem.W.keepIn K (.ref C) = true
  be : PySem.W.subIn K (.ref C) (.type "BaseException") = some true
  ty : PySem.W.typeIn K (.ref C) = some (.type "type")
  ic : PySem.W.isClsIn K C = true
  sf : PySem.W.subIn K (.ref C) (.ref C) = some true
theorem exm_sub {K : PySem.W.Frag} {C S : Addr} {b : Bool} (h1 : PySem.W.subIn K (.ref S) (.type "BaseException") = some true) (h2 : PySem.W.isClsIn K S = true) (h3 : PySem.W.typeIn K (.ref S) = some (.type "type")) (h4 : PySem.W.subIn K (.ref C) (.ref S) = some b) :
    PySem.W.exmOne K (.ref C) (.ref S) = some b := by
  have e1 : (PySem.W.subIn K (.ref S) (.type "BaseException") == some true) = true := by rw [h1] <;> rfl
  have e2 : ((PySem.W.clsIn K S).isSome && PySem.W.typeIn K (.ref S) == some (.type "type")) = true := by
    have h2' : (PySem.W.clsIn K S).isSome = true := h2
    rw [h2', h3] <;> rfl
  show (if (PySem.W.subIn K (.ref S) (.type "BaseException") == some true) = true then (if ((PySem.W.clsIn K S).isSome && PySem.W.typeIn K (.ref S) == some (.type "type")) = true then PySem.W.subIn K (.ref C) (.ref S) else none) else none) = some b
  rw [if_pos e1, if_pos e2]
  exact h4
theorem ExC.te {K : PySem.W.Frag} {mg : Str → Option Value} {x : Str} {C : Addr} (e : ExC K mg x C) : PySem.W.exmOne K (.ref C) (.ref C) = some true := exm_sub e.be e.ic e.ty e.sf
/-- raise X() -/
theorem ps_raise0 {X : Cx} {W : WX} {C : Addr} {x : Str} {p pos pos2 : Pos} (hc : X.calm = true) (e : ExC X.K X.mg x C) (tk : Takes X W) (hg : Gl X x := by rfl) (hdb : (x == ("__debug__" : Str)) = false := by decide) :
    PS X (.Raise (some (.Call (.Name x p) [] [] pos)) none pos2) (fun _ σ H => W (.ref C) none σ H) :=
  ps_raise hc tk (pmk_own0 PySem.F.excBase_ValueError e.ex e.g e.kp (raises_own e.be e.ty) hg hdb)
theorem rd_callS {sp : Sp} {E : L2.St → XK} {t : TA} {σ : L2.St} {H : Hp} {Q : VK} (h : t σ H fun vs H1 => sp vs H1 Q (E σ)) : tCallS sp E t σ H Q := h
theorem rd_newK {σ : L2.St} {H : Hp} {Q : VK} (h : ∀ p, H p = none → Q (.ref p) (upd H p (.dK []))) : tDNewK σ H Q := h
theorem at_any {xs : List V} {i : Int} (h0 : 0 ≤ i) (h1 : i < (xs.length : Nat)) : ∃ v, v ∈ xs ∧ atI xs i = some v := by
  obtain ⟨j, rfl⟩ := Int.eq_ofNat_of_zero_le h0
  have hj : j < xs.length := by omega
  exact ⟨xs[j], List.getElem_mem hj, atI_nat (List.getElem?_eq_getElem hj)⟩
/-! ### things that are no integers -/
inductive Odd (D : Addr) (H : Hp) : V → Prop where
  | non : Odd D H .non
  | bl (b : Bool) : Odd D H (.bl b)
  | str (s : Str) : Odd D H (.str s)
  | lst {p : Addr} {xs : List V} (n : p ≠ D) (h : H p = some (.lst xs)) : Odd D H (.ref p)
  | tup {p : Addr} {xs : List V} (n : p ≠ D) (h : H p = some (.tup xs)) : Odd D H (.ref p)
  | dK {p : Addr} {kvs : List (Key × V)} (n : p ≠ D) (h : H p = some (.dK kvs)) : Odd D H (.ref p)
theorem Odd.fw {D : Addr} {H H' : Hp} {v : V} (o : Odd D H v) (f : Fw D H H') : Odd D H' v := by
  cases o with
  | non => exact .non
  | bl b => exact .bl b
  | str s => exact .str s
  | lst n h => exact .lst n (f _ _ n h)
  | tup n h => exact .tup n (f _ _ n h)
  | dK n h => exact .dK n (f _ _ n h)
theorem Odd.isi {D : Addr} {H : Hp} {v : V} (o : Odd D H v) (K : PySem.W.Frag) : ∃ b1 b2 : Bool, (b1 && !b2) = false ∧ (∀ Q : VK, Q (.bl b1) H → rIsi K [v, .ty "int"] H Q) ∧ (∀ Q : VK, Q (.bl b2) H → rIsi K [v, .ty "bool"] H Q) := by
  cases o with
  | non => exact ⟨false, false, rfl, fun Q q => ⟨_, _, _, _, _, rfl, .ty _, .base .non, kit_ty (by decide +kernel), q⟩, fun Q q => ⟨_, _, _, _, _, rfl, .ty _, .base .non, kit_ty (by decide +kernel), q⟩⟩
  | bl b => exact ⟨true, true, rfl, fun Q q => ⟨_, _, _, _, _, rfl, .ty _, .base (.bl _), kit_ty (by decide +kernel), q⟩, fun Q q => ⟨_, _, _, _, _, rfl, .ty _, .base (.bl _), kit_ty (by decide +kernel), q⟩⟩
  | str s => exact ⟨false, false, rfl, fun Q q => ⟨_, _, _, _, _, rfl, .ty _, .base (.str _), kit_ty (by decide +kernel), q⟩, fun Q q => ⟨_, _, _, _, _, rfl, .ty _, .base (.str _), kit_ty (by decide +kernel), q⟩⟩
  | lst n h => exact ⟨false, false, rfl, fun Q q => ⟨_, _, _, _, _, rfl, .ty _, .base (.lst h), kit_ty (by decide +kernel), q⟩, fun Q q => ⟨_, _, _, _, _, rfl, .ty _, .base (.lst h), kit_ty (by decide +kernel), q⟩⟩
  | tup n h => exact ⟨false, false, rfl, fun Q q => ⟨_, _, _, _, _, rfl, .ty _, .base (.tup h), kit_ty (by decide +kernel), q⟩, fun Q q => ⟨_, _, _, _, _, rfl, .ty _, .base (.tup h), kit_ty (by decide +kernel), q⟩⟩
  | dK n h => exact ⟨false, false, rfl, fun Q q => ⟨_, _, _, _, _, rfl, .ty _, .base (.dK h), kit_ty (by decide +kernel), q⟩, fun Q q => ⟨_, _, _, _, _, rfl, .ty _, .base (.dK h), kit_ty (by decide +kernel), q⟩⟩
end My
namespace My
open PySem PySem.Spec PyProof.Rows L2
/-! ### for i, x in enumerate(t), t a tuple -/
section
variable {prog : Program} {w : World} {A : Around} {E : Value → Shared → Prop} {s : Shared}
theorem tupNext {it t : Addr} {i : Nat} {its : Array Value} {x : Value} {Q : Value → Shared → Prop} (h1 : IsTupIter s.heap it t i) (h2 : IsTup s.heap t its) (hx : its[i]? = some x)
    (q : ∀ h', IsTupIter h' it t (i + 1) → Heap.SameBut it s.heap h' → Q x { s with heap := h' }) : wpAny (model prog w) A (Builtin.SmallTypes.nextOf (.ref it)) Q E s := by
  unfold Builtin.SmallTypes.nextOf
  exact wpAny_bind (special_tup_item h1 h2 hx fun h' a b => wpAny_pure (q h' a b))
theorem tupNo {it t : Addr} {i : Nat} {its : Array Value} {Q : Value → Shared → Prop} (hh : A.handled = none) (h1 : IsTupIter s.heap it t i) (h2 : IsTup s.heap t its) (hx : its[i]? = none)
    (q : ∀ h' e, Heap.ExtBut it s.heap h' → (∃ o, h'.get? e = some o ∧ o.cls = .type "StopIteration") → E (.ref e) { s with heap := h' }) : wpAny (model prog w) A (Builtin.SmallTypes.nextOf (.ref it)) Q E s := by
  unfold Builtin.SmallTypes.nextOf
  refine wpAny_bind (special_tup_end hh h1 h2 hx fun e h' sx eb => ?_)
  obtain ⟨a, o, vs, rfl, ho, hc, _⟩ := sx
  exact q h' a eb ⟨o, ho, hc⟩
theorem tupDraws {it t : Addr} {its : Array Value} (hh : A.handled = none) (ne : t ≠ it) : Draws prog w A it [it, t] its.size (fun i x => its[i]? = some x) (fun i h => IsTupIter h it t i ∧ IsTup h t its) where
  live := fun i h st => by
    obtain ⟨⟨o, ho, _⟩, _⟩ := st
    exact ⟨o, ho⟩
  frame := fun i h h' st k => by
    obtain ⟨⟨o, ho, r⟩, ⟨o2, ho2, r2⟩⟩ := st
    exact ⟨⟨o, k it (by simp) o ho, r⟩, ⟨o2, k t (by simp) o2 ho2, r2⟩⟩
  item := fun i s Q E hi st q => tupNext st.1 st.2 (x := its[i]) (by simp [hi]) fun h' a b => q _ h' s.toks (by simp [hi]) ⟨a, st.2.extBut b.extBut ne⟩ b
  done := fun s Q E st q => tupNo hh st.1 st.2 (by simp) q
theorem newEnumT (t : Addr) (its : Array Value) (n : Nat) (dct : Option Addr) (sl : Array (Option Value)) :
    Meets (Builtin.«enumerate.__new__» ⟨[.type "enumerate", .ref t], []⟩) (fun _ R s => s.heap.get? t = some { cls := .type "tuple", dict := dct, data := .seq its n, slots := sl } ∧
      R (.ok (.ret (.ref (s.heap.push { cls := .type "tuple_iterator", data := .fields #[.ref t, .int 0 0] }).objs.size)))
        { s with heap := (s.heap.push { cls := .type "tuple_iterator", data := .fields #[.ref t, .int 0 0] }).push { cls := .type "enumerate", data := .fields #[.none, .bool false, .ref s.heap.objs.size, rawInt 0, .none, .none] } }) :=
  Meets.of_wp fun prog w A R s h => by
    obtain ⟨hp, g, d, tk, os⟩ := s
    obtain ⟨ht, hR⟩ := h
    have hsub := sub_enumerate
    have hT : IsTup (Shared.heap ⟨hp, g, d, tk, os⟩) t its := ⟨_, ht, rfl, n, rfl⟩
    wp_walk using AutoSeq1.wpAny_loadPart' ht
    refine wpAny_stack_any (fun st => wpAny_pure ?_)
    split
    · rename_i c _ _ _ _ _
      cases (c == Value.type "enumerate") <;> (wp_walk using AutoSeq1.wpAny_loadPart' ht, iter_tuple hT; exact ⟨_, rfl, hR⟩)
    · wp_walk using AutoSeq1.wpAny_loadPart' ht, iter_tuple hT
      exact ⟨_, rfl, hR⟩
theorem callEnumT {t : Addr} {its : Array Value} {Q : Value → Shared → Prop} (hT : IsTup s.heap t its)
    (q : ∀ h', IsEnum h' (s.heap.objs.size + 1) s.heap.objs.size 0 .none → IsTupIter h' s.heap.objs.size t 0 → (∀ b o, s.heap.get? b = some o → h'.get? b = some o) → Q (.ref (s.heap.objs.size + 1)) { s with heap := h' }) :
    wpAny (model prog w) A (call (.type "enumerate") [.ref t]) Q E s := by
  obtain ⟨⟨c, dct, dt, sl⟩, ht, hc, n, hd⟩ := hT
  simp only at hc hd
  subst hc hd
  refine callType_new F.called_enumerate (by decide) (F.typeCall_enumerate_1 _) (F.newCall_enumerate_1 _) (fun obj => F.args_object_init_2 obj _) F.entry_enumerate_new (newEnumT t its n dct sl) ⟨ht, ?_⟩
  generalize hh1 : s.heap.push { cls := .type "tuple_iterator", data := .fields #[.ref t, .int 0 0] } = h1
  have z1 : h1.objs.size = s.heap.objs.size + 1 := by rw [← hh1, Heap.size_push]
  have k1 : ∀ b o, s.heap.get? b = some o → h1.get? b = some o := fun b o e => by rw [← hh1]; exact Heap.get?_push_of_some _ e
  have i1 : h1.get? s.heap.objs.size = some { cls := .type "tuple_iterator", data := .fields #[.ref t, .int 0 0] } := by rw [← hh1]; exact Heap.get?_push_size _ rfl
  show _ ∧ _
  rw [z1]
  have e1 := Heap.get?_push_size h1 (o := { cls := .type "enumerate", data := .fields #[.none, .bool false, .ref s.heap.objs.size, rawInt 0, .none, .none] }) rfl
  rw [z1] at e1
  exact ⟨⟨_, e1, rfl⟩, q _ e1 ⟨_, Heap.get?_push_of_some _ i1, rfl, rfl⟩ fun b o e => Heap.get?_push_of_some _ (k1 b o e)⟩
end
def IteT (K : PySem.W.Frag) (a : Addr) : It :=
  ⟨fun i H => ∃ (xs : List V) (x : V), SqT K H a xs ∧ xs[i]? = some x, fun i H v H' => ∃ T x, v = .ref T ∧ H T = none ∧ H' = upd H T (.tup [.int (i : Nat), x]) ∧ ∀ xs, SqT K H a xs → xs[i]? = some x, fun i H => ∃ xs : List V, SqT K H a xs ∧ xs.length = i⟩
theorem turnEnumT {P : Program} {w : World} {K : PySem.W.Frag} {elts : List Expr} {kk : Nat} {tpos : Pos} (a e it : Addr) :
    Turn P w K (.Tuple elts kk tpos) (IteT K a) [e, it] e (fun i h => (∃ old, IsEnum h e it ((i : Nat) : Int) old) ∧ IsTupIter h it a i ∧ e ≠ it) where
  mem := by simp
  obj := fun i h st b hb => by
    obtain ⟨⟨old, he⟩, ⟨o, ho, hc, hd⟩, _⟩ := st
    rcases (show b = e ∨ b = it by simpa using hb) with rfl | rfl
    · exact ⟨_, he, fun v q => nomatch q⟩
    · exact ⟨o, ho, fun v q => by rw [hd] at q; cases q⟩
  keep := fun i h h' st k => by
    obtain ⟨⟨old, he⟩, ⟨o, ho, r⟩, hne⟩ := st
    exact ⟨⟨old, k e (by simp) _ he⟩, ⟨o, k it (by simp) o ho, r⟩, hne⟩
  item := by
    intro X hP hw hK hc i pins s σ H E I hf st hg
    subst hP hw hK
    obtain ⟨⟨old, he⟩, hit, hne⟩ := st
    obtain ⟨xs, x, hq, hx⟩ := hg
    obtain ⟨its, rv, p, hz⟩ := I.tuple hq
    obtain ⟨u, hu, ru⟩ := rv.get hx
    have elt := Heap.lt_size he
    have ilt : it < s.heap.objs.size := by obtain ⟨_, q, _⟩ := hit; exact Heap.lt_size q
    have hh := I.ok.hd hc
    have hti : a ≠ it := fun z => by
      obtain ⟨o1, e1, c1, _⟩ := hit
      obtain ⟨o2, e2, c2, _⟩ := p
      rw [z, e1] at e2
      cases e2
      rw [c1] at c2
      exact absurd c2 (by decide)
    have hte : e ≠ a := fun z => by
      obtain ⟨o2, e2, c2, _⟩ := p
      rw [← z, he] at e2
      cases e2
      exact absurd (show (Value.type "enumerate" : Value) = .type "tuple" from c2) (by decide)
    have ii : i < its.toArray.size := by
      have hl := rv.length
      have : i < xs.length := by
        rcases Nat.lt_or_ge i xs.length with h | h
        · exact h
        · rw [List.getElem?_eq_none h] at hx
          cases hx
      simp
      omega
    refine wpAny_pyNext_enum_itemD (tupDraws (A := X.A.in1) hh hti) he ⟨hit, p⟩ ii hne (by simp [hne, hte]) fun u' h' tk hu' ho st' hT hsz hk => ?_
    obtain rfl : u = u' := by
      have e2 : its.toArray[i]? = some u := by simpa using hu
      rw [e2] at hu'
      exact Option.some.inj hu'
    refine ⟨_, rfl, wpAny_letOwnedTupleGo_enum (s := { s with heap := h', toks := tk + 1 }) ho fun h'' he' sb => ?_⟩
    have hT2 := (sb.2 _ (Nat.ne_of_gt elt)).trans hT
    have new : ObjOk X.prog X.w (upd H s.heap.objs.size (.tup [.int (i : Nat), x])) h'' s.heap.objs.size (.tup [.int (i : Nat), x]) := ⟨by show 2 ≤ sizeLine; decide, [.int i tk, u], .cons ⟨_, rfl⟩ (.cons ru .nil), ⟨_, hT2, rfl, _, rfl⟩⟩
    have I1 : Inv X pins σ (upd H s.heap.objs.size (.tup [.int (i : Nat), x])) { s with heap := h'', toks := tk + 1 } :=
      I.turnedNew (t' := tk + 1) (ch := [e, it]) (fun b ob hb q => by
        have b1 : b ≠ e := fun z => hb (by simp [z])
        have b2 : b ≠ it := fun z => hb (by simp [z])
        exact (sb.2 b b1).trans (hk b ob b1 b2 q)) hf (Nat.le_refl _) new
    refine ⟨.ref s.heap.objs.size, _, I1, rfl, ⟨_, x, rfl, I.hok.fresh (Nat.le_refl _), rfl, fun ys hy => by rw [I.tuple_inj hy hq]; exact hx⟩, ⟨⟨u, ?_⟩, ?_, hne⟩, fun b hb => ?_⟩
    · rw [show ((i + 1 : Nat) : Int) = (i : Int) + 1 by omega]
      exact he'
    · obtain ⟨o, ho', r⟩ := st'.1
      exact ⟨o, (sb.2 it (Ne.symm hne)).trans ho', r⟩
    · have hb' : b < s.heap.objs.size := by
        rcases (show b = e ∨ b = it by simpa using hb) with rfl | rfl
        · exact elt
        · exact ilt
      rw [upd_ne (Nat.ne_of_lt hb')]
      exact (hf b hb).1
  done := by
    intro X hP hw hK hc i pins s σ H E I hf st hg
    subst hP hw hK
    obtain ⟨⟨old, he⟩, hit, hne⟩ := st
    obtain ⟨xs, hq, hx⟩ := hg
    obtain ⟨its, rv, p, hz⟩ := I.tuple hq
    obtain ⟨f0, f1, f2, f3, f4, f5⟩ := hf it (by simp)
    have hl := rv.length
    have hh := I.ok.hd hc
    have hti : a ≠ it := fun z => by
      obtain ⟨o1, e1, c1, _⟩ := hit
      obtain ⟨o2, e2, c2, _⟩ := p
      rw [z, e1] at e2
      cases e2
      rw [c1] at c2
      exact absurd c2 (by decide)
    have en : i = its.toArray.size := by
      simp
      omega
    rw [en] at he hit
    exact wpAny_pyNext_enum_endD (tupDraws (A := X.A.in1) hh hti) he ⟨hit, p⟩ fun h' eb => ⟨rfl, I.turned (t' := s.toks) (fun b o hb q => eb b o hb q) f0 f1 f3 f4 f5⟩
  self := fun A i s Q E st h => by
    obtain ⟨⟨_, he⟩, _⟩ := st
    exact wpAny_pyIter_enum he h
/-- enumerate over a list or a tuple -/
def iEnumX (K : PySem.W.Frag) (ta : TA) : TI := fun σ H R => ta σ H fun vs H1 => ∃ a xs, vs = [.ref a] ∧ ((SqL K H1 a xs ∧ R (Ite K a) H1) ∨ (SqT K H1 a xs ∧ R (IteT K a) H1))
theorem pi_enumX {X : Cx} {e : Expr} {ta : TA} {p pos tpos : Pos} {elts : List Expr} {kk : Nat} (hg : Gl X "enumerate") (hm : X.mg "enumerate" = none) (ha : PA X [e] ta) (hs : starEach [e] X.env = [(false, eval e X.env)] := by rfl) :
    PI X (.Tuple elts kk tpos) (.Call (.Name "enumerate" p) [e] [] pos) (iEnumX X.K ta) := by
  refine ⟨fun pins s σ H R I h => ?_⟩
  refine Call_ (ld_blt I hg hm boot_enumerate (PyProof.Rows.callWith_type1 (thn (ha.run pos pins s σ H _ I h) fun us s1 q1 => ?_) hs rfl))
  obtain ⟨vs, H1, I1, r1, a, xs, ex, q⟩ := q1
  subst ex
  obtain ⟨u, rfl, ru⟩ := vals1 r1
  cases ru
  have go : ∀ (h' : Heap) (J : It) (tn : Nat → Heap → Prop), (∀ b o, s1.heap.get? b = some o → h'.get? b = some o) → IsEnum h' (s1.heap.objs.size + 1) s1.heap.objs.size 0 .none → Turn X.prog X.w X.K (.Tuple elts kk tpos) J [s1.heap.objs.size + 1, s1.heap.objs.size] (s1.heap.objs.size + 1) tn → tn 0 h' → R J H1 →
      wpAny (model X.prog X.w) X.A (pyIter (.ref (s1.heap.objs.size + 1))) (PIE X pins σ (.Tuple elts kk tpos) R) X.xe { s1 with heap := h' } := fun h' J tn hk he T t0 q => by
    refine wpAny_pyIter_enum he ?_
    refine ⟨s1.heap.objs.size + 1, [s1.heap.objs.size + 1, s1.heap.objs.size], tn, J, H1, rfl, I1.kept (t' := s1.toks) hk, T, t0, fun b hb => ?_, q⟩
    have hle : s1.heap.objs.size ≤ b := by
      rcases (show b = s1.heap.objs.size + 1 ∨ b = s1.heap.objs.size by simpa using hb) with rfl | rfl
      · exact Nat.le_succ _
      · exact Nat.le_refl _
    exact I1.fpOk hle (I1.hok.fresh hle)
  rcases q with ⟨hq, q⟩ | ⟨hq, q⟩
  · obtain ⟨its, rv, p', hz⟩ := I1.list hq
    exact call_enumerate_list p'.isList fun h' he hit hsz hk => go h' _ _ hk he (turn_enum a _ _) ⟨⟨.none, he⟩, hit, Nat.succ_ne_self _⟩ q
  · obtain ⟨its, rv, p', hz⟩ := I1.tuple hq
    exact callEnumT p' fun h' he hit hk => go h' _ _ hk he (turnEnumT a _ _) ⟨⟨.none, he⟩, hit, Nat.succ_ne_self _⟩ q
theorem rd_enumX {K : PySem.W.Frag} {ta : TA} {R : It → Hp → Prop} {σ : L2.St} {H : Hp} (h : ta σ H fun vs H1 => ∃ a xs, vs = [.ref a] ∧ ((SqL K H1 a xs ∧ R (Ite K a) H1) ∨ (SqT K H1 a xs ∧ R (IteT K a) H1))) : iEnumX K ta σ H R := h
theorem for_enumT {K : PySem.W.Frag} {a : Addr} {xs : List V} {g : TG} {tb : TS} {D : Ends} {σ : L2.St} {H : Hp} (Pv : Nat → L2.St → Hp → Prop) (h0 : Pv 0 σ H) (hl : ∀ i σ H, i ≤ xs.length → Pv i σ H → SqT K H a xs)
    (hs : ∀ i x T σ H, xs[i]? = some x → Pv i σ H → H T = none → g (.ref T) σ (upd H T (.tup [.int (i : Nat), x])) fun σ2 H2 => tb { D with nx := Pv (i + 1), ct := Pv (i + 1), bk := D.nx } σ2 H2) (hd : ∀ σ H, Pv xs.length σ H → D.nx σ H) :
    ∃ W : Nat → Nat → L2.St → Hp → Prop, (∃ m, W 0 m σ H) ∧ ∀ i m σ H, W i m σ H →
      ((IteT K a).stop i H ∧ D.nx σ H) ∨ ((IteT K a).go i H ∧ ∃ N : L2.St → Hp → Prop, (∀ σ' H', N σ' H' → ∃ m', m' < m ∧ W (i + 1) m' σ' H') ∧ ∀ x H', (IteT K a).yld i H x H' → g x σ H' fun σ2 H2 => tb { D with nx := N, ct := N, bk := D.nx } σ2 H2) := by
  refine ⟨fun i m σ H => m = xs.length - i ∧ i ≤ xs.length ∧ Pv i σ H, ⟨xs.length, by simp, Nat.zero_le _, h0⟩, ?_⟩
  rintro i m σ H ⟨rfl, hi, p⟩
  have q := hl i σ H hi p
  by_cases hlt : i < xs.length
  · refine .inr ⟨⟨xs, xs[i], q, by simp [hlt]⟩, Pv (i + 1), fun σ' H' p' => ⟨xs.length - (i + 1), by omega, rfl, hlt, p'⟩, fun x H' y => ?_⟩
    obtain ⟨T, x, rfl, nT, rfl, y⟩ := y
    exact hs i x T σ H (y xs q) p nT
  · have e : i = xs.length := by omega
    subst e
    exact .inl ⟨⟨xs, q, rfl⟩, hd σ H p⟩
end My
namespace My
open PySem PySem.Spec PyProof.Rows L2
/-! ### max of a tuple of two ints -/
def rMaxT (K : PySem.W.Frag) : List V → Hp → VK → Prop := fun vs H Q => ∃ (a : Addr) (i j : Int), vs = [V.ref a] ∧ SqT K H a [.int i, .int j] ∧ ∀ m, m = i ∨ m = j → Q (.int m) H
theorem cr_maxT {X : Cx} (hc : X.calm = true) (hu : X.A.units + 64 < cLine) : CallR X (.builtin "max") (rMaxT X.K) := by
  intro pins s σ H vs us Q I r h
  obtain ⟨a, i, j, rfl, hs, q⟩ := h
  obtain ⟨its, rv, hl, _⟩ := I.tuple hs
  rw [Vals.ref1 r]
  have hv : ∃ (u1 u2 : Value), its = [u1, u2] ∧ RelV (.int i) u1 ∧ RelV (.int j) u2 := by
    cases rv with
    | cons r1 r2 =>
      cases r2 with
      | cons r2 r3 =>
        cases r3
        exact ⟨_, _, rfl, r1, r2⟩
  clear rv
  obtain ⟨_, _, rfl, ⟨t1, rfl⟩, ⟨t2, rfl⟩⟩ := hv
  have e : PyData.depthAll [PyData.int i, .int j] ≤ 2 := by simp [PyData.depthAll, PyData.depth]
  have hm : PySem.W.maxD (.int i) [.int j] = .int i ∨ PySem.W.maxD (.int i) [.int j] = .int j := by
    unfold PySem.W.maxD
    simp only [List.foldl]
    split <;> simp
  have hr : ReadsAll s.heap [Value.int i t1, Value.int j t2] [PyData.int i, .int j] [] := .cons (as := []) (.int _ _) (.cons (as := []) (.int _ _) .nil)
  have ha : PySem.W.AlikeAll [PyData.int i, .int j] := by
    refine ⟨fun x hx y hy => ?_, fun x hx => ?_⟩
    · simp only [List.mem_cons, List.not_mem_nil, or_false] at hx hy
      rcases hx with rfl | rfl <;> rcases hy with rfl | rfl <;> rfl
    · simp only [List.mem_cons, List.not_mem_nil, or_false] at hx
      rcases hx with rfl | rfl <;> simp
  refine PySem.W.max_tuple_data (x := .int i) (xs := [.int j]) (as := []) (I.ok.hd hc) hl hr ha ?_ fun k v h' tk bs hk hr hk' => ?_
  · omega
  · rcases hm with e | e <;> (rw [e] at hr; cases hr)
    · exact ⟨.int i, H, I.kept hk', ⟨_, rfl⟩, q i (.inl rfl)⟩
    · exact ⟨.int j, H, I.kept hk', ⟨_, rfl⟩, q j (.inr rfl)⟩
end My
namespace My
open PySem PySem.Spec PyProof.Rows L2
variable {K : PySem.W.Frag}
/-! ### own error classes with one field -/
structure ExF (K : PySem.W.Frag) (mg : Str → Option Value) (x : Str) (C fI : Addr) (fl : Str) : Prop where
  g : mg x = some (.ref C)
  ox : OexC K C
  iC : PySem.W.findIn K (.ref C) "__init__" = some (some (.ref fI))
  tI : PySem.W.typeIn K (.ref fI) = some (.type "function")
  no : PySem.W.findIn K (.ref C) fl = some none
  xf : XfC K C
  ic : PySem.W.isClsIn K C = true
  sf : PySem.W.subIn K (.ref C) (.ref C) = some true
theorem ExF.te {K : PySem.W.Frag} {mg : Str → Option Value} {x : Str} {C fI : Addr} {fl : Str} (e : ExF K mg x C fI fl) : PySem.W.exmOne K (.ref C) (.ref C) = some true := exm_sub e.ox.exC e.ic e.ox.tyC e.sf
/-- what such an __init__ does -/
def sp_xinit (C : Addr) (fl : Str) : Sp := fun vs H Q _ => ∃ p v, vs = [.ref p, v] ∧ H p = some (exo p C none) ∧ ∀ dx, H dx = none → dx ≠ p → Q .non (upd (upd H dx (exd dx [(fl, v)])) p (exo p C (some dx)))
theorem rd_ost {K : PySem.W.Frag} {f : Str} {to te : TE} {D : Ends} {σ : L2.St} {H : Hp} (h : te σ H fun y H1 => to σ H1 fun x H2 => ∃ a C : Addr, x = .ref a ∧ OexC K C ∧ PySem.W.findIn K (.ref C) f = some none ∧
    ((H2 a = some (exo a C none) ∧ ∀ dx, H2 dx = none → dx ≠ a → D.nx σ (upd (upd H2 dx (exd dx [(f, y)])) a (exo a C (some dx)))) ∨
      ∃ (dx : Addr) (fs : List (Str × V)), H2 a = some (exo a C (some dx)) ∧ H2 dx = some (exd dx fs) ∧ fs.length ≤ 900 ∧ D.nx σ (upd H2 dx (exd dx ((f, y) :: fs))))) : tOst K f to te D σ H := h
theorem del_upd_back {H1 : Hp} {a d : Addr} {o1 o2 o3 : HO} {fs : List (Str × V)} (ha : H1 a = none) (hd : H1 d = none) (hn : d ≠ a) :
    upd (del (upd (upd (upd H1 a o1) d o2) a o3) a) d (.xd fs) = upd H1 d (.xd fs) := by
  funext b
  by_cases hb : b = d
  · rw [hb, upd_same, upd_same]
  · rw [upd_ne hb, upd_ne hb]
    by_cases hb2 : b = a
    · rw [hb2, del_same, ha]
    · rw [del_ne hb2, upd_ne hb2, upd_ne hb, upd_ne hb2]
theorem lk1 {f : Str} {v : V} : ([(f, v)] : List (Str × V)).lookup f = some v := by
  have e : (f == f) = true := beq_self_eq_true f
  simp only [List.lookup, e]
/-- raise X(e) -/
def tRaise1 (C : Addr) (fl : Str) (W : WX) (ta : TA) : TS := fun _ σ H => tMkO C (sp_xinit C fl) [] ta σ H fun cls d H' => W cls d σ H'
theorem rd_raise1 {C : Addr} {fl : Str} {W : WX} {ta : TA} {D : Ends} {σ : L2.St} {H : Hp} (h : ta σ H fun vs H1 => vs.length ≤ 1000 ∧ ∀ a, H1 a = none → sp_xinit C fl (.ref a :: (vs ++ [])) (upd H1 a (exo a C none))
    (fun v H2 => v = .non ∧ ∃ (d : Addr) (fs : List (Str × V)), H2 a = some (exo a C (some d)) ∧ H2 d = some (exd d fs) ∧ H1 d = none ∧ W (.ref C) (some d) σ (upd (del H2 a) d (.xd fs))) (fun _ _ _ => False)) : tRaise1 C fl W ta D σ H := h
theorem rd_x1 {C : Addr} {fl : Str} {v : V} {H1 : Hp} {Q : Value → Option Addr → Hp → Prop} (h : ∀ d, H1 d = none → Q (.ref C) (some d) (upd H1 d (.xd [(fl, v)]))) :
    [v].length ≤ 1000 ∧ ∀ a, H1 a = none → sp_xinit C fl (.ref a :: ([v] ++ [])) (upd H1 a (exo a C none))
      (fun v H2 => v = .non ∧ ∃ (d : Addr) (fs : List (Str × V)), H2 a = some (exo a C (some d)) ∧ H2 d = some (exd d fs) ∧ H1 d = none ∧ Q (.ref C) (some d) (upd (del H2 a) d (.xd fs))) (fun _ _ _ => False) := by
  refine ⟨by show 1 ≤ 1000; decide, fun a na => ⟨a, v, rfl, upd_same, fun dx nd ne => ⟨rfl, dx, [(fl, v)], upd_same, ?_, ?_, ?_⟩⟩⟩
  · rw [upd_ne ne, upd_same]
  · rw [upd_ne ne] at nd
    exact nd
  · rw [upd_ne ne] at nd
    rw [del_upd_back na nd ne]
    exact h dx nd
theorem ps_raise1 {X : Cx} {W : WX} {C fI : Addr} {x : Str} {fl : Str} {k : Nat} {fd : FuncData} {ta : TA} {e : Expr} {es : List Expr} {p pos pos2 : Pos} (hc : X.calm = true) (E : ExF X.K X.mg x C fI fl)
    (F1 : FnOk X.prog X.w X.K X.mg X.base CX0 k fI fd ["self", fl] (sp_xinit C fl)) (hr : Room (k + 1) X.A) (tk : Takes X W) (hb : Binds X.K fd ["self", fl] []) (ha : PA X (e :: es) ta) (hg : Gl X x := by rfl)
    (hdb : (x == ("__debug__" : Str)) = false := by decide) (he : starEach (e :: es) X.env = (false, eval e X.env) :: starEach es X.env := by rfl) (hpl : (backTo pos (starEach es X.env)).any (·.1) = false := by rfl) :
    PS X (.Raise (some (.Call (.Name x p) (e :: es) [] pos)) none pos2) (tRaise1 C fl W ta) :=
  ps_raise (pos := pos2) hc tk (pmk_oex (pos := pos) E.ox E.iC E.tI F1 hr hb .nil pass0 hg E.g ha hdb he hpl)
/-- e.f of the caught error -/
theorem rd_xf {a : Addr} {cls : Value} {d : Option Addr} {C : Addr} {f : Str} {te : TE} {σ : L2.St} {H : Hp} {Q : VK} (h : te σ H fun x H1 => x = .ref a ∧ cls = .ref C ∧ ∃ (dd : Addr) (fs : List (Str × V)) (v : V), d = some dd ∧ H1 dd = some (.xd fs) ∧ fs.lookup f = some v ∧ Q v H1) : tXf a cls d C f te σ H Q := h
theorem rd_xf1 {a : Addr} {C dd : Addr} {f : Str} {v : V} {H : Hp} {Q : VK} (h : H dd = some (.xd [(f, v)])) (q : Q v H) : (V.ref a) = .ref a ∧ (Value.ref C) = .ref C ∧ ∃ (dd2 : Addr) (fs : List (Str × V)) (v : V), some dd = some dd2 ∧ H dd2 = some (.xd fs) ∧ fs.lookup f = some v ∧ Q v H := ⟨rfl, rfl, dd, _, v, rfl, h, lk1, q⟩
/-! ### own classes with fields -/
structure InsT (K : PySem.W.Frag) (C : Addr) : Prop where
  cl : Cls K C
  ha : PySem.W.findIn K (.ref C) "__class__" = some (some (.builtin "object.__class__"))
  hn : PySem.W.specialIn K (.builtin "object.__class__") "__get__" = some (some (.builtin "getset_descriptor.__get__"))
  ht : PySem.W.takesIn K (.builtin "object.__class__") = some true
  mo : PySem.W.mroIn K C (.type "object") = some true
  ki : PySem.W.kitOne K (.ref C) (.type "int") = some false
  kb : PySem.W.kitOne K (.ref C) (.type "bool") = some false
  kt : PySem.W.kitOne K (.ref C) (.type "tuple") = some false
  kl : PySem.W.kitOne K (.ref C) (.type "list") = some false
structure WebC (K : PySem.W.Frag) (mg : Str → Option Value) (x : Str) (C fI : Addr) : Prop where
  g : mg x = some (.ref C)
  mks : Mk K C fI
  it : InsT K C
theorem rd_fldS {K : PySem.W.Frag} {ta tv : TE} {f : Str} {D : Ends} {σ : L2.St} {H : Hp} (h : tv σ H fun y H1 => ta σ H1 fun x H2 => ∃ a C dx fs, x = .ref a ∧ H2 a = some (.ins C dx fs) ∧ Cls K C ∧ NoAttr K C f ∧ fs.length < 1000 ∧ D.nx σ (upd H2 a (.ins C dx (putF f y fs)))) : sFld K ta tv f D σ H := h
theorem rd_make {C : Addr} {sp : Sp} {dvs : List V} {E : XK} {t : TA} {σ : L2.St} {H : Hp} {Q : VK} (h : t σ H fun vs H1 => ∀ x dx, H1 x = none → H1 dx = none → dx ≠ x → sp (.ref x :: (vs ++ dvs)) (upd (upd H1 dx (.own x)) x (.ins C dx [])) (fun v H2 => v = .non ∧ Q (.ref x) H2) E) : tMake C sp dvs E t σ H Q := h
theorem rd_enum {K : PySem.W.Frag} {ta : TA} {R : It → Hp → Prop} {σ : L2.St} {H : Hp} (h : ta σ H fun vs H1 => ∃ a xs, vs = [.ref a] ∧ SqL K H1 a xs ∧ R (Ite K a) H1) : iEnum K ta σ H R := h
/-! ### things of all kinds; D: the deck, which alone is changed -/
inductive Od (K : PySem.W.Frag) (D : Addr) (H : Hp) : V → Prop where
  | non : Od K D H .non
  | bl (b : Bool) : Od K D H (.bl b)
  | str (s : Str) : Od K D H (.str s)
  | lst {p : Addr} {xs : List V} (n : p ≠ D) (h : H p = some (.lst xs)) : Od K D H (.ref p)
  | tup {p : Addr} {xs : List V} (n : p ≠ D) (h : H p = some (.tup xs)) : Od K D H (.ref p)
  | dK {p : Addr} {kvs : List (Key × V)} (n : p ≠ D) (h : H p = some (.dK kvs)) : Od K D H (.ref p)
  | ins {p C dx : Addr} {fs : List (Str × V)} (n : p ≠ D) (h : H p = some (.ins C dx fs)) (c : InsT K C) : Od K D H (.ref p)
theorem Od.fw {K : PySem.W.Frag} {D : Addr} {H H' : Hp} {v : V} (o : Od K D H v) (f : Fw D H H') : Od K D H' v := by
  cases o with
  | non => exact .non
  | bl b => exact .bl b
  | str s => exact .str s
  | lst n h => exact .lst n (f _ _ n h)
  | tup n h => exact .tup n (f _ _ n h)
  | dK n h => exact .dK n (f _ _ n h)
  | ins n h c => exact .ins n (f _ _ n h) c
/-- what isinstance says of it -/
theorem Od.isi {K : PySem.W.Frag} {D : Addr} {H : Hp} {v : V} (o : Od K D H v) : ∃ b1 b2 b3 : Bool, (b1 && !b2) = false ∧ (∀ Q : VK, Q (.bl b1) H → rIsi K [v, .ty "int"] H Q) ∧ (∀ Q : VK, Q (.bl b2) H → rIsi K [v, .ty "bool"] H Q) ∧ (∀ Q : VK, Q (.bl b3) H → rIsi K [v, .ty "tuple"] H Q) ∧ (b3 = true → ∃ p xs, v = .ref p ∧ p ≠ D ∧ H p = some (.tup xs)) := by
  cases o with
  | non => exact ⟨false, false, false, rfl, fun Q q => ⟨_, _, _, _, _, rfl, .ty _, .base .non, kit_ty (by decide +kernel), q⟩, fun Q q => ⟨_, _, _, _, _, rfl, .ty _, .base .non, kit_ty (by decide +kernel), q⟩, fun Q q => ⟨_, _, _, _, _, rfl, .ty _, .base .non, kit_ty (by decide +kernel), q⟩, fun z => Bool.noConfusion z⟩
  | bl b => exact ⟨true, true, false, rfl, fun Q q => ⟨_, _, _, _, _, rfl, .ty _, .base (.bl _), kit_ty (by decide +kernel), q⟩, fun Q q => ⟨_, _, _, _, _, rfl, .ty _, .base (.bl _), kit_ty (by decide +kernel), q⟩, fun Q q => ⟨_, _, _, _, _, rfl, .ty _, .base (.bl _), kit_ty (by decide +kernel), q⟩, fun z => Bool.noConfusion z⟩
  | str s => exact ⟨false, false, false, rfl, fun Q q => ⟨_, _, _, _, _, rfl, .ty _, .base (.str _), kit_ty (by decide +kernel), q⟩, fun Q q => ⟨_, _, _, _, _, rfl, .ty _, .base (.str _), kit_ty (by decide +kernel), q⟩, fun Q q => ⟨_, _, _, _, _, rfl, .ty _, .base (.str _), kit_ty (by decide +kernel), q⟩, fun z => Bool.noConfusion z⟩
  | lst n h => exact ⟨false, false, false, rfl, fun Q q => ⟨_, _, _, _, _, rfl, .ty _, .base (.lst h), kit_ty (by decide +kernel), q⟩, fun Q q => ⟨_, _, _, _, _, rfl, .ty _, .base (.lst h), kit_ty (by decide +kernel), q⟩, fun Q q => ⟨_, _, _, _, _, rfl, .ty _, .base (.lst h), kit_ty (by decide +kernel), q⟩, fun z => Bool.noConfusion z⟩
  | tup n h => exact ⟨false, false, true, rfl, fun Q q => ⟨_, _, _, _, _, rfl, .ty _, .base (.tup h), kit_ty (by decide +kernel), q⟩, fun Q q => ⟨_, _, _, _, _, rfl, .ty _, .base (.tup h), kit_ty (by decide +kernel), q⟩, fun Q q => ⟨_, _, _, _, _, rfl, .ty _, .base (.tup h), kit_ty (by decide +kernel), q⟩, fun _ => ⟨_, _, rfl, n, h⟩⟩
  | dK n h => exact ⟨false, false, false, rfl, fun Q q => ⟨_, _, _, _, _, rfl, .ty _, .base (.dK h), kit_ty (by decide +kernel), q⟩, fun Q q => ⟨_, _, _, _, _, rfl, .ty _, .base (.dK h), kit_ty (by decide +kernel), q⟩, fun Q q => ⟨_, _, _, _, _, rfl, .ty _, .base (.dK h), kit_ty (by decide +kernel), q⟩, fun z => Bool.noConfusion z⟩
  | ins n h c => exact ⟨false, false, false, rfl, fun Q q => ⟨_, _, _, _, _, rfl, .ty _, .base (.ins h c.cl c.ha c.hn c.ht c.mo), c.ki, q⟩, fun Q q => ⟨_, _, _, _, _, rfl, .ty _, .base (.ins h c.cl c.ha c.hn c.ht c.mo), c.kb, q⟩, fun Q q => ⟨_, _, _, _, _, rfl, .ty _, .base (.ins h c.cl c.ha c.hn c.ht c.mo), c.kt, q⟩, fun z => Bool.noConfusion z⟩
/-- what is no fraction -/
inductive NoF (K : PySem.W.Frag) (D : Addr) (H : Hp) : V → Prop where
  | int (i : Int) : NoF K D H (.int i)
  | not {v : V} (o : Od K D H v) (h : ∀ p xs, v = .ref p → H p = some (.tup xs) → xs.length ≠ 2) : NoF K D H v
  | fst {p : Addr} {x y : V} (n : p ≠ D) (h : H p = some (.tup [x, y])) (o : Od K D H x) : NoF K D H (.ref p)
  | snd {p : Addr} {i : Int} {y : V} (n : p ≠ D) (h : H p = some (.tup [.int i, y])) (o : Od K D H y) : NoF K D H (.ref p)
  | low {p : Addr} {i j : Int} (n : p ≠ D) (h : H p = some (.tup [.int i, .int j])) (z : ¬ (0 < j ∧ Nat.gcd i.natAbs j.natAbs = 1)) (b : j.natAbs < 2 ^ 4000) : NoF K D H (.ref p)
theorem NoF.fw {K : PySem.W.Frag} {D : Addr} {H H' : Hp} {v : V} (o : NoF K D H v) (f : Fw D H H') : NoF K D H' v := by
  cases o with
  | int i => exact .int i
  | not o h =>
    refine .not (o.fw f) fun p xs e h2 => ?_
    subst e
    cases o with
    | lst n h3 =>
      rw [f _ _ n h3] at h2
      cases h2
    | tup n h3 =>
      rw [f _ _ n h3] at h2
      cases h2
      exact h _ _ rfl h3
    | dK n h3 =>
      rw [f _ _ n h3] at h2
      cases h2
    | ins n h3 c =>
      rw [f _ _ n h3] at h2
      cases h2
  | fst n h o => exact .fst n (f _ _ n h) (o.fw f)
  | snd n h o => exact .snd n (f _ _ n h) (o.fw f)
  | low n h z b => exact .low n (f _ _ n h) z b
/-- a thing with the word whether it is a fraction -/
def JF (K : PySem.W.Frag) (D : Addr) (H : Hp) (v : V) (b : Option Rat) : Prop := (∃ r, IsF K H v r ∧ Bd 40 r ∧ b = some r) ∨ (NoF K D H v ∧ b = none)
theorem isi_int_tup {K : PySem.W.Frag} {H : Hp} {Q : VK} {i : Int} (q : Q (.bl false) H) : rIsi K [.int i, .ty "tuple"] H Q := ⟨_, _, _, _, _, rfl, .ty _, .base (.int _), kit_ty (by decide +kernel), q⟩
end My
namespace My
open PySem PySem.Spec PyProof.Rows L2
variable {K : PySem.W.Frag}
theorem for_enum {K : PySem.W.Frag} {a : Addr} {xs : List V} {g : TG} {tb : TS} {D : Ends} {σ : L2.St} {H : Hp} (Pv : Nat → L2.St → Hp → Prop) (h0 : Pv 0 σ H) (hl : ∀ i σ H, i ≤ xs.length → Pv i σ H → SqL K H a xs)
    (hs : ∀ i x T σ H, xs[i]? = some x → Pv i σ H → H T = none → g (.ref T) σ (upd H T (.tup [.int (i : Nat), x])) fun σ2 H2 => tb { D with nx := Pv (i + 1), ct := Pv (i + 1), bk := D.nx } σ2 H2) (hd : ∀ σ H, Pv xs.length σ H → D.nx σ H) :
    ∃ W : Nat → Nat → L2.St → Hp → Prop, (∃ m, W 0 m σ H) ∧ ∀ i m σ H, W i m σ H →
      ((Ite K a).stop i H ∧ D.nx σ H) ∨ ((Ite K a).go i H ∧ ∃ N : L2.St → Hp → Prop, (∀ σ' H', N σ' H' → ∃ m', m' < m ∧ W (i + 1) m' σ' H') ∧ ∀ x H', (Ite K a).yld i H x H' → g x σ H' fun σ2 H2 => tb { D with nx := N, ct := N, bk := D.nx } σ2 H2) := by
  refine ⟨fun i m σ H => m = xs.length - i ∧ i ≤ xs.length ∧ Pv i σ H, ⟨xs.length, by simp, Nat.zero_le _, h0⟩, ?_⟩
  rintro i m σ H ⟨rfl, hi, p⟩
  have q := hl i σ H hi p
  by_cases hlt : i < xs.length
  · refine .inr ⟨⟨xs, xs[i], q, by simp [hlt]⟩, Pv (i + 1), fun σ' H' p' => ⟨xs.length - (i + 1), by omega, rfl, hlt, p'⟩, fun x H' y => ?_⟩
    obtain ⟨T, x, rfl, nT, rfl, y⟩ := y
    exact hs i x T σ H (y xs q) p nT
  · have e : i = xs.length := by omega
    subst e
    exact .inl ⟨⟨xs, q, Nat.le_refl _⟩, hd σ H p⟩
/-! ### right stalls and webs of them -/
structure Stl where
  u : Nat
  v : Nat
  a : Rat
  b : Rat
  r : Rat
structure OkSt (n : Nat) (s : Stl) : Prop where
  u : s.u < n
  v : s.v < n
  ne : s.u ≠ s.v
  a : 0 < s.a
  b : 0 < s.b
  r : 0 < s.r
  e : s.a * s.b = s.r * s.r
structure BdSt (k : Nat) (s : Stl) : Prop where
  a : Bd k s.a
  b : Bd k s.b
  r : Bd k s.r
def IsSt (K : PySem.W.Frag) (H : Hp) (x : V) (s : Stl) : Prop := ∃ p va vb vr, x = .ref p ∧ H p = some (.tup [.int (s.u : Nat), .int (s.v : Nat), va, vb, vr]) ∧ IsF K H va s.a ∧ IsF K H vb s.b ∧ IsF K H vr s.r
theorem IsSt.same {H H' : Hp} {x : V} {s : Stl} (f : Same H H') (h : IsSt K H x s) : IsSt K H' x s := by
  obtain ⟨p, va, vb, vr, e, h, a, b, c⟩ := h
  exact ⟨p, va, vb, vr, e, f _ _ h, a.same f, b.same f, c.same f⟩
def Sts (K : PySem.W.Frag) (H : Hp) (xs : List V) (ss : List Stl) : Prop := Paired (IsSt K H) xs ss
theorem Sts.same {H H' : Hp} {xs : List V} {ss : List Stl} (f : Same H H') (h : Sts K H xs ss) : Sts K H' xs ss := by
  unfold Sts at *
  induction h with
  | nil => exact .nil
  | cons h t ih => exact .cons (h.same f) ih
theorem Sts.len {H : Hp} {xs : List V} {ss : List Stl} (h : Sts K H xs ss) : xs.length = ss.length := Paired.length h
theorem Sts.at {H : Hp} {xs : List V} {ss : List Stl} (h : Sts K H xs ss) : ∀ {i : Nat} {x : V}, xs[i]? = some x → ∃ s, ss[i]? = some s ∧ IsSt K H x s := by
  unfold Sts at h
  induction h with
  | nil =>
    intro i x e
    simp at e
  | cons h t ih =>
    intro i x e
    match i with
    | 0 =>
      simp at e
      subst e
      exact ⟨_, rfl, h⟩
    | i + 1 => exact ih (by simpa using e)
theorem IsF.ts {H H' : Hp} {x : V} {r : Rat} (f : Tps H H') (h : IsF K H x r) : IsF K H' x r := by
  obtain ⟨p, e, h⟩ := h
  exact ⟨p, e, h.ts f⟩
theorem IsSt.ts {H H' : Hp} {x : V} {s : Stl} (f : Tps H H') (h : IsSt K H x s) : IsSt K H' x s := by
  obtain ⟨p, va, vb, vr, e, h, a, b, c⟩ := h
  exact ⟨p, va, vb, vr, e, f _ _ h, a.ts f, b.ts f, c.ts f⟩
theorem Sts.ts {H H' : Hp} {xs : List V} {ss : List Stl} (f : Tps H H') (h : Sts K H xs ss) : Sts K H' xs ss := by
  unfold Sts at *
  induction h with
  | nil => exact .nil
  | cons h t ih => exact .cons (h.ts f) ih
def wF (n : Nat) (t : Addr) : List (Str × V) := [("wares", .int (n : Nat)), ("stalls", .ref t)]
def IsWeb (K : PySem.W.Frag) (C : Addr) (H : Hp) (x : V) (n : Nat) (ss : List Stl) : Prop := ∃ p dx t xs, x = .ref p ∧ H p = some (.ins C dx (wF n t)) ∧ H t = some (.tup xs) ∧ Sts K H xs ss
theorem IsWeb.same {C : Addr} {H H' : Hp} {x : V} {n : Nat} {ss : List Stl} (f : Same H H') (h : IsWeb K C H x n ss) : IsWeb K C H' x n ss := by
  obtain ⟨p, dx, t, xs, e, h1, h2, h3⟩ := h
  exact ⟨p, dx, t, xs, e, f _ _ h1, f _ _ h2, h3.same f⟩
theorem lk_here {k : Str} {v : V} {r : List (Str × V)} : List.lookup k ((k, v) :: r) = some v := by
  have e : (k == k) = true := beq_self_eq_true k
  simp only [List.lookup, e]
theorem lk_past {k g : Str} {v : V} {r : List (Str × V)} (h : (k == g) = false) : List.lookup k ((g, v) :: r) = List.lookup k r := by
  simp only [List.lookup, h]
theorem wF_wares (n : Nat) (t : Addr) : (wF n t).lookup ("wares" : Str) = some (.int (n : Nat)) := lk_here
theorem wF_stalls (n : Nat) (t : Addr) : (wF n t).lookup ("stalls" : Str) = some (.ref t) := (lk_past (by decide +kernel)).trans lk_here
theorem wF_new (n : Nat) (t : Addr) : putF "stalls" (.ref t) (putF "wares" (.int (n : Nat)) []) = wF n t := by
  have h : ¬ (("wares" : Str) = "stalls") := by decide +kernel
  show putF "stalls" (.ref t) [("wares", .int (n : Nat))] = _
  simp [putF, h, wF]
theorem rd_fld {K : PySem.W.Frag} {ta : TE} {f : Str} {σ : L2.St} {H : Hp} {Q : VK} (h : ta σ H fun x H1 => ∃ a C dx fs v, x = .ref a ∧ H1 a = some (.ins C dx fs) ∧ Cls K C ∧ NoAttr K C f ∧ fs.lookup f = some v ∧ Q v H1) : tFld K ta f σ H Q := h
/-- what a stall is behind a move -/
def Stl.first (s : Stl) (x : Rat) : Stl := ⟨s.u, s.v, x, s.r * s.r / x, s.r⟩
def Stl.secnd (s : Stl) (y : Rat) : Stl := ⟨s.u, s.v, s.r * s.r / y, y, s.r⟩
def Stl.behind (s : Stl) (w : Nat) (x : Rat) : Stl := if w = s.u then s.first (s.a + x) else s.secnd (s.b + x)
def Stl.out (s t : Stl) (w : Nat) : Rat := if w = s.u then s.b - t.b else s.a - t.a
/-- a move of the web -/
def IsMv (K : PySem.W.Frag) (H : Hp) (v : V) (i w : Nat) (x : Rat) : Prop := ∃ p vx, v = .ref p ∧ H p = some (.tup [.int (i : Nat), .int (w : Nat), vx]) ∧ IsF K H vx x
theorem IsMv.same {H H' : Hp} {v : V} {i w : Nat} {x : Rat} (f : Same H H') (h : IsMv K H v i w x) : IsMv K H' v i w x := by
  obtain ⟨p, vx, e, h, a⟩ := h
  exact ⟨p, vx, e, f _ _ h, a.same f⟩
theorem Sts.get {H : Hp} {xs : List V} {ss : List Stl} (h : Sts K H xs ss) : ∀ {i : Nat} {s : Stl}, ss[i]? = some s → ∃ x, xs[i]? = some x ∧ IsSt K H x s := by
  unfold Sts at h
  induction h with
  | nil =>
    intro i x e
    simp at e
  | cons h t ih =>
    intro i x e
    match i with
    | 0 =>
      simp at e
      subst e
      exact ⟨_, rfl, h⟩
    | i + 1 => exact ih (by simpa using e)
end My
namespace My
open PySem PySem.Spec PyProof.Rows L2
variable {K : PySem.W.Frag}
theorem tps_put {H1 H : Hp} {D : Addr} {o : HO} {ys : List V} (h : H D = some (.lst ys)) : Tps H (upd H D o) := fun b xs hb => by
  refine (upd_ne fun e => ?_).trans hb
  rw [e, h] at hb
  cases hb
theorem same_put {H1 H : Hp} {D : Addr} {o : HO} (n : H1 D = none) (s : Same H1 H) : Same H1 (upd H D o) := fun b x h => (upd_ne (ne_of_none h n)).trans (s b x h)
/-- what stands while the tuples stand -/
def Mn {α : Type} (R : Hp → V → α → Prop) : Prop := ∀ H H' v a, Tps H H' → R H v a → R H' v a
theorem Paired.mono {α : Type} {R : Hp → V → α → Prop} (hR : Mn R) {H H' : Hp} (f : Tps H H') {ys : List V} {as : List α} (h : Paired (R H) ys as) : Paired (R H') ys as := by
  induction h with
  | nil => exact .nil
  | cons h t ih => exact .cons (hR _ _ _ _ f h) ih
theorem same_tps {H H' : Hp} (s : Same H H') : Tps H H' := fun b xs h => s _ _ h
theorem sqT_same {H H' : Hp} {a : Addr} {xs : List V} (e : Same H H') (h : SqT K H a xs) : SqT K H' a xs := by
  rcases h with (h | ⟨o, h⟩) | h
  · exact .inl (.inl (e _ _ h))
  · exact .inl (.inr ⟨o, e _ _ h⟩)
  · exact .inr h
section
variable {α : Type} {R : Hp → V → α → Prop} {g : TG} {tt : TT} {te : TE} {vs : List Nat} {σ : L2.St} {H1 : Hp} {D : Addr} {Qd : Hp → Prop} {f : Nat → Option α}
/-- the state of a list under way -/
def Lst (R : Hp → V → α → Prop) (H1 : Hp) (D : Addr) (as : List α) (H : Hp) : Prop := Same H1 H ∧ ∃ ys, H D = some (.lst ys) ∧ Paired (R H) ys as
theorem Lst.len {as : List α} {H : Hp} : Lst R H1 D as H → ∃ ys, H D = some (.lst ys) ∧ ys.length = as.length := fun ⟨_, ys, h, p⟩ => ⟨ys, h, Paired.length p⟩
theorem Lst.add (hR : Mn R) (nD : H1 D = none) {as : List α} {a : α} {H H' : Hp} {y : V} (l : Lst R H1 D as H) (s : Same H H') (h : R H' y a) (hn : as.length < 1000) :
    ∃ acc, H' D = some (.lst acc) ∧ acc.length < sizeLine ∧ Lst R H1 D (as ++ [a]) (upd H' D (.lst (acc ++ [y]))) := by
  obtain ⟨s1, ys, hD, p⟩ := l
  have hl := Paired.length p
  refine ⟨ys, s _ _ hD, small1000 (by omega), same_put nD (s1.trans s), _, upd_same, ?_⟩
  have t : Tps H' (upd H' D (.lst (ys ++ [y]))) := tps_put (H1 := H1) (s _ _ hD)
  exact Paired.mono hR t (Paired.snoc (Paired.mono hR (same_tps s) p) h)
theorem Lst.skip (hR : Mn R) {as : List α} {H H' : Hp} (l : Lst R H1 D as H) (s : Same H H') : Lst R H1 D as H' := by
  obtain ⟨s1, ys, hD, p⟩ := l
  exact ⟨s1.trans s, ys, s _ _ hD, Paired.mono hR (same_tps s) p⟩
def upTo (f : Nat → Option α) (i : Nat) : List α := (List.range i).filterMap f
theorem upTo_some {i : Nat} {a : α} (h : f i = some a) : upTo f (i + 1) = upTo f i ++ [a] := by
  unfold upTo
  rw [List.range_succ, List.filterMap_append]
  simp [h]
theorem upTo_none {i : Nat} (h : f i = none) : upTo f (i + 1) = upTo f i := by
  unfold upTo
  rw [List.range_succ, List.filterMap_append]
  simp [h]
theorem upTo_len (f : Nat → Option α) (i : Nat) : (upTo f i).length ≤ i := by
  unfold upTo
  refine Nat.le_trans (List.length_filterMap_le _ _) ?_
  simp
/-- one turn -/
def Turn1 (R : Hp → V → α → Prop) (H1 : Hp) (f : Nat → Option α) (i : Nat) (G : Hp → VK → (Hp → Prop) → Prop) : Prop :=
  ∀ H' (Q : VK) (N : Hp → Prop), Same H1 H' → (∀ a y H4, f i = some a → Same H' H4 → R H4 y a → Q y H4) → (∀ H3, f i = none → Same H' H3 → N H3) → G H' Q N
theorem Turn1.step (hR : Mn R) (nD : H1 D = none) {i : Nat} (hi : i < 1000) {G : Hp → VK → (Hp → Prop) → Prop} (t : Turn1 R H1 f i G) {H : Hp} (l : Lst R H1 D (upTo f i) H) :
    G H (fun y H4 => ∃ acc, H4 D = some (.lst acc) ∧ acc.length < sizeLine ∧ Lst R H1 D (upTo f (i + 1)) (upd H4 D (.lst (acc ++ [y])))) (Lst R H1 D (upTo f (i + 1))) := by
  refine t H _ _ l.1 (fun a y H4 e s h => ?_) fun H3 e s => ?_
  · rw [upTo_some e]
    exact l.add hR nD s h (Nat.lt_of_le_of_lt (upTo_len f i) hi)
  · rw [upTo_none e]
    exact l.skip hR s
theorem lst_new (nD : H1 D = none) : Lst R H1 D (upTo f 0) (upd H1 D (.lst [])) := ⟨same_upd nD, [], upd_same, .nil⟩
theorem lc_rangeP (hR : Mn R) {lo : Int} {n : Nat} (nD : H1 D = none) (hn : n ≤ 1000)
    (hs : ∀ i, i < n → Turn1 R H1 f i fun H' Q N => g (.int (lo + i)) (wipe σ vs) H' fun σ2 H2 => wipe σ2 vs = wipe σ vs ∧ tt σ2 H2 fun b H3 => if b = true then te σ2 H3 Q else N H3)
    (hd : ∀ H', Lst R H1 D (upTo f n) H' → Qd H') :
    ∃ W : Nat → Nat → Hp → Prop, (∃ m, W 0 m (upd H1 D (.lst []))) ∧ ∀ i m H, W i m H →
      ((Itr lo n).stop i H ∧ Qd H) ∨ ((Itr lo n).go i H ∧ ∃ Nx : Hp → Prop, (∀ H', Nx H' → ∃ m', m' < m ∧ W (i + 1) m' H') ∧ ∀ x H', (Itr lo n).yld i H x H' → g x (wipe σ vs) H' fun σ2 H2 => wipe σ2 vs = wipe σ vs ∧ tt σ2 H2 fun b H3 =>
        if b = true then te σ2 H3 fun y H4 => ∃ acc, H4 D = some (.lst acc) ∧ acc.length < sizeLine ∧ Nx (upd H4 D (.lst (acc ++ [y]))) else Nx H3) :=
  lc_range (fun i H => Lst R H1 D (upTo f i) H) (lst_new nD) (fun i H hi l => Turn1.step (i := i) hR nD (by omega) (hs i hi) l) hd
theorem lc_tupP (hR : Mn R) {a : Addr} {xs : List V} (nD : H1 D = none) (hn : xs.length ≤ 1000) (hl : SqT K H1 a xs)
    (hs : ∀ i x, xs[i]? = some x → Turn1 R H1 f i fun H' Q N => g x (wipe σ vs) H' fun σ2 H2 => wipe σ2 vs = wipe σ vs ∧ tt σ2 H2 fun b H3 => if b = true then te σ2 H3 Q else N H3)
    (hd : ∀ H', Lst R H1 D (upTo f xs.length) H' → Qd H') :
    ∃ W : Nat → Nat → Hp → Prop, (∃ m, W 0 m (upd H1 D (.lst []))) ∧ ∀ i m H, W i m H →
      ((Itt K a).stop i H ∧ Qd H) ∨ ((Itt K a).go i H ∧ ∃ Nx : Hp → Prop, (∀ H', Nx H' → ∃ m', m' < m ∧ W (i + 1) m' H') ∧ ∀ x H', (Itt K a).yld i H x H' → g x (wipe σ vs) H' fun σ2 H2 => wipe σ2 vs = wipe σ vs ∧ tt σ2 H2 fun b H3 =>
        if b = true then te σ2 H3 fun y H4 => ∃ acc, H4 D = some (.lst acc) ∧ acc.length < sizeLine ∧ Nx (upd H4 D (.lst (acc ++ [y]))) else Nx H3) :=
  lc_tup (xs := xs) (fun i H => Lst R H1 D (upTo f i) H) (lst_new nD) (fun i H _ l => sqT_same l.1 hl) (fun i x H hx l => Turn1.step (i := i) hR nD (by
    have := (List.getElem?_eq_some_iff.mp hx).1
    omega) (hs i x hx) l) hd
theorem lc_listP (hR : Mn R) {a : Addr} {xs : List V} (nD : H1 D = none) (hn : xs.length ≤ 1000) (hl : SqL K H1 a xs)
    (hs : ∀ i x, xs[i]? = some x → Turn1 R H1 f i fun H' Q N => g x (wipe σ vs) H' fun σ2 H2 => wipe σ2 vs = wipe σ vs ∧ tt σ2 H2 fun b H3 => if b = true then te σ2 H3 Q else N H3)
    (hd : ∀ H', Lst R H1 D (upTo f xs.length) H' → Qd H') :
    ∃ W : Nat → Nat → Hp → Prop, (∃ m, W 0 m (upd H1 D (.lst []))) ∧ ∀ i m H, W i m H →
      ((Itl K a).stop i H ∧ Qd H) ∨ ((Itl K a).go i H ∧ ∃ Nx : Hp → Prop, (∀ H', Nx H' → ∃ m', m' < m ∧ W (i + 1) m' H') ∧ ∀ x H', (Itl K a).yld i H x H' → g x (wipe σ vs) H' fun σ2 H2 => wipe σ2 vs = wipe σ vs ∧ tt σ2 H2 fun b H3 =>
        if b = true then te σ2 H3 fun y H4 => ∃ acc, H4 D = some (.lst acc) ∧ acc.length < sizeLine ∧ Nx (upd H4 D (.lst (acc ++ [y]))) else Nx H3) :=
  lc_list (xs := xs) (fun i H => Lst R H1 D (upTo f i) H) (lst_new nD) (fun i H _ l => l.1.seq hl) (fun i x H hx l => Turn1.step (i := i) hR nD (by
    have := (List.getElem?_eq_some_iff.mp hx).1
    omega) (hs i x hx) l) hd
theorem lc_enumTP (hR : Mn R) {a : Addr} {xs : List V} (nD : H1 D = none) (hn : xs.length ≤ 1000) (hl : SqT K H1 a xs)
    (hs : ∀ i x, xs[i]? = some x → Turn1 R H1 f i fun H' Q N => ∀ T, H' T = none → g (.ref T) (wipe σ vs) (upd H' T (.tup [.int (i : Nat), x])) fun σ2 H2 => wipe σ2 vs = wipe σ vs ∧ tt σ2 H2 fun b H3 => if b = true then te σ2 H3 Q else N H3)
    (hd : ∀ H', Lst R H1 D (upTo f xs.length) H' → Qd H') :
    ∃ W : Nat → Nat → Hp → Prop, (∃ m, W 0 m (upd H1 D (.lst []))) ∧ ∀ i m H, W i m H →
      ((IteT K a).stop i H ∧ Qd H) ∨ ((IteT K a).go i H ∧ ∃ Nx : Hp → Prop, (∀ H', Nx H' → ∃ m', m' < m ∧ W (i + 1) m' H') ∧ ∀ x H', (IteT K a).yld i H x H' → g x (wipe σ vs) H' fun σ2 H2 => wipe σ2 vs = wipe σ vs ∧ tt σ2 H2 fun b H3 =>
        if b = true then te σ2 H3 fun y H4 => ∃ acc, H4 D = some (.lst acc) ∧ acc.length < sizeLine ∧ Nx (upd H4 D (.lst (acc ++ [y]))) else Nx H3) := by
  refine ⟨fun i m H => m = xs.length - i ∧ i ≤ xs.length ∧ Lst R H1 D (upTo f i) H, ⟨xs.length, by simp, Nat.zero_le _, lst_new nD⟩, ?_⟩
  rintro i m H ⟨rfl, hi, l⟩
  have q := sqT_same l.1 hl
  by_cases hlt : i < xs.length
  · refine .inr ⟨⟨xs, xs[i], q, by simp [hlt]⟩, Lst R H1 D (upTo f (i + 1)), fun H' p' => ⟨xs.length - (i + 1), by omega, rfl, hlt, p'⟩, fun x H' y => ?_⟩
    obtain ⟨T, x, rfl, nT, rfl, y⟩ := y
    exact Turn1.step (i := i) hR nD (by omega) (hs i x (y xs q)) l T nT
  · have e : i = xs.length := by omega
    subst e
    exact .inl ⟨⟨xs, q, rfl⟩, hd H l⟩
end
end My
namespace My
open PySem PySem.Spec PyProof.Rows L2
section
variable {X : Cx} {K : PySem.W.Frag}
theorem sl_tupK (h : X.K = K) : SlR X (rSlT K) := h ▸ sl_tup
theorem sl_listK (h : X.K = K) : SlR X (rSlL K) := h ▸ sl_list
def rIxA (K : PySem.W.Frag) : R2 := fun x y H Q => ∃ p xs i v, x = .ref p ∧ y = .int i ∧ (SqL K H p xs ∨ SqT K H p xs) ∧ atI xs i = some v ∧ Q v H
theorem ix_any : IxR X (rIxA X.K) := by
  intro value slice pins s σ H x y v u Q I rx ry h hs
  obtain ⟨p, xs, i, z, e1, e2, hq, he, q⟩ := h
  rcases hq with hq | hq
  · exact ix_list value slice pins s σ H x y v u Q I rx ry ⟨p, xs, i, z, e1, e2, hq, he, q⟩ hs
  · exact ix_tup value slice pins s σ H x y v u Q I rx ry ⟨p, xs, i, z, e1, e2, hq, he, q⟩ hs
theorem ix_anyK (h : X.K = K) : IxR X (rIxA K) := h ▸ ix_any
theorem ix_tupK (h : X.K = K) : IxR X (rIxT K) := h ▸ ix_tup
theorem ix_listK (h : X.K = K) : IxR X (rIxL K) := h ▸ ix_list
theorem op_inK (h : X.K = K) : OpR X (compareOp .In) (rIn K false) := h ▸ op_in_seq
theorem op_eqDK (h : X.K = K) (hu : X.A.units + 64 < cLine) : OpR X (compareOp .Eq) (rEqD K) := h ▸ op_eqD hu
theorem op_neDK (h : X.K = K) (hu : X.A.units + 64 < cLine) : OpR X (compareOp .NotEq) (rNeD K) := h ▸ op_neD hu
theorem call_lenNK (h : X.K = K) : CallR X (.builtin "len") (rLen K) := h ▸ call_lenN
theorem call_isiK' (h : X.K = K) : CallR X (.builtin "isinstance") (rIsi K) := h ▸ call_isi
theorem pe_fldK {e : Expr} {f : Str} {pos : Pos} {ta : TE} (h : X.K = K) (he : PE X e ta) (hb : attributeBase e f X.env (eval e X.env) = eval e X.env) : PE X (.Attribute e f pos) (tFld K ta f) := h ▸ pe_fld he hb
end
end My
namespace My
open PySem PySem.Spec PyProof.Rows L2
/-! ### t[::-1] of a tuple -/
section
variable {prog : Program} {w : World} {A : Around} {E : Value → Shared → Prop} {s : Shared}
theorem adjust_back (n : Nat) : Builtin.Slice.sliceAdjust none none (-1) (n : Int) = ((n : Int) - 1, -1) := rfl
theorem places_back (n : Nat) : Builtin.Slice.slicePlaces ((n : Int) - 1) (-1) (-1) = n := by
  unfold Builtin.Slice.slicePlaces
  have h1 : ¬ ((-1 : Int) > 0) := by omega
  rw [if_neg h1]
  split
  · rw [show (-(-1) : Int) = 1 by rfl, Int.ediv_one]
    omega
  · omega
theorem sliceApplied_back {sl : Addr} {vs : Value} {n : Nat} {Q : Int × Int × Nat → Shared → Prop} (hs : s.heap.IsSliceOf sl .none .none vs) (ps : IsPart vs (some (-1)))
    (h : Q ((n : Int) - 1, -1, n) s) : wpAny (model prog w) A (Builtin.Slice.sliceApplied (.ref sl) (pure (n : Int))) Q E s := by
  obtain ⟨os, hos, hcs, hds⟩ := id hs
  unfold Builtin.Slice.sliceApplied Builtin.Slice.sliceFields
  refine wpAny_bind (wpAny_bind (wpAny_field hos hds (x := .none) rfl (wpAny_bind (wpAny_field hos hds (x := .none) rfl (wpAny_bind (wpAny_field hos hds (x := vs) rfl (wpAny_pure ?_)))))))
  refine wpAny_bind (HT.slicePart_ ps ?_)
  show wpAny _ _ (if ((-1 : Int) == 0) = true then _ else _) _ _ s
  rw [if_neg (by decide)]
  refine wpAny_bind (slicePart_none (wpAny_bind (slicePart_none (wpAny_bind (wpAny_pure ?_)))))
  show wpAny _ _ (match Builtin.Slice.sliceAdjust none none (-1) (n : Int) with | (lo, hi) => pure (lo, (-1 : Int), Builtin.Slice.slicePlaces lo hi (-1))) _ _ s
  rw [adjust_back n]
  show wpAny _ _ (pure ((n : Int) - 1, (-1 : Int), Builtin.Slice.slicePlaces ((n : Int) - 1) (-1) (-1))) _ _ s
  rw [places_back]
  exact wpAny_pure h
theorem fm_map {α β : Type} {f : α → Option β} {g : α → β} : ∀ {l : List α}, (∀ m ∈ l, f m = some (g m)) → l.filterMap f = l.map g
  | [], _ => rfl
  | a :: l, h => by
    rw [List.filterMap_cons, h a (by simp)]
    show _ :: _ = _ :: _
    rw [fm_map fun m hm => h m (by simp [hm])]
theorem pick_back (xs : Array Value) : ((List.range xs.size).filterMap fun (m : Nat) => xs[((xs.size : Int) - 1 + (m : Int) * (-1)).toNat]?).toArray = xs.toList.reverse.toArray := by
  congr 1
  apply List.ext_getElem?
  intro i
  have e : (List.range xs.size).filterMap (fun (m : Nat) => xs[((xs.size : Int) - 1 + (m : Int) * (-1)).toNat]?) = (List.range xs.size).map fun m => xs.toList.getD (xs.size - 1 - m) Value.none := by
    refine fm_map fun m hm => ?_
    have hm := List.mem_range.mp hm
    have : ((xs.size : Int) - 1 + (m : Int) * (-1)).toNat = xs.size - 1 - m := by omega
    rw [this, List.getD_eq_getElem?_getD, Array.getElem?_toList]
    have hlt : xs.size - 1 - m < xs.size := by omega
    rw [Array.getElem?_eq_getElem hlt]
    rfl
  rw [e, List.getElem?_map]
  by_cases hi : i < xs.size
  · rw [List.getElem?_range hi, List.getElem?_reverse (by simpa using hi)]
    simp only [Array.length_toList, Option.map_some, List.getD_eq_getElem?_getD]
    have hlt : xs.size - 1 - i < xs.size := by omega
    rw [Array.getElem?_toList, Array.getElem?_eq_getElem hlt]
    rfl
  · rw [List.getElem?_eq_none (by simpa using hi), List.getElem?_eq_none (by simpa using hi)]
    rfl
theorem getItem_tuple_back {t sl : Addr} {items : Array Value} {vs : Value} {Q : Value → Shared → Prop} (ht : IsTup s.heap t items) (hs : s.heap.IsSliceOf sl .none .none vs) (ps : IsPart vs (some (-1)))
    (h : Q (.ref s.heap.objs.size) { s with heap := s.heap.push { cls := .type "tuple", data := .seq items.toList.reverse.toArray } })
    (hsz : items.size ≤ sizeLine) : wpAny (model prog w) A (getItem (.ref t) (.ref sl)) Q E s := by
  have htake : sizeOk (.seq items.toList.reverse.toArray) := by
    show items.toList.reverse.toArray.size ≤ sizeLine
    rw [List.size_toArray, List.length_reverse, Array.length_toList]
    exact hsz
  obtain ⟨os, hos, hcs, hds⟩ := id hs
  have hTs : s.TypeIs (.ref sl) "slice" := ⟨os, hos, hcs⟩
  unfold getItem
  try with_reducible refine wpAny_holding ?_
  first | refine wpAny_bind (wpAny_pure ?_) | skip
  refine wpAny_bind (wpAny_sequenceKey ht.typeIs (by decide) ?_)
  refine wpAny_bind (wpAny_callSpecial?_slot (name := Str.ofString "__getitem__") ht.typeIs PyProof.Rows.slot_tuple_getitem
    (wpAny_call_entry PyProof.Rows.slot_tuple_getitem ht.typeIs entry_tuple_getitem ?_ (args_tuple_getitem _ _)))
  show wpAny _ _ (Builtin.Tuple.tupleItemsOf (.ref t) >>= _) _ _ s
  refine wpAny_bind (tupleItemsOf_ ht ?_)
  refine wpAny_bind (wpAny_typeOf hTs ?_)
  rw [if_pos (by decide)]
  refine wpAny_bind (sliceApplied_back hs ps ?_)
  show wpAny _ _ (if (((items.size : Int) - 1) == 0 && (-1 : Int) == 1 && items.size == items.size) = true then _ else _) _ _ s
  have hno : ¬ ((((items.size : Int) - 1) == 0 && (-1 : Int) == 1 && items.size == items.size) = true) := by
    intro q
    rw [Bool.and_eq_true, Bool.and_eq_true] at q
    exact absurd q.1.2 (by decide)
  rw [if_neg hno, pick_back]
  first
    | exact wpAny_bind (m := Builtin.Tuple.tupleExact _) (wpAny_newObj_type (wpAny_pure ⟨_, rfl, wpAny_pure h⟩) htake)
    | exact wpAny_bind (m := Builtin.Tuple.tupleExact _) (wpAny_newObj_type (wpAny_bind (wpAny_pure (wpAny_pure ⟨_, rfl, wpAny_pure h⟩))) htake)
    | exact wpAny_bind (wpAny_bind (m := Builtin.Tuple.tupleExact _) (wpAny_newObj_type (wpAny_pure (wpAny_pure ⟨_, rfl, wpAny_pure h⟩)) htake))
    | exact wpAny_bind (wpAny_bind (m := Builtin.Tuple.tupleExact _) (wpAny_newObj_type (wpAny_pure ⟨_, rfl, wpAny_pure h⟩) htake))
end
def tRevT (K : PySem.W.Frag) (te : TE) : TE := fun σ H Q => te σ H fun x H1 => ∃ a xs, x = .ref a ∧ SqT K H1 a xs ∧ ∀ p, H1 p = none → Q (.ref p) (upd H1 p (.tup xs.reverse))
theorem pe_revT {X : Cx} {e : Expr} {te : TE} {k : Nat} {p1 p2 p3 pos : Pos} (he : PE X e te) : PE X (.Subscript e (.Slice none none (some (.UnaryOp .USub (.Constant (.int 1) k p1) p2)) p3) pos) (tRevT X.K te) := by
  refine ⟨fun pins s σ H Q I h => ?_⟩
  refine Subscript_ (thn (he.run pins s σ H _ I h) fun v s1 ⟨x, H1, I1, r1, q1⟩ => ?_)
  obtain ⟨a, xs, ex, hx, q⟩ := q1
  subst ex
  cases r1
  have hst : PO X (some (.UnaryOp .USub (.Constant (.int 1) k p1) p2)) (tPart (tUn (rU fun i => .int (-i)) (tC (.int 1)))) := po_some (pe_un un_neg pe_int)
  refine wpAny_Slice (thn (po_none.run pins s1 σ H1 (fun o H2 => o = none ∧ H2 = H1) I1 ⟨rfl, rfl⟩) fun vl s2 ⟨l, H2, I2, pl, el, e2⟩ => ?_)
  subst el e2
  refine thn (po_none.run pins s2 σ H2 (fun o H3 => o = none ∧ H3 = H2) I2 ⟨rfl, rfl⟩) fun vu s3 ⟨u, H3, I3, pu, eu, e3⟩ => ?_
  subst eu e3
  refine thn (hst.run pins s3 σ H3 (fun o H4 => o = some (-1) ∧ H4 = H3) I3 ⟨1, rfl, -1, rfl, rfl, rfl⟩) fun vs s4 ⟨o, H4, I4, ps, eo, e4⟩ => ?_
  subst eo e4
  cases pl
  cases pu
  have I5 : Inv X pins σ H4 { s4 with heap := s4.heap.push { cls := .type "slice", data := .fields #[.none, .none, vs] } } := I4.kept (t' := s4.toks) fun b ob q => Heap.get?_push_of_some _ q
  obtain ⟨its, r, ht, hz⟩ := I5.tuple hx
  have hlen := r.length
  show wpAny (model X.prog X.w) X.A (subscriptTail e (.Slice none none (some (.UnaryOp .USub (.Constant (.int 1) k p1) p2)) p3) (.ref a) (.ref s4.heap.objs.size)) (EP X pins σ Q) X.xe { s4 with heap := s4.heap.push { cls := .type "slice", data := .fields #[.none, .none, vs] } }
  refine tail_any (ops := [.ref a, .ref s4.heap.objs.size]) ht.typeIs (PyProof.Rows.slot_tuple_getitem.lookup) ?_ (by with_unfolding_all rfl)
  refine getItem_tuple_back ht (Heap.IsSliceOf.new _ .none .none vs) ps ?_ (by rw [List.size_toArray]; omega)
  refine ⟨.ref _, _, I5.laid (t' := s4.toks) (o := .tup xs.reverse) (fun b ob q => Heap.get?_push_of_some _ q) (Nat.le_refl _) ?_, rfl, q _ (I5.hok.fresh (Nat.le_refl _))⟩
  exact ⟨by rw [List.length_reverse]; exact hz, _, r.reverse, IsTup.new _ _⟩
variable {K : PySem.W.Frag}
theorem rd_revT {te : TE} {σ : L2.St} {H : Hp} {Q : VK} (h : te σ H fun x H1 => ∃ a xs, x = .ref a ∧ SqT K H1 a xs ∧ ∀ p, H1 p = none → Q (.ref p) (upd H1 p (.tup xs.reverse))) : tRevT K te σ H Q := h
end My
namespace My
open PySem PySem.Spec PyProof.Rows L2
/-! ### several except clauses, some of them with a name -/
abbrev Suit := Addr → Value → Option Addr → TS
/-- the ends of a suite whose name goes behind it -/
abbrev offEnds (j : Nat) (D : Ends) : Ends :=
  ⟨fun τ G => D.nx (τ.set j none) G, D.rt, fun τ G => D.bk (τ.set j none) G, fun τ G => D.ct (τ.set j none) G⟩
def clsAsk (K : PySem.W.Frag) (k : Value) (yes no : WX) : WX := fun e dd τ G =>
  ∃ t, PySem.W.exmOne K e k = some t ∧ (t = true → yes e dd τ G) ∧ (t = false → no e dd τ G)
def wMix (K : PySem.W.Frag) (Wo : WX) (D : Ends) : List (Value × Option Nat × Suit) → WX
  | [] => Wo
  | (k, none, u) :: l => clsAsk K k (fun e dd τ G => ∀ x, G x = none → u x e dd D τ G) (wMix K Wo D l)
  | (k, some j, u) :: l => clsAsk K k (fun e dd τ G => ∀ x, G x = none → u x e dd (offEnds j D) (τ.set j (some (.ref x))) G) (wMix K Wo D l)
def SuitOk (X : Cx) (b : List Stmt) (u : Suit) : Prop := ∀ (x : Addr) (ob : Obj) (e : Value) (dd : Option Addr) (ps : List (Addr × Obj)),
  Zc e dd ob → (∃ fs, ob.data = .fields fs) → PSs (X.suite x ((x, ob) :: ps)) b (u x e dd)
inductive HdsX (X : Cx) : List ExceptHandler → List (Value × Option Nat × Suit) → Prop
  | nil : HdsX X [] []
  | bare {y : Str} {k : Value} {u : Suit} {s0 : Stmt} {rest : List Stmt} {q q' : Pos} {hl : List ExceptHandler} {l : List (Value × Option Nat × Suit)}
      (hk : Names X y k) (hu : SuitOk X (s0 :: rest) u) (more : HdsX X hl l) : HdsX X (.ExceptHandler (some (.Name y q)) none (s0 :: rest) q' :: hl) ((k, none, u) :: l)
  | as_ {y m : Str} {j : Nat} {k : Value} {u : Suit} {s0 : Stmt} {rest : List Stmt} {q q' : Pos} {hl : List ExceptHandler} {l : List (Value × Option Nat × Suit)}
      (hk : Names X y k) (hj : X.N[j]? = some m) (hm : X.env.kindOf m = some .local) (hu : SuitOk X (s0 :: rest) u) (more : HdsX X hl l) :
      HdsX X (.ExceptHandler (some (.Name y q)) (some m) (s0 :: rest) q' :: hl) ((k, some j, u) :: l)
section
variable {X : Cx} {bd : List Stmt} {h1 : ExceptHandler} {hl : List ExceptHandler} {l : List (Value × Option Nat × Suit)} {q : Pos} {tt : WX → TS} {Wo : WX}
/-- an exception of the body that has come to the clauses of its try -/
structure Came (X : Cx) (pins : List (Addr × Obj)) (τ : L2.St) (G : Hp) (e : Value) (dd : Option Addr) (x : Addr) (B : Heap) (s0 s : Shared) : Prop where
  inv : Inv X pins τ G s0
  nb : ∀ b o, s0.heap.get? b = some o → b ∉ frs X.stack → B.get? b = some o
  fly : PySem.HandSPX.FlyingZ B (X.env :: X.outer) x (Zc e dd) s.heap
  up : s0.heap.UpToSlots s.heap
  os : s.os = s0.os
  ag : AllBare s.gens
  na : G x = none
  fr : X.env.frame = some X.env.locals
theorem off_frames {B h : Heap} {x : Addr} {ob : Obj} {fs : Array Value} {es : List Env} (ff : h.FunFrames B es) (g : h.get? x = some ob) (g2 : ob.data = .fields fs) : x ∉ frs es := fun m => by
  obtain ⟨_, o2, r, nf⟩ := ff.mem m
  cases g.symm.trans r
  exact nf _ g2
theorem Came.look {pins : List (Addr × Obj)} {τ : L2.St} {G : Hp} {e : Value} {dd : Option Addr} {x : Addr} {B : Heap} {s0 s : Shared} (c : Came X pins τ G e dd x B s0 s) :
    ∃ ob fs, s.heap.get? x = some ob ∧ Zc e dd ob ∧ ob.data = .fields fs ∧ Inv X pins τ G s ∧ Inv (X.suite x ((x, ob) :: (X.pn ++ pins))) [] τ G s := by
  obtain ⟨ob, fs, g, z, g2⟩ := c.fly.there
  have J := c.inv.landed c.nb c.fly.1 c.up c.os c.ag
  have nf := off_frames c.fly.2.2.1 g g2
  refine ⟨ob, fs, g, z, g2, J, J.suite g g2 c.na (fun y => nf ?_) (fun m => ?_)⟩
  · exact List.mem_filterMap.mpr ⟨X.env, List.mem_cons_self, c.fr.trans (congrArg some y.symm)⟩
  · obtain ⟨w, m1, m2⟩ := List.mem_filterMap.mp m
    exact nf (List.mem_filterMap.mpr ⟨w, List.mem_cons_of_mem _ m1, m2⟩)
theorem ends_of {pins : List (Addr × Obj)} {D : Ends} {ob : Obj} {x : Addr} {f : Flow} {s : Shared} (ok : X.Ok) (h : SP (X.suite x ((x, ob) :: (X.pn ++ pins))) [] D f s) : SP X pins D f s := by
  cases f with
  | next =>
    obtain ⟨τ, G, S, r⟩ := h
    exact ⟨τ, G, S.unsuite ok, r⟩
  | brk =>
    obtain ⟨τ, G, S, r⟩ := h
    exact ⟨τ, G, S.unsuite ok, r⟩
  | cont =>
    obtain ⟨τ, G, S, r⟩ := h
    exact ⟨τ, G, S.unsuite ok, r⟩
  | ret u =>
    obtain ⟨v, τ, G, S, r⟩ := h
    exact ⟨v, τ, G, S.unsuite ok, r⟩
theorem ends_try {pins : List (Addr × Obj)} {D : Ends} {pn : List (Addr × Obj)} {xe : Value → Shared → Prop} {f : Flow} {s : Shared} (ok : X.Ok) (h : SP (X.tr (X.pn ++ pins) xe) pn D f s) : SP X pins D f s := by
  cases f with
  | next =>
    obtain ⟨τ, G, S, r⟩ := h
    exact ⟨τ, G, S.ofTry ok, r⟩
  | brk =>
    obtain ⟨τ, G, S, r⟩ := h
    exact ⟨τ, G, S.ofTry ok, r⟩
  | cont =>
    obtain ⟨τ, G, S, r⟩ := h
    exact ⟨τ, G, S.ofTry ok, r⟩
  | ret u =>
    obtain ⟨v, τ, G, S, r⟩ := h
    exact ⟨v, τ, G, S.ofTry ok, r⟩
/-- the name of a clause, looked up -/
theorem Came.name {pins : List (Addr × Obj)} {τ : L2.St} {G : Hp} {e k : Value} {dd : Option Addr} {x : Addr} {B : Heap} {s0 s : Shared} (c : Came X pins τ G e dd x B s0 s) {y : Str} {qq : Pos} (hk : Names X y k) {R E2 : Value → Shared → Prop} (h : R k s) :
    wpAny (model X.prog X.w) (X.A.mark (some (.ref x))) (eval (.Name y qq) X.env) R E2 s := by
  obtain ⟨ob, fs, _, _, _, _, S⟩ := c.look
  rcases hk with ⟨g1, g2, g3 | ⟨g3, g4, g5⟩⟩
  · exact ld_glob (X := X.suite x ((x, ob) :: (X.pn ++ pins))) S g1 g3 h g2
  · exact ld_blt (X := X.suite x ((x, ob) :: (X.pn ++ pins))) S g1 g3 g4 h g5 g2
theorem Came.clauses {pins : List (Addr × Obj)} {D : Ends} {τ : L2.St} {G : Hp} {e : Value} {dd : Option Addr} {x : Addr} {B : Heap} {s0 s : Shared} (c : Came X pins τ G e dd x B s0 s) (ok : X.Ok) (hs : X.stack = X.env :: X.outer) (hN : X.N.Nodup) (tk : Takes X Wo)
    (hh : HdsX X hl l) (wsh : wMix X.K Wo D l e dd τ G) : wpAny (model X.prog X.w) X.A (handleBy (.ref x) X.env hl) (SP X pins D) X.xe s := by
  obtain ⟨ob, fs, g, z, g2, J, S⟩ := c.look
  have LT : PySem.W.Looks (model X.prog X.w) s.heap (typeOf (.ref x)) e := fun A Q E s k q => wpAny_typeOf_ref (k _ _ g) (by rw [z.1]; exact q)
  induction hh with
  | nil =>
    refine wpAny_handleBy_nil ?_
    obtain ⟨_, _, _, ob', fs', Tb, oT, tf, e1, _, e3, e4, _⟩ := id c.fly
    unfold PySem.passOn
    refine wpAny_bind (wpAny_field e1 e3 e4 ?_)
    rw [if_neg (by simp)]
    have last : wpAny (model X.prog X.w) X.A (setFlight (.ref x) X.env.frame) (fun _ t => wpAny (model X.prog X.w) X.A (throw (.ref x) : Sem Flow) (SP X pins D) X.xe t) X.xe s := by
      rw [c.fr]
      exact HandSPX.setFlight_upZ c.fly fun h4 held up4 => wpAny_throw (tk _ _ ⟨x, B, s0, pins, τ, G, e, dd, rfl, c.inv, c.nb, c.up.trans up4, .inr (.inr (hs ▸ held)), c.na, c.os, c.ag, wsh⟩)
    first
      | exact wpAny_bind last
      | exact wpAny_bind (wpAny_pure (wpAny_bind last))
  | @bare y k u st0 rest q1 q2 hl' l' hk hu more ih =>
    obtain ⟨t, ht, yes, no⟩ := wsh
    have LM := PySem.W.exm_one (M := model X.prog X.w) J.kIn LT ht
    refine wpAny_handleBy_cons (codeAny_handlers_test (c.name hk (LM.here ?_))) (by intro r; cases r)
    cases t with
    | false => exact ih (no rfl)
    | true =>
      refine codeAny_handlers_suite ?_
      refine HandSPX.lands_againZ c.fly fun h4 fl4 up4 => ?_
      have c4 : Came X pins τ G e dd x B s0 { s with heap := h4 } := ⟨c.inv, c.nb, fl4, c.up.trans up4, c.os, c.ag, c.na, c.fr⟩
      obtain ⟨ob4, fs4, _, z4, d4, _, S4⟩ := c4.look
      exact wpAny_mono ((hu x ob4 e dd (X.pn ++ pins) z4 ⟨_, d4⟩).run [] _ _ _ _ S4 (yes rfl x c.na)) (fun f s6 hsp => ends_of ok hsp) (fun _ _ z => False.elim z)
  | @as_ y m j k u st0 rest q1 q2 hl' l' hk hj hm hu more ih =>
    obtain ⟨t, ht, yes, no⟩ := wsh
    have LM := PySem.W.exm_one (M := model X.prog X.w) J.kIn LT ht
    refine wpAny_handleBy_cons (codeAny_handlers_test (c.name hk (LM.here ?_))) (by intro r; cases r)
    cases t with
    | false => exact ih (no rfl)
    | true =>
      refine codeAny_handlers_suite_as ?_
      refine HandSPX.lands_againZ c.fly fun h4 fl4 up4 => ?_
      have c4 : Came X pins τ G e dd x B s0 { s with heap := h4 } := ⟨c.inv, c.nb, fl4, c.up.trans up4, c.os, c.ag, c.na, c.fr⟩
      obtain ⟨ob4, fs4, _, z4, d4, _, S4⟩ := c4.look
      refine store_ok (X := X.suite x ((x, ob4) :: (X.pn ++ pins))) (v := .ref x) S4 hN hj (.inl hm) rfl (fun s5 S5 => ?_) (.inr hm)
      refine wpAny_mono ((hu x ob4 e dd (X.pn ++ pins) z4 ⟨_, d4⟩).run [] s5 _ _ _ S5 (yes rfl x c.na)) (fun f s6 hsp => ?_) (fun _ _ z => False.elim z)
      cases f with
      | next =>
        obtain ⟨τ6, G6, S6, r6⟩ := hsp
        exact gone_ok (S6.unsuite ok) hN hj hm fun s7 J7 => ⟨_, _, J7, r6⟩
      | brk =>
        obtain ⟨τ6, G6, S6, r6⟩ := hsp
        exact gone_ok (S6.unsuite ok) hN hj hm fun s7 J7 => ⟨_, _, J7, r6⟩
      | cont =>
        obtain ⟨τ6, G6, S6, r6⟩ := hsp
        exact gone_ok (S6.unsuite ok) hN hj hm fun s7 J7 => ⟨_, _, J7, r6⟩
      | ret v =>
        obtain ⟨v6, τ6, G6, S6, r6, r7⟩ := hsp
        exact gone_ok (S6.unsuite ok) hN hj hm fun s7 J7 => ⟨_, _, _, J7, r6, r7⟩
theorem ps_try_mix (hs : X.stack = X.env :: X.outer) (hf : X.env.frame = some X.env.locals) (hN : X.N.Nodup) (tk : Takes X Wo)
    (hb : ∀ (W : WX) (ps : List (Addr × Obj)) (ex : Value → Shared → Prop), Takes (X.tr ps ex) W → PassesOwn (model X.prog X.w) X.A X.env ex → PSs (X.tr ps ex) bd (tt W))
    (hh : HdsX X (h1 :: hl) l) : PS X (.Try bd (h1 :: hl) [] [] q) (fun D τ G => tt (wMix X.K Wo D l) D τ G) := by
  constructor
  intro pins s τ G D I wsh
  have ok := I.ok
  refine wpAny_Try_except (wpAny_mono ((hb (wMix X.K Wo D l) (X.pn ++ pins) _ (fun u s' xx => ?_) PassesOwn.looking).run [] s τ G D (I.toTry _) wsh) (fun f s1 hsp => ?_) fun e s1 r => r)
  · obtain ⟨x, B, sI, pins', τ', G', e, dd, rfl, J', nb, up, sky, na, os, ag, ww⟩ := xx
    refine Sky.land (L := X.env.locals) Zc.steady (ok.frames.trans (congrArg some hs)) hf (hs ▸ sky) fun h3 fl3 up3 => ?_
    exact Came.clauses ⟨J'.ofTry ok, nb, fl3, up.trans up3, os, ag, na, hf⟩ ok hs hN tk hh ww
  · cases f with
    | next => exact wpAny_execs_nil (ends_try ok hsp)
    | brk => exact ends_try ok hsp
    | cont => exact ends_try ok hsp
    | ret u => exact ends_try ok hsp
end
end My
namespace My
open PySem PySem.Spec PyProof.Rows L2
/-! ### an instance whose __init__ may raise -/
section
variable {X : Cx} {CX : CXT} {k : Nat} {f C : Addr} {fd : FuncData} {ps : List Str} {sp : Sp} {dvs : List V} {ds : List Value} {E : L2.St → XK} {x : Str} {p pos : Pos} {e : Expr} {es : List Expr} {t : TA}
def tMakeS (C : Addr) (sp : Sp) (E : L2.St → XK) (t : TA) : TE := fun τ G Q => t τ G fun ws G1 => ∀ y dy, G1 y = none → G1 dy = none → dy ≠ y →
  sp (.ref y :: ws) (upd (upd G1 dy (.own y)) y (.ins C dy [])) (fun z G2 => z = .non ∧ Q (.ref y) G2) (E τ)
theorem pe_makeS (M : Mk X.K C f) (F : FnOk X.prog X.w X.K X.mg X.base CX k f fd ps sp) (hr : Room (k + 1) X.A) (hg : Gl X x) (hm : X.mg x = some (.ref C)) (hb : Binds X.K fd ps []) (hx : ∀ τ, PassesAt CX X τ (E τ))
    (ha : PA X (e :: es) t) (hdb : (x == ("__debug__" : Str)) = false := by decide) (he : starEach (e :: es) X.env = (false, eval e X.env) :: starEach es X.env := by rfl) (hpl : (backTo pos (starEach es X.env)).any (·.1) = false := by rfl) :
    PE X (.Call (.Name x p) (e :: es) [] pos) (tMakeS C sp E t) := by
  constructor
  intro pins s τ G Q I h
  refine wpAny_Call_Name_kw (ld_glob I hg hm ?_ hdb)
  refine PySem.W.callWith_K (h₀ := X.base) I.ok.mod.kin M.kp (thn (ha.run pos pins s τ G _ I h) fun us s1 g => ?_) he hpl
  obtain ⟨ws, G1, I1, r, q⟩ := g
  refine ⟨I1.kIn, ?_⟩
  have n1 : G1 (s1.heap.objs.size + 1) = none := I1.hok.fresh (by omega)
  have n2 : G1 s1.heap.objs.size = none := I1.hok.fresh (by omega)
  have todo := q _ _ n1 n2 (Nat.ne_of_lt (Nat.lt_succ_self _))
  have I2 := Inv.made (C := C) I1
  have rv : Vals (V.ref (s1.heap.objs.size + 1) :: ws) (Value.ref (s1.heap.objs.size + 1) :: us) := .cons rfl r
  have hl : (Value.ref (s1.heap.objs.size + 1) :: us).length = ps.length := by rw [← rv.length]; exact F.len _ _ _ _ todo
  have bnd := hb _ (Value.ref (s1.heap.objs.size + 1) :: us) I2.kIn (by simpa using hl)
  refine wpAny_call (make_map (f := f) I1.kIn M.makes M.init (beq_iff_eq.mp M.fn) (codeAny_mono (F.run _ X.stack _ _ ⟨Value.ref (s1.heap.objs.size + 1) :: us, []⟩ (Value.ref (s1.heap.objs.size + 1) :: us) _ _ (E τ) (hr.make C us [])
    (I2.env0.make C us []) (by simpa using bnd) rv todo) fun res s2 hq => ?_))
  cases res with
  | error err => exact hx τ pins _ _ err s2 I2 hq
  | ok fl =>
    cases fl with
    | ret u =>
      obtain ⟨z, G2, I3, r3, ez, q3⟩ := I2.after hq
      cases ez
      exact ⟨r3, ⟨V.ref (s1.heap.objs.size + 1), G2, I3, rfl, q3⟩⟩
    | next => exact hq.elim
    | brk => exact hq.elim
    | cont => exact hq.elim
end
theorem rd_makeS {C : Addr} {sp : Sp} {E : L2.St → XK} {t : TA} {σ : L2.St} {H : Hp} {Q : VK} (h : t σ H fun vs H1 => ∀ x dx, H1 x = none → H1 dx = none → dx ≠ x → sp (.ref x :: vs) (upd (upd H1 dx (.own x)) x (.ins C dx [])) (fun v H2 => v = .non ∧ Q (.ref x) H2) (E σ)) : tMakeS C sp E t σ H Q := h
/-! ### != of two lists of the same things -/
def noFl : V → Bool
  | .flt _ => false
  | .byt _ => false
  | _ => true
theorem same_at {A : Around} {s : Shared} : ∀ {v : V} {a b : Value}, noFl v = true → RelV v a → RelV v b → SeqAt.EqAt A s a b true
  | .non, _, _, _, h, g => by cases h; cases g; exact SeqAt.EqAt.same _
  | .bl c, _, _, _, h, g => by cases h; cases g; exact SeqAt.EqAt.same _
  | .int i, _, _, _, h, g => by
    obtain ⟨t, rfl⟩ := h
    obtain ⟨u, rfl⟩ := g
    have := SeqAt.EqAt.int_int (A := A) (s := s) i t i u
    rwa [beq_self_eq_true] at this
  | .str x, _, _, _, h, g => by
    obtain ⟨t, rfl⟩ := h
    obtain ⟨u, rfl⟩ := g
    have := SeqAt.EqAt.str_str (A := A) (s := s) x t x u
    rwa [beq_self_eq_true] at this
  | .ref c, _, _, _, h, g => by cases h; cases g; exact SeqAt.EqAt.same _
  | .ty n, _, _, _, h, g => by cases h; cases g; exact SeqAt.EqAt.same _
def rNeL : R2 := fun x y H Q => ∃ a b xs, x = .ref a ∧ y = .ref b ∧ H a = some (.lst xs) ∧ H b = some (.lst xs) ∧ (∀ v ∈ xs, noFl v = true) ∧ Q (.bl false) H
theorem op_neL {X : Cx} (hu64 : X.A.units + 64 < cLine) : OpR X (compareOp .NotEq) rNeL := by
  intro pins s σ H x y v u Q I rx ry hq
  have hu : X.A.units < cLine := by omega
  obtain ⟨a, b, xs, rfl, rfl, ha, hb, hn, q⟩ := hq
  cases rx
  cases ry
  obtain ⟨i1, r1, p1, _⟩ := I.list (.of ha)
  obtain ⟨i2, r2, p2, _⟩ := I.list (.of hb)
  have l1 := r1.length
  have l2 := r2.length
  show wpAny (model X.prog X.w) X.A (richCompare .NotEq (.ref a) (.ref b)) (EP X pins σ Q) X.xe s
  refine (SeqAt.RcNeAt.lists (A := X.A) (s := s) (items := i1.toArray) (items2 := i2.toArray) (e := fun _ => true) ?_ ?_ ?_ hu (fun j h1 h2 => ?_)) X.prog X.w _ _ ?_
  · obtain ⟨o, n, e, e2, _, e3⟩ := p1
    exact ⟨o, e, e2, n, e3⟩
  · obtain ⟨o, n, e, e2, _, e3⟩ := p2
    exact ⟨o, e, e2, n, e3⟩
  · simp
    omega
  · have h1' : j < i1.length := by simpa using h1
    have h2' : j < i2.length := by simpa using h2
    obtain ⟨x1, hx1⟩ : ∃ y, xs[j]? = some y := ⟨_, List.getElem?_eq_getElem (by omega)⟩
    obtain ⟨u1, e1, g1⟩ := Vals.get r1 hx1
    obtain ⟨u2, e2, g2⟩ := Vals.get r2 hx1
    have f1 : i1.toArray[j] = u1 := by
      rw [List.getElem?_eq_getElem h1'] at e1
      simpa using e1
    have f2 : i2.toArray[j] = u2 := by
      rw [List.getElem?_eq_getElem h2'] at e2
      simpa using e2
    rw [f1, f2]
    exact same_at (hn _ (List.mem_of_getElem? hx1)) g1 g2
  · rw [show (List.range i1.toArray.size).all (fun _ => true) = true by simp]
    exact (show EP X pins σ Q _ _ from ⟨.bl false, H, I, rfl, q⟩)
end My
namespace My
open PySem PySem.Spec PyProof.Rows L2
/-! ### a list or a tuple walked -/
def iSeqA (K : PySem.W.Frag) (te : TE) : TI := fun σ H R => te σ H fun x H1 => ∃ a, x = .ref a ∧ (((∃ xs, SqL K H1 a xs) ∧ R (Itl K a) H1) ∨ ((∃ xs, SqT K H1 a xs) ∧ R (Itt K a) H1))
theorem pi_seqA {X : Cx} {tg l : Expr} {tl : TE} (hl : PE X l tl) : PI X tg l (iSeqA X.K tl) := by
  refine ⟨fun pins s σ H R I h => ?_⟩
  refine thn (hl.run pins s σ H _ I h) fun v s1 ⟨x, H1, I1, r1, q1⟩ => ?_
  obtain ⟨a, e, q⟩ := q1
  subst e
  cases r1
  rcases q with ⟨⟨xs, hq⟩, q⟩ | ⟨⟨xs, hq⟩, q⟩
  · obtain ⟨its, rv, p, hz⟩ := I1.list hq
    refine wpAny_pyIter_list p.isList ?_
    refine ⟨s1.heap.objs.size, [s1.heap.objs.size], _, _, H1, rfl, I1.kept (t' := s1.toks) fun b o e => Heap.get?_push_of_some _ e, turn_list a _, ⟨_, Heap.get?_push_size _ rfl, rfl, rfl⟩, fun b hb => ?_, q⟩
    have e : b = s1.heap.objs.size := by simpa using hb
    subst e
    exact I1.fpOk (Nat.le_refl _) (I1.hok.fresh (Nat.le_refl _))
  · obtain ⟨its, rv, p, hz⟩ := I1.tuple hq
    refine wpAny_pyIter_tuple (show s1.heap.IsTuple a its.toArray from p) ?_
    refine ⟨s1.heap.objs.size, [s1.heap.objs.size], _, _, H1, rfl, I1.kept (t' := s1.toks) fun b o e => Heap.get?_push_of_some _ e, turn_tuple a _, ⟨_, Heap.get?_push_size _ rfl, rfl, rfl⟩, fun b hb => ?_, q⟩
    have e : b = s1.heap.objs.size := by simpa using hb
    subst e
    exact I1.fpOk (Nat.le_refl _) (I1.hok.fresh (Nat.le_refl _))
variable {K : PySem.W.Frag}
theorem rd_seqA {te : TE} {σ : L2.St} {H : Hp} {R : It → Hp → Prop} (h : te σ H fun x H1 => ∃ a, x = .ref a ∧ (((∃ xs, SqL K H1 a xs) ∧ R (Itl K a) H1) ∨ ((∃ xs, SqT K H1 a xs) ∧ R (Itt K a) H1))) : iSeqA K te σ H R := h
/-- an address of a list or a tuple of these values -/
def Sq (K : PySem.W.Frag) (H : Hp) (a : Addr) (xs : List V) : Prop := SqL K H a xs ∨ SqT K H a xs
theorem Sq.same {H H' : Hp} {a : Addr} {xs : List V} (s : Same H H') (h : Sq K H a xs) : Sq K H' a xs := h.imp (Same.seq s) (sqT_same s)
theorem Sq.l {H : Hp} {a : Addr} {xs : List V} (h : H a = some (.lst xs)) : Sq K H a xs := .inl (.of h)
theorem Sq.t {H : Hp} {a : Addr} {xs : List V} (h : H a = some (.tup xs)) : Sq K H a xs := .inr (.of h)
section
variable {α : Type} {R : Hp → V → α → Prop} {g : TG} {tt : TT} {te : TE} {vs : List Nat} {σ : L2.St} {H1 : Hp} {Qd : Addr → Hp → Prop} {f : Nat → Option α}
theorem lc_seqA (hR : Mn R) {a : Addr} {xs : List V} (hn : xs.length ≤ 1000) (hl : Sq K H1 a xs)
    (hs : ∀ i x, xs[i]? = some x → Turn1 R H1 f i fun H' Q N => g x (wipe σ vs) H' fun σ2 H2 => wipe σ2 vs = wipe σ vs ∧ tt σ2 H2 fun b H3 => if b = true then te σ2 H3 Q else N H3)
    (hd : ∀ D H', Lst R H1 D (upTo f xs.length) H' → Qd D H') {RR : It → Hp → Prop}
    (hRR : RR = fun J H1 => ∀ D, H1 D = none → ∃ W : Nat → Nat → Hp → Prop, (∃ m, W 0 m (upd H1 D (.lst []))) ∧ ∀ i m H, W i m H →
      (J.stop i H ∧ Qd D H) ∨ (J.go i H ∧ ∃ Nx : Hp → Prop, (∀ H', Nx H' → ∃ m', m' < m ∧ W (i + 1) m' H') ∧ ∀ x H', J.yld i H x H' → g x (wipe σ vs) H' fun σ2 H2 => wipe σ2 vs = wipe σ vs ∧ tt σ2 H2 fun b H3 =>
        if b = true then te σ2 H3 fun y H4 => ∃ acc, H4 D = some (.lst acc) ∧ acc.length < sizeLine ∧ Nx (upd H4 D (.lst (acc ++ [y]))) else Nx H3)) :
    ((∃ xs, SqL K H1 a xs) ∧ RR (Itl K a) H1) ∨ ((∃ xs, SqT K H1 a xs) ∧ RR (Itt K a) H1) := by
  subst hRR
  rcases hl with hl | hl
  · exact .inl ⟨⟨_, hl⟩, fun D nD => lc_listP hR nD hn hl hs fun H' l => hd D H' l⟩
  · exact .inr ⟨⟨_, hl⟩, fun D nD => lc_tupP hR nD hn hl hs fun H' l => hd D H' l⟩
end
section
variable {g : TG} {tb : TS} {D : Ends} {σ : L2.St} {H : Hp}
theorem for_seqA {H0 : Hp} {a : Addr} {xs : List V} (Pv : Nat → L2.St → Hp → Prop) (h : Sq K H0 a xs) (h0 : Pv 0 σ H) (hl : ∀ i σ' H', Pv i σ' H' → Same H0 H')
    (hs : ∀ i x σ H, xs[i]? = some x → Pv i σ H → g x σ H fun σ2 H2 => tb { D with nx := Pv (i + 1), ct := Pv (i + 1), bk := D.nx } σ2 H2) (hd : ∀ σ H, Pv xs.length σ H → D.nx σ H) {RR : It → Hp → Prop}
    (hRR : RR = fun J H1 => ∃ W : Nat → Nat → L2.St → Hp → Prop, (∃ m, W 0 m σ H1) ∧ ∀ i m σ H, W i m σ H →
      (J.stop i H ∧ D.nx σ H) ∨ (J.go i H ∧ ∃ N : L2.St → Hp → Prop, (∀ σ' H', N σ' H' → ∃ m', m' < m ∧ W (i + 1) m' σ' H') ∧ ∀ x H', J.yld i H x H' → g x σ H' fun σ2 H2 => tb { D with nx := N, ct := N, bk := D.nx } σ2 H2)) :
    ((∃ xs, SqL K H a xs) ∧ RR (Itl K a) H) ∨ ((∃ xs, SqT K H a xs) ∧ RR (Itt K a) H) := by
  subst hRR
  rcases h with h | h
  · exact .inl ⟨⟨_, (hl 0 σ H h0).seq h⟩, for_list Pv h0 (fun i σ' H' hi p => (hl i σ' H' p).seq h) hs hd⟩
  · exact .inr ⟨⟨_, sqT_same (hl 0 σ H h0) h⟩, for_tup Pv h0 (fun i σ' H' hi p => sqT_same (hl i σ' H' p) h) hs hd⟩
end
end My
namespace My
open PySem PySem.Spec PyProof.Rows L2
def topS (i : Nat) : Stmt := PySem.Challenge.pw_rootstalls_k05_webs_judged.main.body.getD i (.Pass ⟨0, 0, 0, 0⟩)
abbrev s_is_integer : Stmt := topS 6
abbrev N_is_integer : List Str := ["thing"]
theorem sc_is_integer : FnScope N_is_integer ["thing"] (defScope s_is_integer) := ⟨rfl, rfl, rfl, by decide +kernel, rfl, by decide +kernel, by decide +kernel⟩
abbrev s_is_row : Stmt := topS 7
abbrev N_is_row : List Str := ["thing"]
theorem sc_is_row : FnScope N_is_row ["thing"] (defScope s_is_row) := ⟨rfl, rfl, rfl, by decide +kernel, rfl, by decide +kernel, by decide +kernel⟩
abbrev s_is_fraction : Stmt := topS 8
abbrev N_is_fraction : List Str := ["thing", "top", "bottom"]
theorem sc_is_fraction : FnScope N_is_fraction ["thing"] (defScope s_is_fraction) := ⟨rfl, rfl, rfl, by decide +kernel, rfl, by decide +kernel, by decide +kernel⟩
abbrev s_is_some : Stmt := topS 9
abbrev N_is_some : List Str := ["thing"]
theorem sc_is_some : FnScope N_is_some ["thing"] (defScope s_is_some) := ⟨rfl, rfl, rfl, by decide +kernel, rfl, by decide +kernel, by decide +kernel⟩
abbrev s_multiplied : Stmt := topS 10
abbrev N_multiplied : List Str := ["one", "other", "left", "right"]
theorem sc_multiplied : FnScope N_multiplied ["one", "other"] (defScope s_multiplied) := ⟨rfl, rfl, rfl, by decide +kernel, rfl, by decide +kernel, by decide +kernel⟩
abbrev s_squared : Stmt := topS 11
abbrev N_squared : List Str := ["one"]
theorem sc_squared : FnScope N_squared ["one"] (defScope s_squared) := ⟨rfl, rfl, rfl, by decide +kernel, rfl, by decide +kernel, by decide +kernel⟩
abbrev s_is_stall : Stmt := topS 15
abbrev N_is_stall : List Str := ["wares", "thing", "one", "other", "kept", "other_kept", "root", "ware"]
theorem sc_is_stall : FnScope N_is_stall ["wares", "thing"] (defScope s_is_stall) := ⟨rfl, rfl, rfl, by decide +kernel, rfl, by decide +kernel, by decide +kernel⟩
abbrev s_l_deck : Stmt := topS 18
abbrev N_l_deck : List Str := ["_law_script", "_law_cell"]
theorem sc_l_deck : FnScope N_l_deck ["_law_script"] (defScope s_l_deck) := ⟨rfl, rfl, rfl, by decide +kernel, rfl, by decide +kernel, by decide +kernel⟩
abbrev s_l_pick : Stmt := topS 19
abbrev N_l_pick : List Str := ["_law_deck_here", "_law_many", "_law_found", "_law_cells", "_law_cell", "_law_number"]
theorem sc_l_pick : FnScope N_l_pick ["_law_deck_here", "_law_many"] (defScope s_l_pick) := ⟨rfl, rfl, rfl, by decide +kernel, rfl, by decide +kernel, by decide +kernel⟩
abbrev s_l_divisor : Stmt := topS 20
abbrev N_l_divisor : List Str := ["_law_one", "_law_other", "_law_turn", "_law_rest"]
theorem sc_l_divisor : FnScope N_l_divisor ["_law_one", "_law_other"] (defScope s_l_divisor) := ⟨rfl, rfl, rfl, by decide +kernel, rfl, by decide +kernel, by decide +kernel⟩
abbrev s_l_made : Stmt := topS 21
abbrev N_l_made : List Str := ["_law_top", "_law_bottom", "_law_divisor_here"]
theorem sc_l_made : FnScope N_l_made ["_law_top", "_law_bottom"] (defScope s_l_made) := ⟨rfl, rfl, rfl, by decide +kernel, rfl, by decide +kernel, by decide +kernel⟩
abbrev s_l_amount : Stmt := topS 22
abbrev N_l_amount : List Str := ["_law_deck_here", "_law_size"]
theorem sc_l_amount : FnScope N_l_amount ["_law_deck_here"] (defScope s_l_amount) := ⟨rfl, rfl, rfl, by decide +kernel, rfl, by decide +kernel, by decide +kernel⟩
abbrev s_l_stall : Stmt := topS 23
abbrev N_l_stall : List Str := ["_law_deck_here", "_law_wares", "_law_one", "_law_other", "_law_root", "_law_factor", "_law_first"]
theorem sc_l_stall : FnScope N_l_stall ["_law_deck_here", "_law_wares"] (defScope s_l_stall) := ⟨rfl, rfl, rfl, by decide +kernel, rfl, by decide +kernel, by decide +kernel⟩
abbrev s_l_stalls : Stmt := topS 24
abbrev N_l_stalls : List Str := ["_law_deck_here", "_law_wares", "_law_found", "_law_turn"]
theorem sc_l_stalls : FnScope N_l_stalls ["_law_deck_here", "_law_wares"] (defScope s_l_stalls) := ⟨rfl, rfl, rfl, by decide +kernel, rfl, by decide +kernel, by decide +kernel⟩
abbrev s_l_deep : Stmt := topS 25
abbrev N_l_deep : List Str := ["_law_deck_here", "_law_found", "_law_sort", "_law_turn"]
theorem sc_l_deep : FnScope N_l_deep ["_law_deck_here"] (defScope s_l_deep) := ⟨rfl, rfl, rfl, by decide +kernel, rfl, by decide +kernel, by decide +kernel⟩
abbrev s_l_odd : Stmt := topS 26
abbrev N_l_odd : List Str := ["_law_deck_here", "_law_wares", "_law_menu"]
theorem sc_l_odd : FnScope N_l_odd ["_law_deck_here", "_law_wares"] (defScope s_l_odd) := ⟨rfl, rfl, rfl, by decide +kernel, rfl, by decide +kernel, by decide +kernel⟩
abbrev s_l_changed : Stmt := topS 27
abbrev N_l_changed : List Str := ["_law_deck_here", "_law_stalls_here", "_law_wares", "_law_at", "_law_stall_here", "_law_odd_here", "_law_place", "_law_menu"]
theorem sc_l_changed : FnScope N_l_changed ["_law_deck_here", "_law_stalls_here", "_law_wares"] (defScope s_l_changed) := ⟨rfl, rfl, rfl, by decide +kernel, rfl, by decide +kernel, by decide +kernel⟩
abbrev s_l_is_some : Stmt := topS 28
abbrev N_l_is_some : List Str := ["_law_thing", "_law_item"]
theorem sc_l_is_some : FnScope N_l_is_some ["_law_thing"] (defScope s_l_is_some) := ⟨rfl, rfl, rfl, by decide +kernel, rfl, by decide +kernel, by decide +kernel⟩
abbrev s_l_is_ware : Stmt := topS 29
abbrev N_l_is_ware : List Str := ["_law_thing", "_law_wares"]
theorem sc_l_is_ware : FnScope N_l_is_ware ["_law_thing", "_law_wares"] (defScope s_l_is_ware) := ⟨rfl, rfl, rfl, by decide +kernel, rfl, by decide +kernel, by decide +kernel⟩
abbrev s_l_is_stall : Stmt := topS 30
abbrev N_l_is_stall : List Str := ["_law_thing", "_law_wares", "_law_top"]
theorem sc_l_is_stall : FnScope N_l_is_stall ["_law_thing", "_law_wares"] (defScope s_l_is_stall) := ⟨rfl, rfl, rfl, by decide +kernel, rfl, by decide +kernel, by decide +kernel⟩
abbrev s_l_due : Stmt := topS 31
abbrev N_l_due : List Str := ["_law_wares", "_law_stalls_here", "_law_at"]
theorem sc_l_due : FnScope N_l_due ["_law_wares", "_law_stalls_here"] (defScope s_l_due) := ⟨rfl, rfl, rfl, by decide +kernel, rfl, by decide +kernel, by decide +kernel⟩
abbrev s_l_answer : Stmt := topS 32
abbrev N_l_answer : List Str := ["_law_wares", "_law_stalls_here", "_law_answer_here", "e"]
theorem sc_l_answer : FnScope N_l_answer ["_law_wares", "_law_stalls_here"] (defScope s_l_answer) := ⟨rfl, rfl, rfl, by decide +kernel, rfl, by decide +kernel, by decide +kernel⟩
abbrev s_l_is_told : Stmt := topS 33
abbrev N_l_is_told : List Str := ["_law_wares", "_law_stalls_here", "_law_web"]
theorem sc_l_is_told : FnScope N_l_is_told ["_law_wares", "_law_stalls_here"] (defScope s_l_is_told) := ⟨rfl, rfl, rfl, by decide +kernel, rfl, by decide +kernel, by decide +kernel⟩
abbrev s_law : Stmt := topS 34
abbrev N_law : List Str := ["_law_script", "_law_deck_here", "_law_wares", "_law_stalls_here", "_law_turn", "_law_changed_here", "_law_change", "_law_passed", "_law_due_here", "_law_other", "_law_thing"]
theorem sc_law : FnScope N_law ["_law_script"] (defScope s_law) := ⟨rfl, rfl, rfl, by decide +kernel, rfl, by decide +kernel, by decide +kernel⟩
abbrev s_BadStall_init : Stmt := inClass (topS 4) 0
abbrev N_BadStall_init : List Str := ["self", "index"]
theorem sc_BadStall_init : FnScope N_BadStall_init ["self", "index"] (defScope s_BadStall_init) := ⟨rfl, rfl, rfl, by decide +kernel, rfl, by decide +kernel, by decide +kernel⟩
abbrev s_Web_init : Stmt := inClass (topS 16) 0
abbrev N_Web_init : List Str := ["self", "wares", "stalls", "index", "stall"]
theorem sc_Web_init : FnScope N_Web_init ["self", "wares", "stalls"] (defScope s_Web_init) := ⟨rfl, rfl, rfl, by decide +kernel, rfl, by decide +kernel, by decide +kernel⟩
abbrev s_Web_eq : Stmt := inClass (topS 16) 1
abbrev N_Web_eq : List Str := ["self", "other"]
theorem sc_Web_eq : FnScope N_Web_eq ["self", "other"] (defScope s_Web_eq) := ⟨rfl, rfl, rfl, by decide +kernel, rfl, by decide +kernel, by decide +kernel⟩
structure Txt (K : PySem.W.Frag) (mg : Str → Option Value) (f_is_integer f_is_row f_is_fraction f_is_some f_multiplied f_squared f_is_stall f_l_deck f_l_pick f_l_divisor f_l_made f_l_amount f_l_stall f_l_stalls f_l_deep f_l_odd f_l_changed f_l_is_some f_l_is_ware f_l_is_stall f_l_due f_l_answer f_l_is_told f_law f_BadStall_init f_Web_init f_Web_eq c_BadWares c_BadStall c_Web : Addr) (d_is_integer d_is_row d_is_fraction d_is_some d_multiplied d_squared d_is_stall d_l_deck d_l_pick d_l_divisor d_l_made d_l_amount d_l_stall d_l_stalls d_l_deep d_l_odd d_l_changed d_l_is_some d_l_is_ware d_l_is_stall d_l_due d_l_answer d_l_is_told d_law d_BadStall_init d_Web_init d_Web_eq : FuncData) : Prop where
  z_abs : mg "abs" = none
  z_bool : mg "bool" = none
  z_enumerate : mg "enumerate" = none
  z_int : mg "int" = none
  z_isinstance : mg "isinstance" = none
  z_len : mg "len" = none
  z_list : mg "list" = none
  z_range : mg "range" = none
  z_tuple : mg "tuple" = none
  m_gcd : mg "gcd" = some (.builtin "math.gcd")
  x_BadStall_BadWares : PySem.W.subIn K (.ref c_BadStall) (.ref c_BadWares) = some false
  c_BadWares : ExC K mg "BadWares" c_BadWares
  c_BadStall : ExF K mg "BadStall" c_BadStall f_BadStall_init "index"
  w_Web : WebC K mg "Web" c_Web f_Web_init
  n_Web_wares : NoAttr K c_Web "wares"
  n_Web_stalls : NoAttr K c_Web "stalls"
  v_MOST_STALLS : ∃ u, mg "MOST_STALLS" = some u ∧ RelV (.int 16) u
  v_MOST_WARES : ∃ u, mg "MOST_WARES" = some u ∧ RelV (.int 8) u
  g_is_integer : mg "is_integer" = some (.ref f_is_integer)
  F_is_integer : Fun K "is_integer" "is_integer" s_is_integer f_is_integer d_is_integer
  k_is_integer : PySem.W.keepIn K (.ref f_is_integer) = true
  b_is_integer : Binds K d_is_integer ["thing"] []
  g_is_row : mg "is_row" = some (.ref f_is_row)
  F_is_row : Fun K "is_row" "is_row" s_is_row f_is_row d_is_row
  k_is_row : PySem.W.keepIn K (.ref f_is_row) = true
  b_is_row : Binds K d_is_row ["thing"] []
  g_is_fraction : mg "is_fraction" = some (.ref f_is_fraction)
  F_is_fraction : Fun K "is_fraction" "is_fraction" s_is_fraction f_is_fraction d_is_fraction
  k_is_fraction : PySem.W.keepIn K (.ref f_is_fraction) = true
  b_is_fraction : Binds K d_is_fraction ["thing"] []
  g_is_some : mg "is_some" = some (.ref f_is_some)
  F_is_some : Fun K "is_some" "is_some" s_is_some f_is_some d_is_some
  k_is_some : PySem.W.keepIn K (.ref f_is_some) = true
  b_is_some : Binds K d_is_some ["thing"] []
  g_multiplied : mg "multiplied" = some (.ref f_multiplied)
  F_multiplied : Fun K "multiplied" "multiplied" s_multiplied f_multiplied d_multiplied
  k_multiplied : PySem.W.keepIn K (.ref f_multiplied) = true
  b_multiplied : Binds K d_multiplied ["one", "other"] []
  g_squared : mg "squared" = some (.ref f_squared)
  F_squared : Fun K "squared" "squared" s_squared f_squared d_squared
  k_squared : PySem.W.keepIn K (.ref f_squared) = true
  b_squared : Binds K d_squared ["one"] []
  g_is_stall : mg "is_stall" = some (.ref f_is_stall)
  F_is_stall : Fun K "is_stall" "is_stall" s_is_stall f_is_stall d_is_stall
  k_is_stall : PySem.W.keepIn K (.ref f_is_stall) = true
  b_is_stall : Binds K d_is_stall ["wares", "thing"] []
  g_l_deck : mg "_law_deck" = some (.ref f_l_deck)
  F_l_deck : Fun K "_law_deck" "_law_deck" s_l_deck f_l_deck d_l_deck
  k_l_deck : PySem.W.keepIn K (.ref f_l_deck) = true
  b_l_deck : Binds K d_l_deck ["_law_script"] []
  g_l_pick : mg "_law_pick" = some (.ref f_l_pick)
  F_l_pick : Fun K "_law_pick" "_law_pick" s_l_pick f_l_pick d_l_pick
  k_l_pick : PySem.W.keepIn K (.ref f_l_pick) = true
  b_l_pick : Binds K d_l_pick ["_law_deck_here", "_law_many"] []
  g_l_divisor : mg "_law_divisor" = some (.ref f_l_divisor)
  F_l_divisor : Fun K "_law_divisor" "_law_divisor" s_l_divisor f_l_divisor d_l_divisor
  k_l_divisor : PySem.W.keepIn K (.ref f_l_divisor) = true
  b_l_divisor : Binds K d_l_divisor ["_law_one", "_law_other"] []
  g_l_made : mg "_law_made" = some (.ref f_l_made)
  F_l_made : Fun K "_law_made" "_law_made" s_l_made f_l_made d_l_made
  k_l_made : PySem.W.keepIn K (.ref f_l_made) = true
  b_l_made : Binds K d_l_made ["_law_top", "_law_bottom"] []
  g_l_amount : mg "_law_amount" = some (.ref f_l_amount)
  F_l_amount : Fun K "_law_amount" "_law_amount" s_l_amount f_l_amount d_l_amount
  k_l_amount : PySem.W.keepIn K (.ref f_l_amount) = true
  b_l_amount : Binds K d_l_amount ["_law_deck_here"] []
  g_l_stall : mg "_law_stall" = some (.ref f_l_stall)
  F_l_stall : Fun K "_law_stall" "_law_stall" s_l_stall f_l_stall d_l_stall
  k_l_stall : PySem.W.keepIn K (.ref f_l_stall) = true
  b_l_stall : Binds K d_l_stall ["_law_deck_here", "_law_wares"] []
  g_l_stalls : mg "_law_stalls" = some (.ref f_l_stalls)
  F_l_stalls : Fun K "_law_stalls" "_law_stalls" s_l_stalls f_l_stalls d_l_stalls
  k_l_stalls : PySem.W.keepIn K (.ref f_l_stalls) = true
  b_l_stalls : Binds K d_l_stalls ["_law_deck_here", "_law_wares"] []
  g_l_deep : mg "_law_deep" = some (.ref f_l_deep)
  F_l_deep : Fun K "_law_deep" "_law_deep" s_l_deep f_l_deep d_l_deep
  k_l_deep : PySem.W.keepIn K (.ref f_l_deep) = true
  b_l_deep : Binds K d_l_deep ["_law_deck_here"] []
  g_l_odd : mg "_law_odd" = some (.ref f_l_odd)
  F_l_odd : Fun K "_law_odd" "_law_odd" s_l_odd f_l_odd d_l_odd
  k_l_odd : PySem.W.keepIn K (.ref f_l_odd) = true
  b_l_odd : Binds K d_l_odd ["_law_deck_here", "_law_wares"] []
  g_l_changed : mg "_law_changed" = some (.ref f_l_changed)
  F_l_changed : Fun K "_law_changed" "_law_changed" s_l_changed f_l_changed d_l_changed
  k_l_changed : PySem.W.keepIn K (.ref f_l_changed) = true
  b_l_changed : Binds K d_l_changed ["_law_deck_here", "_law_stalls_here", "_law_wares"] []
  g_l_is_some : mg "_law_is_some" = some (.ref f_l_is_some)
  F_l_is_some : Fun K "_law_is_some" "_law_is_some" s_l_is_some f_l_is_some d_l_is_some
  k_l_is_some : PySem.W.keepIn K (.ref f_l_is_some) = true
  b_l_is_some : Binds K d_l_is_some ["_law_thing"] []
  g_l_is_ware : mg "_law_is_ware" = some (.ref f_l_is_ware)
  F_l_is_ware : Fun K "_law_is_ware" "_law_is_ware" s_l_is_ware f_l_is_ware d_l_is_ware
  k_l_is_ware : PySem.W.keepIn K (.ref f_l_is_ware) = true
  b_l_is_ware : Binds K d_l_is_ware ["_law_thing", "_law_wares"] []
  g_l_is_stall : mg "_law_is_stall" = some (.ref f_l_is_stall)
  F_l_is_stall : Fun K "_law_is_stall" "_law_is_stall" s_l_is_stall f_l_is_stall d_l_is_stall
  k_l_is_stall : PySem.W.keepIn K (.ref f_l_is_stall) = true
  b_l_is_stall : Binds K d_l_is_stall ["_law_thing", "_law_wares"] []
  g_l_due : mg "_law_due" = some (.ref f_l_due)
  F_l_due : Fun K "_law_due" "_law_due" s_l_due f_l_due d_l_due
  k_l_due : PySem.W.keepIn K (.ref f_l_due) = true
  b_l_due : Binds K d_l_due ["_law_wares", "_law_stalls_here"] []
  g_l_answer : mg "_law_answer" = some (.ref f_l_answer)
  F_l_answer : Fun K "_law_answer" "_law_answer" s_l_answer f_l_answer d_l_answer
  k_l_answer : PySem.W.keepIn K (.ref f_l_answer) = true
  b_l_answer : Binds K d_l_answer ["_law_wares", "_law_stalls_here"] []
  g_l_is_told : mg "_law_is_told" = some (.ref f_l_is_told)
  F_l_is_told : Fun K "_law_is_told" "_law_is_told" s_l_is_told f_l_is_told d_l_is_told
  k_l_is_told : PySem.W.keepIn K (.ref f_l_is_told) = true
  b_l_is_told : Binds K d_l_is_told ["_law_wares", "_law_stalls_here"] []
  g_law : mg "law" = some (.ref f_law)
  F_law : Fun K "law" "law" s_law f_law d_law
  k_law : PySem.W.keepIn K (.ref f_law) = true
  b_law : Binds K d_law ["_law_script"] []
  F_BadStall_init : Fun K "__init__" "BadStall.__init__" s_BadStall_init f_BadStall_init d_BadStall_init
  b_BadStall_init : Binds K d_BadStall_init ["self", "index"] []
  F_Web_init : Fun K "__init__" "Web.__init__" s_Web_init f_Web_init d_Web_init
  b_Web_init : Binds K d_Web_init ["self", "wares", "stalls"] []
  F_Web_eq : Fun K "__eq__" "Web.__eq__" s_Web_eq f_Web_eq d_Web_eq
  b_Web_eq : Binds K d_Web_eq ["self", "other"] []
  i_Web_eq : PySem.W.findIn K (.ref c_Web) "__eq__" = some (some (.ref f_Web_eq))
  fn_Web_eq : PySem.W.isFn K (.ref f_Web_eq) = true
  ne_Web : PySem.W.findIn K (.ref c_Web) "__ne__" = some (some (.builtin "object.__ne__"))
end My
/-! the steps of a reading, one after another; side conditions come last -/
local macro_rules | `(tactic| walk_at "hp") => `(tactic| (repeat (first | (with_reducible assumption) | (with_reducible exact L2.upd_same) | (refine (L2.upd_ne (by first | assumption | (apply Ne.symm; assumption))).trans ?_))))
local macro_rules | `(tactic| walk_at "sd") => `(tactic| first | assumption | decide | omega | (exact My.cpow_of (by decide)) | (exact My.cdivx (b := 64) (by decide) (by decide) (by decide)) | (exact My.cdivx (by omega) (by assumption) (by decide)))
local macro_rules | `(tactic| walk_at "rX") => `(tactic| fail)
local macro_rules | `(tactic| walk_at "rV") => `(tactic| first
  | (with_reducible refine My.rd_C ?_)
  | ((with_reducible refine' My.rd_var ?k1 ?_); (case k1 => rfl))
  | (with_reducible refine My.rd_op ?_) | (with_reducible refine My.rd_cons ?_) | (with_reducible refine My.rd_nil ?_) | (with_reducible refine My.rd_CB ?_) | (with_reducible refine My.rd_call ?_)
  | (with_reducible refine My.rd_rI0 ?_)
  | (with_reducible refine My.rd_rI ?_ (by walk_at "sd"))
  | (with_reducible refine My.rd_rI ?_ ?_)
  | ((with_reducible refine' My.rd_ixL ?k1 ?k2 ?_); (case k1 => walk_at "hp"); (case k2 => rfl))
  | ((with_reducible refine' My.rd_ixT ?k1 ?k2 ?_); (case k1 => walk_at "hp"); (case k2 => rfl))
  | ((with_reducible refine' My.rd_ixTp ?k1 ?k3 ?k2 ?_); (case k1 => walk_at "tp"); (case k2 => rfl); (case k3 => rfl))
  | (with_reducible refine My.rd_un ?_) | (with_reducible refine My.rd_rU ?_)
  | (with_reducible refine My.rd_eqI ?_) | (with_reducible refine My.rd_neI ?_) | (with_reducible refine My.rd_eqB ?_) | (with_reducible refine My.rd_neB ?_) | (with_reducible refine My.rd_eqS ?_) | (with_reducible refine My.rd_neS ?_)
  | (with_reducible refine My.rd_gcd ?_) | (with_reducible refine My.rd_bits ?_)
  | ((with_reducible refine' My.rd_lenL ?_ ?k1); (case k1 => walk_at "hp"))
  | ((with_reducible refine' My.rd_lenT ?_ ?k1); (case k1 => walk_at "hp"))
  | ((with_reducible refine' My.rd_lenTp ?_ ?k1 ?k3); (case k1 => walk_at "tp"); (case k3 => rfl))
  | (with_reducible refine My.rd_int ?_) | (with_reducible refine My.rd_abs ?_) | (with_reducible refine My.rd_min ?_) | (with_reducible refine My.rd_intB ?_)
  | (with_reducible refine ⟨_, rfl, ?_⟩)
  | (with_reducible refine My.rd_len ?_ rfl)
  | (with_reducible refine My.rd_tup ?_) | (with_reducible refine My.rd_lst ?_)
  | (with_reducible refine My.isi_int_int ?_) | (with_reducible refine My.isi_int_bool ?_) | (with_reducible refine My.isi_bl_bool ?_)
  | ((with_reducible refine' My.isi_tup_tup ?k1 ?_); (case k1 => walk_at "hp"))
  | ((with_reducible refine' My.isi_tp ?k1 ?k3 ?_); (case k1 => walk_at "tp"); (case k3 => rfl))
  | (with_reducible refine My.rd_isBl ?_))
local macro_rules | `(tactic| walk_at "rS") => `(tactic| first
  | (with_reducible refine My.rd_seq ?_) | (with_reducible refine My.rd_next ?_) | (with_reducible refine My.rd_asg ?_) | (with_reducible refine My.rd_gName ?_) | (with_reducible refine My.rd_ret ?_)
  | (with_reducible refine My.rd_ifS ?_) | (with_reducible refine My.rd_test ?_) | (with_reducible refine My.rd_B ?_) | (with_reducible refine My.rd_not ?_) | (with_reducible refine My.rd_and ?_) | (with_reducible refine My.rd_or ?_)
  | (with_reducible refine My.rd_andV ?_) | (with_reducible refine My.rd_orV ?_) | (with_reducible refine My.rd_notV ?_) | (with_reducible refine My.rd_ifE ?_) | (with_reducible refine My.rd_chain ?_)
  | (with_reducible refine My.rd_gSub ?_) | ((with_reducible refine' My.rd_setL ?k1 ?k2 ?_); (case k1 => walk_at "hp"); (case k2 => rfl))
  | ((with_reducible refine' My.rd_gTup ?k1 ?k2 ?_); (case k1 => walk_at "hp"); (case k2 => rfl)) | ((with_reducible refine' My.rd_gTp ?k1 ?k3 ?k2 ?_); (case k1 => walk_at "tp"); (case k2 => rfl); (case k3 => rfl)) | (with_reducible refine My.rd_gCons ?_) | (with_reducible refine My.rd_gNil ?_)
  | (with_reducible refine My.rd_drop ?_) | (with_reducible refine My.rd_for ?_) | (with_reducible refine My.rd_rng1 ?_) | (with_reducible refine My.rd_itL ?_) | (with_reducible refine My.rd_itT ?_)
  | (with_reducible refine My.rd_sl ?_) | (with_reducible refine My.rd_part ?_) | (with_reducible refine My.rd_nopart ?_) | (with_reducible refine My.rd_bm ?_) | (with_reducible refine My.rd_yes ?_) | (with_reducible refine My.rd_lc ?_)
  | (with_reducible refine My.ite_nt ?_) | (with_reducible refine My.ite_nf ?_)
  | (with_reducible refine L2.iteF ?_) | (with_reducible refine L2.iteT ?_))
local macro_rules | `(tactic| walk_at "dc") => `(tactic| first | (with_reducible assumption) | ((with_reducible show _ = _); rfl) | omega | decide)
local macro_rules | `(tactic| walk_at "rI") => `(tactic| first
  | ((with_reducible refine' My.if_T ?k1 ?_); (case k1 => walk_at "dc"))
  | ((with_reducible refine' My.if_F ?k1 ?_); (case k1 => walk_at "dc"))
  | ((with_reducible refine' My.if_nF ?k1 ?_); (case k1 => walk_at "dc"))
  | ((with_reducible refine' My.if_nT ?k1 ?_); (case k1 => walk_at "dc")))
local macro_rules | `(tactic| walk_at "r") => `(tactic| (repeat (first | (walk_at "rV") | (walk_at "rS") | (walk_at "rI") | (walk_at "rX"))))
local macro_rules | `(tactic| walk_at "if") => `(tactic| first | (with_reducible refine My.if_dec (fun h => ?_) (fun h => ?_)) | (with_reducible refine My.if_ndec (fun h => ?_) (fun h => ?_)))
local macro_rules | `(tactic| walk_at "st") => `(tactic| (set_option pp.maxSteps 150 in trace_state))
local macro_rules | `(tactic| walk_at "rX") => `(tactic| first | (with_reducible refine My.rd_callS ?_) | (with_reducible refine My.rd_newK ?_) | (with_reducible refine My.rd_raise1 ?_) | (with_reducible refine My.rd_x1 ?_) | (with_reducible refine My.rd_fldS ?_) | (with_reducible refine My.rd_fld ?_) | (with_reducible refine My.rd_make ?_) | (with_reducible refine My.rd_enum ?_) | (with_reducible refine My.rd_enumX ?_) | (with_reducible refine My.rd_ost ?_) | (with_reducible refine My.rd_xf ?_) | (with_reducible refine My.isi_int_tup ?_))
local macro_rules | `(tactic| walk_at "sm") => `(tactic| first | (with_reducible assumption) | (with_reducible exact L2.Same.refl _) | ((with_reducible refine L2.Same.trans ?_ (by with_reducible assumption)); walk_at "sm"))
local macro_rules | `(tactic| walk_at "tp") => `(tactic| first | (with_reducible assumption) | ((with_reducible refine My.Tp.same ?_ (by with_reducible assumption)); walk_at "sm"))
local macro_rules | `(tactic| walk_at "hp") => `(tactic| ((with_reducible refine My.at_same ?_ (by with_reducible assumption)); walk_at "sm"))
local macro_rules | `(tactic| walk_at "kp") => `(tactic| first | (with_reducible assumption) | ((with_reducible refine My.IsF.same ?_ (by with_reducible assumption)); walk_at "sm") | ((with_reducible refine My.IsSt.same ?_ (by with_reducible assumption)); walk_at "sm") | ((with_reducible refine My.IsWeb.same ?_ (by with_reducible assumption)); walk_at "sm") | ((with_reducible refine My.IsMv.same ?_ (by with_reducible assumption)); walk_at "sm") | ((with_reducible refine My.Sts.same ?_ (by with_reducible assumption)); walk_at "sm") | ((with_reducible refine My.Tp.same ?_ (by with_reducible assumption)); walk_at "sm") | ((with_reducible refine My.at_same ?_ (by with_reducible assumption)); walk_at "sm"))
namespace My
open PySem PySem.Spec PyProof.Rows L2
section
variable {P : Program} {w : World} {K : PySem.W.Frag} {mg : Str → Option Value} {base : Heap} {f_is_integer f_is_row f_is_fraction f_is_some f_multiplied f_squared f_is_stall f_l_deck f_l_pick f_l_divisor f_l_made f_l_amount f_l_stall f_l_stalls f_l_deep f_l_odd f_l_changed f_l_is_some f_l_is_ware f_l_is_stall f_l_due f_l_answer f_l_is_told f_law f_BadStall_init f_Web_init f_Web_eq c_BadWares c_BadStall c_Web : Addr} {d_is_integer d_is_row d_is_fraction d_is_some d_multiplied d_squared d_is_stall d_l_deck d_l_pick d_l_divisor d_l_made d_l_amount d_l_stall d_l_stalls d_l_deep d_l_odd d_l_changed d_l_is_some d_l_is_ware d_l_is_stall d_l_due d_l_answer d_l_is_told d_law d_BadStall_init d_Web_init d_Web_eq : FuncData}
def sp_pick (M : Nat) : Sp := fun vs H Q _ => ∃ (D C : Addr) (many : Int) (c : Nat), vs = [.ref D, .int many] ∧ (0 < many ∧ many.natAbs < 2 ^ 64) ∧ Deck M D C H c ∧ c ≤ 2 ^ 40 ∧
  ∀ H' r, Fw D H H' → Deck M D C H' (c + 1) → 0 ≤ r → r < many → Q (.int r) H'
theorem ok_pick {M : Nat} (hM : 64 ≤ M) (hM2 : M ≤ 1048576) (T : Txt K mg f_is_integer f_is_row f_is_fraction f_is_some f_multiplied f_squared f_is_stall f_l_deck f_l_pick f_l_divisor f_l_made f_l_amount f_l_stall f_l_stalls f_l_deep f_l_odd f_l_changed f_l_is_some f_l_is_ware f_l_is_stall f_l_due f_l_answer f_l_is_told f_law f_BadStall_init f_Web_init f_Web_eq c_BadWares c_BadStall c_Web d_is_integer d_is_row d_is_fraction d_is_some d_multiplied d_squared d_is_stall d_l_deck d_l_pick d_l_divisor d_l_made d_l_amount d_l_stall d_l_stalls d_l_deep d_l_odd d_l_changed d_l_is_some d_l_is_ware d_l_is_stall d_l_due d_l_answer d_l_is_told d_law d_BadStall_init d_Web_init d_Web_eq) : FnOk P w K mg base CX0 1 f_l_pick d_l_pick ["_law_deck_here", "_law_many"] (sp_pick M) := by
  refine T.F_l_pick.ok sc_l_pick (fun vs H Q E h => ?_) (fun cdv A outer s H vs Q E hr h => ?_)
  · obtain ⟨D, C, many, c, rfl, _⟩ := h
    rfl
  · obtain ⟨D, C, many, c, rfl, ⟨hm0, hm1⟩, ⟨cells, pl, rest, cnt, hCD, hD, hC, hlen, hb, ⟨hr0, hr1⟩, hc0, hc1⟩, hc, q⟩ := h
    have cd : ∀ i : Int, CDivX i many := fun i => cdivx (by omega) hm1 (by decide)
    refine ⟨_, (pss_cons (ps_asg (pe_op op_add (pe_ix ix_list (pv 0) pe_int (fun _ _ => rfl)) pe_int) (pg_sub (pv 0) pe_int set_list))
      (pss_cons (ps_if (pt_cmpR op_gt (pe_ix ix_list (pv 0) pe_int (fun _ _ => rfl)) pe_int (nomark _))
        (pss_cons (ps_set (i := 2) sc_l_pick.nd rfl (by first | exact Or.inl rfl | exact Or.inr rfl) (pe_op op_mod (pe_callTy call_intN (by rfl) T.z_int (by decide +kernel) (pa_cons (pe_ix ix_list (pv 0) pe_int (fun _ _ => rfl)) pa_nil)) (pv 1)))
          (pss_cons (ps_asg (pe_op op_fdivX (pe_callTy call_intN (by rfl) T.z_int (by decide +kernel) (pa_cons (pe_ix ix_list (pv 0) pe_int (fun _ _ => rfl)) pa_nil)) (pv 1)) (pg_sub (pv 0) pe_int set_list))
          (pss_one (ps_ret (pv 2)))))
        pss_nil)
      (pss_cons (ps_set (i := 3) sc_l_pick.nd rfl (by first | exact Or.inl rfl | exact Or.inr rfl) (pe_ix ix_list (pv 0) pe_int (fun _ _ => rfl)))
      (pss_cons (ps_set (i := 4) sc_l_pick.nd rfl (by first | exact Or.inl rfl | exact Or.inr rfl) pe_int)
      (pss_cons (ps_if (pt_cmpR op_gt (pe_callB call_lenN (by rfl) T.z_len (by decide +kernel) (pa_cons (pv 3) pa_nil)) pe_int (nomark _))
        (pss_one (ps_set (i := 4) sc_l_pick.nd rfl (by first | exact Or.inl rfl | exact Or.inr rfl) (pe_ix ix_list (pv 3) (pe_op op_mod (pe_callTy call_intN (by rfl) T.z_int (by decide +kernel) (pa_cons (pe_ix ix_list (pv 0) pe_int (fun _ _ => rfl)) pa_nil)) (pe_callB call_lenN (by rfl) T.z_len (by decide +kernel) (pa_cons (pv 3) pa_nil))) (fun _ _ => rfl))))
        pss_nil)
      (pss_cons (ps_asg (pe_op op_add (pe_ix ix_list (pv 0) pe_int (fun _ _ => rfl)) pe_int) (pg_sub (pv 0) pe_int set_list))
      (pss_cons (ps_if (PW.pt (pw_and (pt_cmpR op_ge (pv 4) (pe_op op_pow pe_int pe_int) (nomark _)) (pw_and1 (pt_cmpR op_le (pe_ix ix_list (pv 0) pe_int (fun _ _ => rfl)) (pe_callB call_lenN (by rfl) T.z_len (by decide +kernel) (pa_cons (pv 3) pa_nil)) (nomark _)))))
        (pss_cons (ps_asg (pe_op op_fdivX (pe_callTy call_intN (by rfl) T.z_int (by decide +kernel) (pa_cons (pv 4) pa_nil)) (pv 1)) (pg_sub (pv 0) pe_int set_list))
          (pss_one (ps_ret (pe_op op_mod (pe_callTy call_intN (by rfl) T.z_int (by decide +kernel) (pa_cons (pv 4) pa_nil)) (pv 1)))))
        pss_nil)
      (pss_cons (ps_set (i := 5) sc_l_pick.nd rfl (by first | exact Or.inl rfl | exact Or.inr rfl) (pe_op op_mod (pe_op op_mulX (pe_callTy call_intN (by rfl) T.z_int (by decide +kernel) (pa_cons (pe_op op_add (pe_op op_add (pv 4) (pe_op op_mulX pe_int (pe_ix ix_list (pv 0) pe_int (fun _ _ => rfl)))) pe_int) pa_nil)) pe_int) pe_int))
      (pss_cons (ps_set (i := 5) sc_l_pick.nd rfl (by first | exact Or.inl rfl | exact Or.inr rfl) (pe_op op_mod (pe_op op_mulX (pv 5) (pe_op op_add (pe_op op_fdivX (pv 5) pe_int) pe_int)) pe_int))
      (pss_cons (ps_set (i := 5) sc_l_pick.nd rfl (by first | exact Or.inl rfl | exact Or.inr rfl) (pe_op op_mod (pe_op op_mulX (pv 5) (pe_op op_add (pe_op op_fdivX (pv 5) pe_int) pe_int)) pe_int))
      (pss_one (ps_ret (pe_op op_mod (pv 5) (pv 1)))))))))))))), ?_⟩
    walk_at "r"
    walk_at "if"
    · walk_at "r"
      refine q _ _ (fw_upd.trans fw_upd) ?_ (mod_rng _ hm0).1 (mod_rng _ hm0).2
      exact ⟨cells, pl, rest.fdiv many, cnt + 1, hCD, upd_same, by walk_at "hp", hlen, hb, div_small hr0 hr1 hm0, by omega, by omega⟩
    · walk_at "r"
      have hcl : 0 < (cells.map V.int).length → ∃ z, z ∈ cells ∧ atI (cells.map V.int) (pl % ((cells.map V.int).length : Nat)) = some (.int z) := fun h => at_ints (mod_rng _ (by omega)).1 (mod_rng _ (by omega)).2
      have hz0 : (0 : Int).natAbs < 2 ^ M := Nat.two_pow_pos M
      walk_at "if"
      · obtain ⟨z, hz, ez⟩ := hcl (by omega)
        have hz0 := hb z hz
        walk_at "r"
        refine ⟨_, _, _, .int z, rfl, rfl, SqL.of ?_, ez, ?_⟩
        · walk_at "hp"
        walk_at "r"
        walk_at "if"
        · walk_at "r"
          walk_at "if"
          · walk_at "r"
            have t18 := ten18
            refine q _ _ ((fw_upd.trans fw_upd).trans fw_upd) ?_ (mod_rng _ hm0).1 (mod_rng _ hm0).2
            exact ⟨cells, pl + 1, z.fdiv many, cnt + 1, hCD, upd_same, by walk_at "hp", hlen, hb, div_small (by omega) hz0 hm0, by omega, by omega⟩
          · walk_at "r"
            · refine q _ _ (fw_upd.trans fw_upd) ?_ (mod_rng _ hm0).1 (mod_rng _ hm0).2
              exact ⟨cells, pl + 1, rest, cnt + 1, hCD, upd_same, by walk_at "hp", hlen, hb, ⟨hr0, hr1⟩, by omega, by omega⟩
            · exact pick_mul2 _ (by decide) (by decide) (by decide) (by decide)
            · exact pick_mul2 _ (by decide) (by decide) (by decide) (by decide)
            · exact cmul_big (pw_big hz0 hM hc0 hc1 hc) (by decide) (by omega)
            · exact cmul_small (by decide) (by omega)
        · walk_at "r"
          · refine q _ _ (fw_upd.trans fw_upd) ?_ (mod_rng _ hm0).1 (mod_rng _ hm0).2
            exact ⟨cells, pl + 1, rest, cnt + 1, hCD, upd_same, by walk_at "hp", hlen, hb, ⟨hr0, hr1⟩, by omega, by omega⟩
          · exact pick_mul2 _ (by decide) (by decide) (by decide) (by decide)
          · exact pick_mul2 _ (by decide) (by decide) (by decide) (by decide)
          · exact cmul_big (pw_big hz0 hM hc0 hc1 hc) (by decide) (by omega)
          · exact cmul_small (by decide) (by omega)
      · walk_at "r"
        · refine q _ _ (fw_upd.trans fw_upd) ?_ (mod_rng _ hm0).1 (mod_rng _ hm0).2
          exact ⟨cells, pl + 1, rest, cnt + 1, hCD, upd_same, by walk_at "hp", hlen, hb, ⟨hr0, hr1⟩, by omega, by omega⟩
        · exact pick_mul2 _ (by decide) (by decide) (by decide) (by decide)
        · exact pick_mul2 _ (by decide) (by decide) (by decide) (by decide)
        · exact cmul_big (pw_big hz0 hM hc0 hc1 hc) (by decide) (by omega)
        · exact cmul_small (by decide) (by omega)
end
end My
namespace My
open PySem PySem.Spec PyProof.Rows L2
section
variable {P : Program} {w : World} {K : PySem.W.Frag} {mg : Str → Option Value} {base : Heap} {f_is_integer f_is_row f_is_fraction f_is_some f_multiplied f_squared f_is_stall f_l_deck f_l_pick f_l_divisor f_l_made f_l_amount f_l_stall f_l_stalls f_l_deep f_l_odd f_l_changed f_l_is_some f_l_is_ware f_l_is_stall f_l_due f_l_answer f_l_is_told f_law f_BadStall_init f_Web_init f_Web_eq c_BadWares c_BadStall c_Web : Addr} {d_is_integer d_is_row d_is_fraction d_is_some d_multiplied d_squared d_is_stall d_l_deck d_l_pick d_l_divisor d_l_made d_l_amount d_l_stall d_l_stalls d_l_deep d_l_odd d_l_changed d_l_is_some d_l_is_ware d_l_is_stall d_l_due d_l_answer d_l_is_told d_law d_BadStall_init d_Web_init d_Web_eq : FuncData}
def sp_deck (K : PySem.W.Frag) : Sp := fun vs H Q _ => ∃ (a : Addr) (ns : List Int), vs = [.ref a] ∧ SqL K H a (ns.map V.int) ∧ ns.length ≤ 63 ∧ (∀ z ∈ ns, Builtin.Int.intBits z ≤ 1048576) ∧
  ∀ H' D C, Same H H' → Deck 1048576 D C H' 0 → Q (.ref D) H'
theorem ok_l_deck (T : Txt K mg f_is_integer f_is_row f_is_fraction f_is_some f_multiplied f_squared f_is_stall f_l_deck f_l_pick f_l_divisor f_l_made f_l_amount f_l_stall f_l_stalls f_l_deep f_l_odd f_l_changed f_l_is_some f_l_is_ware f_l_is_stall f_l_due f_l_answer f_l_is_told f_law f_BadStall_init f_Web_init f_Web_eq c_BadWares c_BadStall c_Web d_is_integer d_is_row d_is_fraction d_is_some d_multiplied d_squared d_is_stall d_l_deck d_l_pick d_l_divisor d_l_made d_l_amount d_l_stall d_l_stalls d_l_deep d_l_odd d_l_changed d_l_is_some d_l_is_ware d_l_is_stall d_l_due d_l_answer d_l_is_told d_law d_BadStall_init d_Web_init d_Web_eq) : FnOk P w K mg base CX0 1 f_l_deck d_l_deck ["_law_script"] (sp_deck K) := by
  refine T.F_l_deck.ok sc_l_deck (fun vs H Q E h => ?_) (fun cdv A outer s H vs Q E hr h => ?_)
  · obtain ⟨a, ns, rfl, _⟩ := h
    rfl
  · obtain ⟨a, ns, rfl, hS, hl, hb, q⟩ := h
    refine ⟨_, (pss_one (ps_ret (pe_lst (pa_cons (pe_lc (own := [("_law_cell", 1)]) (g := gName 1) rfl sc_l_deck.nd (pi_list (pe_slice sl_list (pv 0) po_none (po_some pe_int))) (blkOk_by (own := [("_law_cell", 1)]) (N := N_l_deck) (sc := defScope s_l_deck) (by decide +kernel)) (fun _ _ _ _ _ => (pg_name (i := 1) sc_l_deck.nd rfl (by first | exact Or.inl rfl | exact Or.inr rfl))) (fun _ _ _ _ _ => pts_nil) (fun _ _ _ _ _ => (pe_callTy call_intN (by rfl) T.z_int (by decide +kernel) (pa_cons (pv 1) pa_nil)))) (pa_cons pe_int (pa_cons pe_int (pa_cons pe_int pa_nil))))))), ?_⟩
    walk_at "r"
    refine rd_slL hS (fun p np => ?_)
    refine ⟨_, rfl, ⟨_, .of upd_same⟩, fun D nD => ?_⟩
    have hDp : D ≠ p := fun e => by
      rw [e, upd_same] at nD
      cases nD
    have hcut : cutV (ns.map V.int) none (some 63) = ns.map V.int := cut_all (n := 63) (by rw [List.length_map]; exact hl)
    refine lc_list (K := K) (a := p) (xs := ns.map V.int) (fun i H' => Same H H' ∧ H' p = some (.lst (ns.map V.int)) ∧ H' D = some (.lst ((ns.take i).map V.int))) ?_ ?_ ?_ ?_
    · refine ⟨(same_upd np).trans (same_upd nD), ?_, upd_same⟩
      rw [upd_ne hDp.symm, upd_same, hcut]
    · intro i H' _ h
      exact .of h.2.1
    · rintro i x H' hx ⟨s1, s2, s3⟩
      obtain ⟨z, rfl, hz, et⟩ := take_succ_map hx
      walk_at "r"
      refine ⟨rfl, ?_⟩
      walk_at "r"
      refine ⟨_, s3, ?_, fun b o e => ?_, ?_, ?_⟩
      · rw [List.length_map, List.length_take]
        exact Nat.lt_of_le_of_lt (Nat.min_le_right _ _) (small1000 (by omega))
      · have nb : b ≠ D := fun e' => by
          rw [e', (same_upd np).free nD] at e
          cases e
        rw [upd_ne nb]
        exact s1 b o e
      · rw [upd_ne hDp.symm]
        exact s2
      · rw [upd_same, et]
    · rintro H' ⟨s1, s2, s3⟩
      have hlen : (ns.map V.int).length = ns.length := List.length_map ..
      rw [hlen, List.take_of_length_le (Nat.le_refl _)] at s3
      walk_at "r"
      intro D' nD'
      have hDD : D ≠ D' := ne_of_none s3 nD'
      refine q _ _ _ (s1.trans (same_upd nD')) ⟨ns, 0, 0, 0, hDD, upd_same, ?_, hl, fun z hz => bits_lt (hb z hz), ⟨by decide, Nat.two_pow_pos _⟩, by decide, by decide⟩
      rw [upd_ne hDD]
      exact s3
def sp_divisor : Sp := fun vs H Q _ => ∃ a b : Int, vs = [.int a, .int b] ∧ b.natAbs < 2 ^ 20000 ∧ Q (.int (a.natAbs.gcd b.natAbs : Nat)) H
theorem ok_l_divisor (T : Txt K mg f_is_integer f_is_row f_is_fraction f_is_some f_multiplied f_squared f_is_stall f_l_deck f_l_pick f_l_divisor f_l_made f_l_amount f_l_stall f_l_stalls f_l_deep f_l_odd f_l_changed f_l_is_some f_l_is_ware f_l_is_stall f_l_due f_l_answer f_l_is_told f_law f_BadStall_init f_Web_init f_Web_eq c_BadWares c_BadStall c_Web d_is_integer d_is_row d_is_fraction d_is_some d_multiplied d_squared d_is_stall d_l_deck d_l_pick d_l_divisor d_l_made d_l_amount d_l_stall d_l_stalls d_l_deep d_l_odd d_l_changed d_l_is_some d_l_is_ware d_l_is_stall d_l_due d_l_answer d_l_is_told d_law d_BadStall_init d_Web_init d_Web_eq) : FnOk P w K mg base CX0 1 f_l_divisor d_l_divisor ["_law_one", "_law_other"] sp_divisor := by
  refine T.F_l_divisor.ok sc_l_divisor (fun vs H Q E h => ?_) (fun cdv A outer s H vs Q E hr h => ?_)
  · obtain ⟨a, b, rfl, _⟩ := h
    rfl
  · obtain ⟨a, b, rfl, hb, q⟩ := h
    have hbits : Builtin.Int.intBits (b.natAbs : Nat) ≤ 20000 := by
      have h := PyProof.Rows.intBits_le (a := (b.natAbs : Int)) (by rw [Int.natAbs_natCast]; exact hb)
      exact h
    have hlt := bits_lt (z := (b.natAbs : Int)) (Nat.le_refl _)
    rw [Int.natAbs_natCast] at hlt
    refine ⟨_, (pss_cons (ps_set (i := 0) sc_l_divisor.nd rfl (by first | exact Or.inl rfl | exact Or.inr rfl) (pe_callB call_absN (by rfl) T.z_abs (by decide +kernel) (pa_cons (pv 0) pa_nil)))
      (pss_cons (ps_set (i := 1) sc_l_divisor.nd rfl (by first | exact Or.inl rfl | exact Or.inr rfl) (pe_callB call_absN (by rfl) T.z_abs (by decide +kernel) (pa_cons (pv 1) pa_nil)))
      (pss_cons (ps_for PassesOwn.never rfl (pi_range1 (by rfl) T.z_range (pa_cons (pe_op op_add (pe_op op_mulX pe_int (pe_bits (pv 1))) pe_int) pa_nil)) (pg_name (i := 2) sc_l_divisor.nd rfl (by first | exact Or.inl rfl | exact Or.inr rfl))
        (pss_cons (ps_if (pt_cmpR op_eq (pv 1) pe_int (nomark _))
            (pss_one (ps_ret (pv 0)))
            pss_nil)
          (pss_cons (ps_set (i := 3) sc_l_divisor.nd rfl (by first | exact Or.inl rfl | exact Or.inr rfl) (pe_op op_mod (pe_callTy call_intN (by rfl) T.z_int (by decide +kernel) (pa_cons (pv 0) pa_nil)) (pv 1)))
          (pss_cons (ps_set (i := 0) sc_l_divisor.nd rfl (by first | exact Or.inl rfl | exact Or.inr rfl) (pv 1))
          (pss_one (ps_set (i := 1) sc_l_divisor.nd rfl (by first | exact Or.inl rfl | exact Or.inr rfl) (pv 3)))))))
      (pss_one (ps_ret (pv 0)))))), ?_⟩
    walk_at "r"
    · refine ⟨by omega, by omega, ?_⟩
      generalize Builtin.Int.intBits (b.natAbs : Int) = k at *
      have hN : (2 * (k : Int) + 2).toNat = 2 * k + 2 := by omega
      rw [hN]
      refine for_range (lo := 0) (n := 2 * k + 2) (fun i σ H' => ∃ (x y : Nat) (t r : Option V), σ = [some (.int x), some (.int y), t, r] ∧ H' = H ∧ Euc (a.natAbs.gcd b.natAbs) b.natAbs i x y) ?_ ?_ ?_
      · exact ⟨a.natAbs, b.natAbs, none, none, rfl, rfl, ⟨rfl, by simp, fun h => absurd rfl h⟩⟩
      · rintro i σ H' hi ⟨x, y, t, r, rfl, rfl, e⟩
        walk_at "r"
        walk_at "if"
        · rename_i hy
          have hy0 : y = 0 := by omega
          have g := e.g
          rw [hy0, Nat.gcd_zero_right] at g
          walk_at "r"
          rw [g]
          exact q
        · rename_i hy
          walk_at "r"
          exact ⟨y, x % y, _, _, rfl, rfl, e.step (by omega)⟩
      · rintro σ H' ⟨x, y, t, r, rfl, rfl, e⟩
        obtain ⟨_, hx⟩ := e.done hlt
        walk_at "r"
        rw [hx]
        exact q
    · exact cmul_small (by decide) (by omega)
end
end My
namespace My
open PySem PySem.Spec PyProof.Rows L2
variable {K : PySem.W.Frag}
section
variable {P : Program} {w : World} {K : PySem.W.Frag} {mg : Str → Option Value} {base : Heap} {f_is_integer f_is_row f_is_fraction f_is_some f_multiplied f_squared f_is_stall f_l_deck f_l_pick f_l_divisor f_l_made f_l_amount f_l_stall f_l_stalls f_l_deep f_l_odd f_l_changed f_l_is_some f_l_is_ware f_l_is_stall f_l_due f_l_answer f_l_is_told f_law f_BadStall_init f_Web_init f_Web_eq c_BadWares c_BadStall c_Web : Addr} {d_is_integer d_is_row d_is_fraction d_is_some d_multiplied d_squared d_is_stall d_l_deck d_l_pick d_l_divisor d_l_made d_l_amount d_l_stall d_l_stalls d_l_deep d_l_odd d_l_changed d_l_is_some d_l_is_ware d_l_is_stall d_l_due d_l_answer d_l_is_told d_law d_BadStall_init d_Web_init d_Web_eq : FuncData}
/-- two fractions in, one out -/
def sp_two (K : PySem.W.Frag) (f : Rat → Rat → Rat) (C : Rat → Rat → Prop) : Sp := fun vs H Q _ => ∃ x y r s, vs = [x, y] ∧ IsF K H x r ∧ IsF K H y s ∧ Bd 4000 r ∧ Bd 4000 s ∧ C r s ∧ ∀ H' v, Same H H' → IsF K H' v (f r s) → Q v H'
def sp_added (K : PySem.W.Frag) : Sp := sp_two K (· + ·) fun _ _ => True
def sp_multiplied (K : PySem.W.Frag) : Sp := sp_two K (· * ·) fun _ _ => True
theorem ok_multiplied (T : Txt K mg f_is_integer f_is_row f_is_fraction f_is_some f_multiplied f_squared f_is_stall f_l_deck f_l_pick f_l_divisor f_l_made f_l_amount f_l_stall f_l_stalls f_l_deep f_l_odd f_l_changed f_l_is_some f_l_is_ware f_l_is_stall f_l_due f_l_answer f_l_is_told f_law f_BadStall_init f_Web_init f_Web_eq c_BadWares c_BadStall c_Web d_is_integer d_is_row d_is_fraction d_is_some d_multiplied d_squared d_is_stall d_l_deck d_l_pick d_l_divisor d_l_made d_l_amount d_l_stall d_l_stalls d_l_deep d_l_odd d_l_changed d_l_is_some d_l_is_ware d_l_is_stall d_l_due d_l_answer d_l_is_told d_law d_BadStall_init d_Web_init d_Web_eq) : FnOk P w K mg base CX0 1 f_multiplied d_multiplied ["one", "other"] (sp_multiplied K) := by
  refine T.F_multiplied.ok sc_multiplied (fun vs H Q E h => ?_) (fun cdv A outer s H vs Q E hr h => ?_)
  · obtain ⟨x, y, r, s, rfl, _⟩ := h
    rfl
  · obtain ⟨x, y, r, s, rfl, ⟨p1, rfl, h1⟩, ⟨p2, rfl, h2⟩, b1, b2, -, q⟩ := h
    obtain ⟨m1, m2, m3, m4, m5, m6⟩ := mul_math b1 b2 _ _ rfl rfl
    refine ⟨_, (pss_cons (ps_set (i := 2) sc_multiplied.nd rfl (by first | exact Or.inl rfl | exact Or.inr rfl) (pe_callBfun cr_gcd (by rfl) T.m_gcd (pa_cons (pe_ix ix_tup (pv 0) pe_int (fun _ _ => rfl)) (pa_cons (pe_ix ix_tup (pv 1) pe_int (fun _ _ => rfl)) pa_nil))))
      (pss_cons (ps_set (i := 3) sc_multiplied.nd rfl (by first | exact Or.inl rfl | exact Or.inr rfl) (pe_callBfun cr_gcd (by rfl) T.m_gcd (pa_cons (pe_ix ix_tup (pv 1) pe_int (fun _ _ => rfl)) (pa_cons (pe_ix ix_tup (pv 0) pe_int (fun _ _ => rfl)) pa_nil))))
      (pss_one (ps_ret (pe_tup (pa_cons (pe_op op_mulX (pe_op op_fdivX (pe_ix ix_tup (pv 0) pe_int (fun _ _ => rfl)) (pv 2)) (pe_op op_fdivX (pe_ix ix_tup (pv 1) pe_int (fun _ _ => rfl)) (pv 3))) (pa_cons (pe_op op_mulX (pe_op op_fdivX (pe_ix ix_tup (pv 0) pe_int (fun _ _ => rfl)) (pv 3)) (pe_op op_fdivX (pe_ix ix_tup (pv 1) pe_int (fun _ _ => rfl)) (pv 2))) pa_nil))))))), ?_⟩
    walk_at "r"
    · intro p np
      exact q _ _ (same_upd np) (isF_new m5 m6)
    all_goals first | assumption | exact m1 _ | exact m2 _
def sp_negated (K : PySem.W.Frag) : Sp := fun vs H Q _ => ∃ x r, vs = [x] ∧ IsF K H x r ∧ ∀ H' v, Same H H' → IsF K H' v (-r) → Q v H'
def sp_lessened (K : PySem.W.Frag) : Sp := sp_two K (· - ·) fun _ _ => True
def sp_divided (K : PySem.W.Frag) : Sp := sp_two K (· / ·) fun _ s => s ≠ 0
end
end My
namespace My
open PySem PySem.Spec PyProof.Rows L2
variable {K : PySem.W.Frag}
section
variable {P : Program} {w : World} {K : PySem.W.Frag} {mg : Str → Option Value} {base : Heap} {f_is_integer f_is_row f_is_fraction f_is_some f_multiplied f_squared f_is_stall f_l_deck f_l_pick f_l_divisor f_l_made f_l_amount f_l_stall f_l_stalls f_l_deep f_l_odd f_l_changed f_l_is_some f_l_is_ware f_l_is_stall f_l_due f_l_answer f_l_is_told f_law f_BadStall_init f_Web_init f_Web_eq c_BadWares c_BadStall c_Web : Addr} {d_is_integer d_is_row d_is_fraction d_is_some d_multiplied d_squared d_is_stall d_l_deck d_l_pick d_l_divisor d_l_made d_l_amount d_l_stall d_l_stalls d_l_deep d_l_odd d_l_changed d_l_is_some d_l_is_ware d_l_is_stall d_l_due d_l_answer d_l_is_told d_law d_BadStall_init d_Web_init d_Web_eq : FuncData}
def sp_is_integer : Sp := fun vs H Q _ => ∃ i : Int, vs = [.int i] ∧ Q (.bl true) H
theorem ok_is_integer (T : Txt K mg f_is_integer f_is_row f_is_fraction f_is_some f_multiplied f_squared f_is_stall f_l_deck f_l_pick f_l_divisor f_l_made f_l_amount f_l_stall f_l_stalls f_l_deep f_l_odd f_l_changed f_l_is_some f_l_is_ware f_l_is_stall f_l_due f_l_answer f_l_is_told f_law f_BadStall_init f_Web_init f_Web_eq c_BadWares c_BadStall c_Web d_is_integer d_is_row d_is_fraction d_is_some d_multiplied d_squared d_is_stall d_l_deck d_l_pick d_l_divisor d_l_made d_l_amount d_l_stall d_l_stalls d_l_deep d_l_odd d_l_changed d_l_is_some d_l_is_ware d_l_is_stall d_l_due d_l_answer d_l_is_told d_law d_BadStall_init d_Web_init d_Web_eq) : FnOk P w K mg base CX0 1 f_is_integer d_is_integer ["thing"] sp_is_integer := by
  refine T.F_is_integer.ok sc_is_integer (fun vs H Q E h => ?_) (fun cdv A outer s H vs Q E hr h => ?_)
  · obtain ⟨i, rfl, _⟩ := h
    rfl
  · obtain ⟨i, rfl, q⟩ := h
    refine ⟨_, (pss_one (ps_ret (pe_and (pe_callB call_isi (by rfl) T.z_isinstance (by decide +kernel) (pa_cons (pv 0) (pa_cons (pe_bltn (v := .ty "int") (u := .type "int") (by rfl) T.z_int (by decide +kernel) rfl) pa_nil))) (pe_one (pe_not (pe_callB call_isi (by rfl) T.z_isinstance (by decide +kernel) (pa_cons (pv 0) (pa_cons (pe_bltn (v := .ty "bool") (u := .type "bool") (by rfl) T.z_bool (by decide +kernel) rfl) pa_nil)))))))), ?_⟩
    walk_at "r"
    exact q
def sp_is_fraction (K : PySem.W.Frag) : Sp := fun vs H Q _ => ∃ v r, vs = [v] ∧ IsF K H v r ∧ Q (.bl true) H
theorem ok_is_fraction (T : Txt K mg f_is_integer f_is_row f_is_fraction f_is_some f_multiplied f_squared f_is_stall f_l_deck f_l_pick f_l_divisor f_l_made f_l_amount f_l_stall f_l_stalls f_l_deep f_l_odd f_l_changed f_l_is_some f_l_is_ware f_l_is_stall f_l_due f_l_answer f_l_is_told f_law f_BadStall_init f_Web_init f_Web_eq c_BadWares c_BadStall c_Web d_is_integer d_is_row d_is_fraction d_is_some d_multiplied d_squared d_is_stall d_l_deck d_l_pick d_l_divisor d_l_made d_l_amount d_l_stall d_l_stalls d_l_deep d_l_odd d_l_changed d_l_is_some d_l_is_ware d_l_is_stall d_l_due d_l_answer d_l_is_told d_law d_BadStall_init d_Web_init d_Web_eq) : FnOk P w K mg base CX0 2 f_is_fraction d_is_fraction ["thing"] (sp_is_fraction K) := by
  have G_is_integer : FnOk P w K mg base CX0 1 f_is_integer d_is_integer ["thing"] sp_is_integer := ok_is_integer T
  refine T.F_is_fraction.ok sc_is_fraction (fun vs H Q E h => ?_) (fun cdv A outer s H vs Q E hr h => ?_)
  · obtain ⟨v, r, rfl, _⟩ := h
    rfl
  · obtain ⟨v, r, rfl, ⟨p, rfl, hp⟩, q⟩ := h
    refine ⟨_, (pss_cons (ps_if (PW.pt (pw_or (pt_not (pt_val (pe_callB call_isi (by rfl) T.z_isinstance (by decide +kernel) (pa_cons (pv 0) (pa_cons (pe_bltn (v := .ty "tuple") (u := .type "tuple") (by rfl) T.z_tuple (by decide +kernel) rfl) pa_nil))))) (pw_or1 (pt_cmpR op_ne (pe_callB call_lenN (by rfl) T.z_len (by decide +kernel) (pa_cons (pv 0) pa_nil)) pe_int (nomark _)))))
        (pss_one (ps_ret pe_bl))
        pss_nil)
      (pss_cons (ps_asg (pv 0) (pg_tup rfl (pgs_cons (pg_name (i := 1) sc_is_fraction.nd rfl (by first | exact Or.inl rfl | exact Or.inr rfl)) (pgs_cons (pg_name (i := 2) sc_is_fraction.nd rfl (by first | exact Or.inl rfl | exact Or.inr rfl)) pgs_nil))))
      (pss_cons (ps_if (PW.pt (pw_or (pt_not (pt_val (pe_call G_is_integer (hr.mono (by decide)) (by rfl) T.g_is_integer T.k_is_integer T.b_is_integer .nil pass0 (pa_cons (pv 1) pa_nil)))) (pw_or1 (pt_not (pt_val (pe_call G_is_integer (hr.mono (by decide)) (by rfl) T.g_is_integer T.k_is_integer T.b_is_integer .nil pass0 (pa_cons (pv 2) pa_nil)))))))
        (pss_one (ps_ret pe_bl))
        pss_nil)
      (pss_one (ps_ret (pe_and (pe_cmpR op_ge (pv 2) pe_int (nomark _)) (pe_one (pe_cmpR op_eq (pe_callBfun cr_gcd (by rfl) T.m_gcd (pa_cons (pv 1) (pa_cons (pv 2) pa_nil))) pe_int (nomark _))))))))), ?_⟩
    walk_at "r"
    refine ⟨_, rfl, ?_⟩
    walk_at "r"
    refine ⟨_, rfl, ?_⟩
    walk_at "r"
    have h1 := den_pos r
    have h2 := gcd_den r
    walk_at "r"
    rw [Int.natAbs_natCast, h2]
    exact q
end
end My
namespace My
open PySem PySem.Spec PyProof.Rows L2
variable {K : PySem.W.Frag}
theorem num_pos' {r : Rat} (h : 0 < r) : 0 < r.num := by
  rw [Rat.lt_iff] at h
  simpa using h
theorem sq_num (s : Rat) : (s * s).num = s.num * s.num ∧ (s * s).den = s.den * s.den := by
  obtain ⟨h1, h2⟩ := mul_form s s 1 1 (gcd_den s).symm (gcd_den s).symm
  rw [h1, h2]
  simp
section
variable {P : Program} {w : World} {K : PySem.W.Frag} {mg : Str → Option Value} {base : Heap} {f_is_integer f_is_row f_is_fraction f_is_some f_multiplied f_squared f_is_stall f_l_deck f_l_pick f_l_divisor f_l_made f_l_amount f_l_stall f_l_stalls f_l_deep f_l_odd f_l_changed f_l_is_some f_l_is_ware f_l_is_stall f_l_due f_l_answer f_l_is_told f_law f_BadStall_init f_Web_init f_Web_eq c_BadWares c_BadStall c_Web : Addr} {d_is_integer d_is_row d_is_fraction d_is_some d_multiplied d_squared d_is_stall d_l_deck d_l_pick d_l_divisor d_l_made d_l_amount d_l_stall d_l_stalls d_l_deep d_l_odd d_l_changed d_l_is_some d_l_is_ware d_l_is_stall d_l_due d_l_answer d_l_is_told d_law d_BadStall_init d_Web_init d_Web_eq : FuncData}
def sp_is_some (K : PySem.W.Frag) : Sp := fun vs H Q _ => ∃ v r, vs = [v] ∧ IsF K H v r ∧ 0 < r ∧ Q (.bl true) H
theorem ok_is_some (T : Txt K mg f_is_integer f_is_row f_is_fraction f_is_some f_multiplied f_squared f_is_stall f_l_deck f_l_pick f_l_divisor f_l_made f_l_amount f_l_stall f_l_stalls f_l_deep f_l_odd f_l_changed f_l_is_some f_l_is_ware f_l_is_stall f_l_due f_l_answer f_l_is_told f_law f_BadStall_init f_Web_init f_Web_eq c_BadWares c_BadStall c_Web d_is_integer d_is_row d_is_fraction d_is_some d_multiplied d_squared d_is_stall d_l_deck d_l_pick d_l_divisor d_l_made d_l_amount d_l_stall d_l_stalls d_l_deep d_l_odd d_l_changed d_l_is_some d_l_is_ware d_l_is_stall d_l_due d_l_answer d_l_is_told d_law d_BadStall_init d_Web_init d_Web_eq) : FnOk P w K mg base CX0 3 f_is_some d_is_some ["thing"] (sp_is_some K) := by
  have G_is_fraction : FnOk P w K mg base CX0 2 f_is_fraction d_is_fraction ["thing"] (sp_is_fraction K) := ok_is_fraction T
  refine T.F_is_some.ok sc_is_some (fun vs H Q E h => ?_) (fun cdv A outer s H vs Q E hr h => ?_)
  · obtain ⟨v, r, rfl, _⟩ := h
    rfl
  · obtain ⟨v, r, rfl, h, r0, q⟩ := h
    obtain ⟨p, rfl, hp⟩ := id h
    have hn := num_pos' r0
    refine ⟨_, (pss_one (ps_ret (pe_and (pe_call G_is_fraction (hr.mono (by decide)) (by rfl) T.g_is_fraction T.k_is_fraction T.b_is_fraction .nil pass0 (pa_cons (pv 0) pa_nil)) (pe_one (pe_cmpR op_gt (pe_ix ix_tup (pv 0) pe_int (fun _ _ => rfl)) pe_int (nomark _)))))), ?_⟩
    walk_at "r"
    refine ⟨_, _, rfl, h, ?_⟩
    walk_at "r"
    rw [decide_eq_true hn]
    exact q
def sp_squared (K : PySem.W.Frag) : Sp := fun vs H Q _ => ∃ v r, vs = [v] ∧ IsF K H v r ∧ Bd 4000 r ∧ ∀ H' u, Same H H' → IsF K H' u (r * r) → Q u H'
theorem ok_squared (T : Txt K mg f_is_integer f_is_row f_is_fraction f_is_some f_multiplied f_squared f_is_stall f_l_deck f_l_pick f_l_divisor f_l_made f_l_amount f_l_stall f_l_stalls f_l_deep f_l_odd f_l_changed f_l_is_some f_l_is_ware f_l_is_stall f_l_due f_l_answer f_l_is_told f_law f_BadStall_init f_Web_init f_Web_eq c_BadWares c_BadStall c_Web d_is_integer d_is_row d_is_fraction d_is_some d_multiplied d_squared d_is_stall d_l_deck d_l_pick d_l_divisor d_l_made d_l_amount d_l_stall d_l_stalls d_l_deep d_l_odd d_l_changed d_l_is_some d_l_is_ware d_l_is_stall d_l_due d_l_answer d_l_is_told d_law d_BadStall_init d_Web_init d_Web_eq) : FnOk P w K mg base CX0 1 f_squared d_squared ["one"] (sp_squared K) := by
  refine T.F_squared.ok sc_squared (fun vs H Q E h => ?_) (fun cdv A outer s H vs Q E hr h => ?_)
  · obtain ⟨v, r, rfl, _⟩ := h
    rfl
  · obtain ⟨v, r, rfl, ⟨p, rfl, hp⟩, b, q⟩ := h
    obtain ⟨e1, e2⟩ := sq_num r
    refine ⟨_, (pss_one (ps_ret (pe_tup (pa_cons (pe_op op_mulX (pe_ix ix_tup (pv 0) pe_int (fun _ _ => rfl)) (pe_ix ix_tup (pv 0) pe_int (fun _ _ => rfl))) (pa_cons (pe_op op_mulX (pe_ix ix_tup (pv 0) pe_int (fun _ _ => rfl)) (pe_ix ix_tup (pv 0) pe_int (fun _ _ => rfl))) pa_nil))))), ?_⟩
    walk_at "r"
    · intro p2 n2
      exact q _ _ (same_upd n2) (isF_new e1 (by rw [e2, Int.natCast_mul]))
    · exact cmx (by rw [Int.natAbs_natCast]; exact p46 b.2) (by rw [Int.natAbs_natCast]; exact p46 b.2)
    · exact cmx (p46 b.1) (p46 b.1)
def sp_is_stall (K : PySem.W.Frag) : Sp := fun vs H Q _ => ∃ (n : Nat) (x : V) (s : Stl), vs = [.int (n : Nat), x] ∧ IsSt K H x s ∧ OkSt n s ∧ BdSt 4000 s ∧ ∀ H', Same H H' → Q (.bl true) H'
theorem ok_is_stall (T : Txt K mg f_is_integer f_is_row f_is_fraction f_is_some f_multiplied f_squared f_is_stall f_l_deck f_l_pick f_l_divisor f_l_made f_l_amount f_l_stall f_l_stalls f_l_deep f_l_odd f_l_changed f_l_is_some f_l_is_ware f_l_is_stall f_l_due f_l_answer f_l_is_told f_law f_BadStall_init f_Web_init f_Web_eq c_BadWares c_BadStall c_Web d_is_integer d_is_row d_is_fraction d_is_some d_multiplied d_squared d_is_stall d_l_deck d_l_pick d_l_divisor d_l_made d_l_amount d_l_stall d_l_stalls d_l_deep d_l_odd d_l_changed d_l_is_some d_l_is_ware d_l_is_stall d_l_due d_l_answer d_l_is_told d_law d_BadStall_init d_Web_init d_Web_eq) : FnOk P w K mg base CX0 4 f_is_stall d_is_stall ["wares", "thing"] (sp_is_stall K) := by
  have G_is_integer : FnOk P w K mg base CX0 1 f_is_integer d_is_integer ["thing"] sp_is_integer := ok_is_integer T
  have G_is_some : FnOk P w K mg base CX0 3 f_is_some d_is_some ["thing"] (sp_is_some K) := ok_is_some T
  have G_multiplied : FnOk P w K mg base CX0 1 f_multiplied d_multiplied ["one", "other"] (sp_multiplied K) := ok_multiplied T
  have G_squared : FnOk P w K mg base CX0 1 f_squared d_squared ["one"] (sp_squared K) := ok_squared T
  refine T.F_is_stall.ok sc_is_stall (fun vs H Q E h => ?_) (fun cdv A outer s H vs Q E hr h => ?_)
  · obtain ⟨n, x, s, rfl, _⟩ := h
    rfl
  · obtain ⟨n, x, s, rfl, ⟨p, va, vb, vr, rfl, hp, ha, hb, hr'⟩, ok, bd, q⟩ := h
    have hu := ok.u
    have hv := ok.v
    have hne := ok.ne
    refine ⟨_, (pss_cons (ps_if (PW.pt (pw_or (pt_not (pt_val (pe_callB call_isi (by rfl) T.z_isinstance (by decide +kernel) (pa_cons (pv 1) (pa_cons (pe_bltn (v := .ty "tuple") (u := .type "tuple") (by rfl) T.z_tuple (by decide +kernel) rfl) pa_nil))))) (pw_or1 (pt_cmpR op_ne (pe_callB call_lenN (by rfl) T.z_len (by decide +kernel) (pa_cons (pv 1) pa_nil)) pe_int (nomark _)))))
        (pss_one (ps_ret pe_bl))
        pss_nil)
      (pss_cons (ps_asg (pv 1) (pg_tup rfl (pgs_cons (pg_name (i := 2) sc_is_stall.nd rfl (by first | exact Or.inl rfl | exact Or.inr rfl)) (pgs_cons (pg_name (i := 3) sc_is_stall.nd rfl (by first | exact Or.inl rfl | exact Or.inr rfl)) (pgs_cons (pg_name (i := 4) sc_is_stall.nd rfl (by first | exact Or.inl rfl | exact Or.inr rfl)) (pgs_cons (pg_name (i := 5) sc_is_stall.nd rfl (by first | exact Or.inl rfl | exact Or.inr rfl)) (pgs_cons (pg_name (i := 6) sc_is_stall.nd rfl (by first | exact Or.inl rfl | exact Or.inr rfl)) pgs_nil)))))))
      (pss_cons (ps_for PassesOwn.never rfl (pi_tup (pe_tup (pa_cons (pv 2) (pa_cons (pv 3) pa_nil)))) (pg_name (i := 7) sc_is_stall.nd rfl (by first | exact Or.inl rfl | exact Or.inr rfl))
        (pss_one (ps_if (PW.pt (pw_or (pt_not (pt_val (pe_call G_is_integer (hr.mono (by decide)) (by rfl) T.g_is_integer T.k_is_integer T.b_is_integer .nil pass0 (pa_cons (pv 7) pa_nil)))) (pw_or1 (pt_not (pt_chain op_le op_lt pe_int (pv 7) (pv 0))))))
            (pss_one (ps_ret pe_bl))
            pss_nil)))
      (pss_cons (ps_if (PW.pt (pw_or (pt_cmpR op_eq (pv 2) (pv 3) (nomark _)) (pw_or1 (pt_not (PW.pt (pw_and (pt_val (pe_call G_is_some (hr.mono (by decide)) (by rfl) T.g_is_some T.k_is_some T.b_is_some .nil pass0 (pa_cons (pv 4) pa_nil))) (pw_and (pt_val (pe_call G_is_some (hr.mono (by decide)) (by rfl) T.g_is_some T.k_is_some T.b_is_some .nil pass0 (pa_cons (pv 5) pa_nil))) (pw_and1 (pt_val (pe_call G_is_some (hr.mono (by decide)) (by rfl) T.g_is_some T.k_is_some T.b_is_some .nil pass0 (pa_cons (pv 6) pa_nil)))))))))))
        (pss_one (ps_ret pe_bl))
        pss_nil)
      (pss_one (ps_ret (pe_cmpR (op_eqD hr.units) (pe_call G_multiplied (hr.mono (by decide)) (by rfl) T.g_multiplied T.k_multiplied T.b_multiplied .nil pass0 (pa_cons (pv 4) (pa_cons (pv 5) pa_nil))) (pe_call G_squared (hr.mono (by decide)) (by rfl) T.g_squared T.k_squared T.b_squared .nil pass0 (pa_cons (pv 6) pa_nil)) (nomark _)))))))), ?_⟩
    walk_at "r"
    intro t nt
    have sm := same_upd (o := .tup [V.int (s.u : Nat), .int (s.v : Nat)]) nt
    have ht : upd H t (.tup [V.int (s.u : Nat), .int (s.v : Nat)]) t = some (.tup [V.int (s.u : Nat), .int (s.v : Nat)]) := upd_same
    generalize upd H t (.tup [V.int (s.u : Nat), .int (s.v : Nat)]) = H1 at *
    have ha := ha.same sm
    have hb := hb.same sm
    have hr' := hr'.same sm
    refine ⟨_, rfl, ⟨_, .of ht⟩, ?_⟩
    refine for_tup (K := K) (a := t) (xs := [V.int (s.u : Nat), .int (s.v : Nat)]) (fun i σ H' => ∃ t7, σ = [some (.int (n : Nat)), some (.ref p), some (.int (s.u : Nat)), some (.int (s.v : Nat)), some va, some vb, some vr, t7] ∧ H' = H1) ⟨_, rfl, rfl⟩ ?_ ?_ ?_
    · rintro i σ H' _ ⟨t7, rfl, rfl⟩
      exact .of ht
    · rintro i z σ H' hz ⟨t7, rfl, rfl⟩
      obtain ⟨k, rfl, hk⟩ : ∃ k : Nat, z = .int (k : Nat) ∧ k < n := by
        match i, hz with
        | 0, hz => exact ⟨_, (Option.some.inj hz).symm, hu⟩
        | 1, hz => exact ⟨_, (Option.some.inj hz).symm, hv⟩
      walk_at "r"
      refine ⟨_, rfl, ?_⟩
      walk_at "r"
      exact rfl
    · rintro σ H' ⟨t7, rfl, rfl⟩
      walk_at "r"
      refine ⟨_, _, rfl, ha, ok.a, ?_⟩
      walk_at "r"
      refine ⟨_, _, rfl, hb, ok.b, ?_⟩
      walk_at "r"
      refine ⟨_, _, rfl, hr', ok.r, ?_⟩
      walk_at "r"
      refine ⟨_, _, _, _, rfl, ha, hb, bd.a, bd.b, trivial, fun H2 x1 s1 h1 => ?_⟩
      walk_at "r"
      refine ⟨_, _, rfl, hr'.same s1, bd.r, fun H3 x2 s2 h2 => ?_⟩
      walk_at "r"
      refine eqF (h1.same s2) h2 ?_
      rw [decide_eq_true ok.e]
      exact q _ ((sm.trans s1).trans s2)
def sp_is_row : Sp := fun vs H Q _ => ∃ L xs, vs = [.ref L] ∧ (H L = some (.lst xs) ∨ H L = some (.tup xs)) ∧ ∀ H', Same H H' → Q (.bl true) H'
theorem ok_is_row (T : Txt K mg f_is_integer f_is_row f_is_fraction f_is_some f_multiplied f_squared f_is_stall f_l_deck f_l_pick f_l_divisor f_l_made f_l_amount f_l_stall f_l_stalls f_l_deep f_l_odd f_l_changed f_l_is_some f_l_is_ware f_l_is_stall f_l_due f_l_answer f_l_is_told f_law f_BadStall_init f_Web_init f_Web_eq c_BadWares c_BadStall c_Web d_is_integer d_is_row d_is_fraction d_is_some d_multiplied d_squared d_is_stall d_l_deck d_l_pick d_l_divisor d_l_made d_l_amount d_l_stall d_l_stalls d_l_deep d_l_odd d_l_changed d_l_is_some d_l_is_ware d_l_is_stall d_l_due d_l_answer d_l_is_told d_law d_BadStall_init d_Web_init d_Web_eq) : FnOk P w K mg base CX0 1 f_is_row d_is_row ["thing"] sp_is_row := by
  refine T.F_is_row.ok sc_is_row (fun vs H Q E h => ?_) (fun cdv A outer s H vs Q E hr h => ?_)
  · obtain ⟨L, xs, rfl, _⟩ := h
    rfl
  · obtain ⟨L, xs, rfl, h, q⟩ := h
    refine ⟨_, (pss_one (ps_ret (pe_callB call_isiT (by rfl) T.z_isinstance (by decide +kernel) (pa_cons (pv 0) (pa_cons (pe_tup (pa_cons (pe_bltn (v := .ty "list") (u := .type "list") (by rfl) T.z_list (by decide +kernel) rfl) (pa_cons (pe_bltn (v := .ty "tuple") (u := .type "tuple") (by rfl) T.z_tuple (by decide +kernel) rfl) pa_nil))) pa_nil))))), ?_⟩
    walk_at "r"
    intro p np
    walk_at "r"
    rcases h with h | h
    · refine ⟨_, _, _, _, _, true, rfl, upd_same, .cons (.ty _) (.cons (.ty _) .nil), .base (.lst (same_upd np _ _ h)), kitAny_cons (b := true) (kit_ty (by decide +kernel)) (fun z => Bool.noConfusion z) (fun _ => rfl), ?_⟩
      exact q _ (same_upd np)
    · refine ⟨_, _, _, _, _, true, rfl, upd_same, .cons (.ty _) (.cons (.ty _) .nil), .base (.tup (same_upd np _ _ h)), kitAny_cons (b := false) (kit_ty (by decide +kernel)) (fun _ => kitAny_cons (b := true) (kit_ty (by decide +kernel)) (fun z => Bool.noConfusion z) (fun _ => rfl)) (fun z => Bool.noConfusion z), ?_⟩
      exact q _ (same_upd np)
end
end My
namespace My
open PySem PySem.Spec PyProof.Rows L2
variable {K : PySem.W.Frag}
section
variable {P : Program} {w : World} {K : PySem.W.Frag} {mg : Str → Option Value} {base : Heap} {f_is_integer f_is_row f_is_fraction f_is_some f_multiplied f_squared f_is_stall f_l_deck f_l_pick f_l_divisor f_l_made f_l_amount f_l_stall f_l_stalls f_l_deep f_l_odd f_l_changed f_l_is_some f_l_is_ware f_l_is_stall f_l_due f_l_answer f_l_is_told f_law f_BadStall_init f_Web_init f_Web_eq c_BadWares c_BadStall c_Web : Addr} {d_is_integer d_is_row d_is_fraction d_is_some d_multiplied d_squared d_is_stall d_l_deck d_l_pick d_l_divisor d_l_made d_l_amount d_l_stall d_l_stalls d_l_deep d_l_odd d_l_changed d_l_is_some d_l_is_ware d_l_is_stall d_l_due d_l_answer d_l_is_told d_law d_BadStall_init d_Web_init d_Web_eq : FuncData}
/-- what Web(n, stalls) makes of right stalls -/
def sp_web (K : PySem.W.Frag) (C : Addr) : Sp := fun vs H Q _ => ∃ (p dx L : Addr) (n : Nat) (xs : List V) (ss : List Stl), vs = [.ref p, .int (n : Nat), .ref L] ∧ H p = some (.ins C dx []) ∧ (H L = some (.lst xs) ∨ H L = some (.tup xs)) ∧ 1 ≤ n ∧ n ≤ 8 ∧ xs.length ≤ 16 ∧
  Sts K H xs ss ∧ (∀ s ∈ ss, OkSt n s ∧ BdSt 4000 s) ∧ ∀ H', IsWeb K C H' (.ref p) n ss → (∀ b o, H b = some o → b ≠ p → H' b = some o) → Q .non H'
theorem ok_Web_init (T : Txt K mg f_is_integer f_is_row f_is_fraction f_is_some f_multiplied f_squared f_is_stall f_l_deck f_l_pick f_l_divisor f_l_made f_l_amount f_l_stall f_l_stalls f_l_deep f_l_odd f_l_changed f_l_is_some f_l_is_ware f_l_is_stall f_l_due f_l_answer f_l_is_told f_law f_BadStall_init f_Web_init f_Web_eq c_BadWares c_BadStall c_Web d_is_integer d_is_row d_is_fraction d_is_some d_multiplied d_squared d_is_stall d_l_deck d_l_pick d_l_divisor d_l_made d_l_amount d_l_stall d_l_stalls d_l_deep d_l_odd d_l_changed d_l_is_some d_l_is_ware d_l_is_stall d_l_due d_l_answer d_l_is_told d_law d_BadStall_init d_Web_init d_Web_eq) : FnOk P w K mg base CX0 5 f_Web_init d_Web_init ["self", "wares", "stalls"] (sp_web K c_Web) := by
  have G_is_integer : FnOk P w K mg base CX0 1 f_is_integer d_is_integer ["thing"] sp_is_integer := ok_is_integer T
  have G_is_row : FnOk P w K mg base CX0 1 f_is_row d_is_row ["thing"] sp_is_row := ok_is_row T
  have G_is_stall : FnOk P w K mg base CX0 4 f_is_stall d_is_stall ["wares", "thing"] (sp_is_stall K) := ok_is_stall T
  refine T.F_Web_init.ok sc_Web_init (fun vs H Q E h => ?_) (fun cdv A outer s H vs Q E hr h => ?_)
  · obtain ⟨p, dx, L, n, xs, ss, rfl, _⟩ := h
    rfl
  · obtain ⟨p, dx, L, n, xs, ss, rfl, hp, hL, hn1, hn8, hlen, hss, hok, q⟩ := h
    refine ⟨_, (pss_cons (ps_if (PW.pt (pw_or (pt_not (pt_val (pe_call G_is_integer (hr.mono (by decide)) (by rfl) T.g_is_integer T.k_is_integer T.b_is_integer .nil pass0 (pa_cons (pv 1) pa_nil)))) (pw_or1 (pt_not (pt_chain op_le op_le pe_int (pv 1) (C8.pe_gc (by rfl) T.v_MOST_WARES))))))
        (pss_one ps_never)
        pss_nil)
      (pss_cons (ps_if (PW.pt (pw_or (pt_not (pt_val (pe_call G_is_row (hr.mono (by decide)) (by rfl) T.g_is_row T.k_is_row T.b_is_row .nil pass0 (pa_cons (pv 2) pa_nil)))) (pw_or1 (pt_cmpR op_gt (pe_callB call_lenN (by rfl) T.z_len (by decide +kernel) (pa_cons (pv 2) pa_nil)) (C8.pe_gc (by rfl) T.v_MOST_STALLS) (nomark _)))))
        (pss_one ps_never)
        pss_nil)
      (pss_cons (ps_for PassesOwn.never rfl (pi_enumX (by rfl) T.z_enumerate (pa_cons (pv 2) pa_nil)) (pg_tup rfl (pgs_cons (pg_name (i := 3) sc_Web_init.nd rfl (by first | exact Or.inl rfl | exact Or.inr rfl)) (pgs_cons (pg_name (i := 4) sc_Web_init.nd rfl (by first | exact Or.inl rfl | exact Or.inr rfl)) pgs_nil)))
        (pss_one (ps_if (pt_not (pt_val (pe_call G_is_stall (hr.mono (by decide)) (by rfl) T.g_is_stall T.k_is_stall T.b_is_stall .nil pass0 (pa_cons (pv 1) (pa_cons (pv 4) pa_nil)))))
            (pss_one ps_never)
            pss_nil)))
      (pss_cons (ps_fld (pv 0) (pv 1) rfl)
      (pss_one (ps_fld (pv 0) (pe_callTy call_tuple_of (by rfl) T.z_tuple (by decide +kernel) (pa_cons (pv 2) pa_nil)) rfl)))))), ?_⟩
    walk_at "r"
    refine ⟨_, rfl, ?_⟩
    walk_at "r"
    refine ⟨_, _, rfl, hL, fun H1 s1 => ?_⟩
    have hL1 : H1 L = some (.lst xs) ∨ H1 L = some (.tup xs) := hL.imp (fun h => s1 _ _ h) fun h => s1 _ _ h
    have hSq : ∀ {H2 : Hp}, Same H1 H2 → SqL K H2 L xs ∨ SqT K H2 L xs := fun f => hL1.imp (fun h => .of (f _ _ h)) fun h => .of (f _ _ h)
    walk_at "r"
    refine ⟨L, xs, rfl, hSq (Same.refl _), ?_⟩
    walk_at "r"
    refine ⟨L, xs, rfl, ?_⟩
    have nL : L ≠ p := fun z => by
      rw [z, hp] at hL
      rcases hL with z | z <;> cases z
    rcases hL1 with h | h
    · refine .inl ⟨.of h, ?_⟩
      refine for_enum (K := K) (a := L) (xs := xs) (fun i σ H' => ∃ t3 t4, σ = [some (.ref p), some (.int (n : Nat)), some (.ref L), t3, t4] ∧ Same H1 H') ⟨_, _, rfl, Same.refl _⟩ ?_ ?_ ?_
      · rintro i σ H' _ ⟨t3, t4, rfl, s'⟩
        exact .of (s' _ _ h)
      · rintro i x T2 σ H' hx ⟨t3, t4, rfl, s'⟩ nT
        obtain ⟨s0, hs0, hst⟩ := hss.at hx
        have sm := same_upd (o := .tup [.int (i : Nat), x]) nT
        obtain ⟨ok0, bd0⟩ := hok _ (List.mem_of_getElem? hs0)
        walk_at "r"
        refine ⟨n, x, s0, rfl, hst.same ((s1.trans s').trans sm), ok0, bd0, fun H3 s3 => ?_⟩
        walk_at "r"
        exact ⟨_, _, rfl, (s'.trans sm).trans s3⟩
      · rintro σ H2 ⟨t3, t4, rfl, s'⟩
        have hp2 := s' _ _ (s1 _ _ hp)
        have hL2 := s' _ _ h
        have k2 := s1.trans s'
        walk_at "r"
        refine ⟨_, _, _, _, rfl, hp2, T.w_Web.it.cl, T.n_Web_wares, (by decide), ?_⟩
        walk_at "r"
        refine ⟨_, _, rfl, .inl ⟨.of ((upd_ne nL).trans hL2), fun l nl => ?_⟩⟩
        have hlp : l ≠ p := fun z => by
          rw [z, upd_same] at nl
          cases nl
        have nl2 : H2 l = none := by
          rw [upd_ne hlp] at nl
          exact nl
        walk_at "r"
        refine ⟨_, _, _, _, rfl, (upd_ne (Ne.symm hlp)).trans upd_same, T.w_Web.it.cl, T.n_Web_stalls, (by show 1 < 1000; decide), ?_⟩
        have keep : ∀ b o, H b = some o → b ≠ p → upd (upd (upd H2 p (.ins c_Web dx (putF "wares" (.int (n : Nat)) []))) l (.tup xs)) p (.ins c_Web dx (putF "stalls" (.ref l) (putF "wares" (.int (n : Nat)) []))) b = some o := fun b o hb hbp => by
          have hbl : b ≠ l := fun z => by
            rw [← z, k2 _ _ hb] at nl2
            cases nl2
          rw [upd_ne hbp, upd_ne hbl, upd_ne hbp]
          exact k2 _ _ hb
        refine q _ ⟨p, dx, l, xs, rfl, by rw [upd_same, wF_new], (upd_ne hlp).trans upd_same, hss.ts fun b ys hb => keep b _ hb ?_⟩ keep
        intro z
        rw [z, hp] at hb
        cases hb
    · refine .inr ⟨.of h, ?_⟩
      refine for_enumT (K := K) (a := L) (xs := xs) (fun i σ H' => ∃ t3 t4, σ = [some (.ref p), some (.int (n : Nat)), some (.ref L), t3, t4] ∧ Same H1 H') ⟨_, _, rfl, Same.refl _⟩ ?_ ?_ ?_
      · rintro i σ H' _ ⟨t3, t4, rfl, s'⟩
        exact .of (s' _ _ h)
      · rintro i x T2 σ H' hx ⟨t3, t4, rfl, s'⟩ nT
        obtain ⟨s0, hs0, hst⟩ := hss.at hx
        have sm := same_upd (o := .tup [.int (i : Nat), x]) nT
        obtain ⟨ok0, bd0⟩ := hok _ (List.mem_of_getElem? hs0)
        walk_at "r"
        refine ⟨n, x, s0, rfl, hst.same ((s1.trans s').trans sm), ok0, bd0, fun H3 s3 => ?_⟩
        walk_at "r"
        exact ⟨_, _, rfl, (s'.trans sm).trans s3⟩
      · rintro σ H2 ⟨t3, t4, rfl, s'⟩
        have hp2 := s' _ _ (s1 _ _ hp)
        have hL2 := s' _ _ h
        have k2 := s1.trans s'
        walk_at "r"
        refine ⟨_, _, _, _, rfl, hp2, T.w_Web.it.cl, T.n_Web_wares, (by decide), ?_⟩
        walk_at "r"
        refine ⟨_, _, rfl, .inr ⟨.of ((upd_ne nL).trans hL2), ?_⟩⟩
        walk_at "r"
        refine ⟨_, _, _, _, rfl, upd_same, T.w_Web.it.cl, T.n_Web_stalls, (by show 1 < 1000; decide), ?_⟩
        have keep : ∀ b o, H b = some o → b ≠ p → upd (upd H2 p (.ins c_Web dx (putF "wares" (.int (n : Nat)) []))) p (.ins c_Web dx (putF "stalls" (.ref L) (putF "wares" (.int (n : Nat)) []))) b = some o := fun b o hb hbp => by
          rw [upd_ne hbp, upd_ne hbp]
          exact k2 _ _ hb
        refine q _ ⟨p, dx, L, xs, rfl, by rw [upd_same, wF_new], (upd_ne nL).trans ((upd_ne nL).trans hL2), hss.ts fun b ys hb => keep b _ hb ?_⟩ keep
        intro z
        rw [z, hp] at hb
        cases hb
end
end My
namespace My
open PySem PySem.Spec PyProof.Rows L2
variable {K : PySem.W.Frag}
/-! ### webs compared -/
instance decStl : DecidableEq Stl := fun s t => decidable_of_decidable_of_iff (p := s.u = t.u ∧ s.v = t.v ∧ s.a = t.a ∧ s.b = t.b ∧ s.r = t.r) (by
  obtain ⟨u, v, a, b, r⟩ := s
  obtain ⟨u', v', a', b', r'⟩ := t
  simp only [Stl.mk.injEq])
def stD (s : Stl) : PyData := .tuple [.int (s.u : Nat), .int (s.v : Nat), frD s.a, frD s.b, frD s.r]
theorem stD_eqv (s t : Stl) : PyData.eqv (stD s) (stD t) = decide (s = t) := by
  have e : PyData.eqv (stD s) (stD t) = (decide ((s.u : Int) = t.u) && (decide ((s.v : Int) = t.v) && (decide (s.a = t.a) && (decide (s.b = t.b) && decide (s.r = t.r))))) := by
    unfold stD
    rw [PyData.eqv, PyData.eqvAll, PyData.eqvAll, PyData.eqvAll, PyData.eqvAll, PyData.eqvAll, PyData.eqvAll, frD_eqv, frD_eqv, frD_eqv]
    simp only [PyData.eqv, Bool.and_true, Bool.beq_eq_decide_eq]
  rw [e, Bool.eq_iff_iff]
  simp only [Bool.and_eq_true, decide_eq_true_eq]
  obtain ⟨u, v, a, b, r⟩ := s
  obtain ⟨u', v', a', b', r'⟩ := t
  simp only [Stl.mk.injEq]
  constructor <;> rintro ⟨h1, h2, h3, h4, h5⟩ <;> exact ⟨by omega, by omega, h3, h4, h5⟩
theorem sts_eqv : ∀ ss tt : List Stl, PyData.eqvAll (ss.map stD) (tt.map stD) = decide (ss = tt)
  | [], [] => rfl
  | [], _ :: _ => rfl
  | _ :: _, [] => rfl
  | s :: ss, t :: tt => by
    show (PyData.eqv (stD s) (stD t) && PyData.eqvAll (ss.map stD) (tt.map stD)) = _
    rw [stD_eqv, sts_eqv ss tt, Bool.eq_iff_iff]
    simp
theorem sts_lay : ∀ ss : List Stl, PyData.canLayAll0 (ss.map stD) = true ∧ PyData.depthAll (ss.map stD) ≤ 2
  | [] => ⟨rfl, by decide⟩
  | s :: ss => by
    obtain ⟨h1, h2⟩ := sts_lay ss
    refine ⟨?_, ?_⟩
    · show (PyData.canLay0 (stD s) && PyData.canLayAll0 (ss.map stD)) = true
      rw [h1]
      rfl
    · show max (PyData.depth (stD s)) (PyData.depthAll (ss.map stD)) ≤ 2
      have : PyData.depth (stD s) = 2 := rfl
      omega
theorem sts_shaped (ss : List Stl) : SeqAt.shaped (.tuple (ss.map stD)) = true := by
  obtain ⟨h1, h2⟩ := sts_lay ss
  unfold SeqAt.shaped
  rw [Bool.and_eq_true]
  refine ⟨h1, decide_eq_true ?_⟩
  show PyData.depthAll (ss.map stD) + 1 ≤ 64
  omega
theorem IsSt.dp {K : PySem.W.Frag} {H : Hp} {x : V} {s : Stl} (h : IsSt K H x s) : Dp K H x (stD s) := by
  obtain ⟨p, va, vb, vr, rfl, h, a, b, r⟩ := h
  exact .tup (.of h) (.cons (.int _) (.cons (.int _) (.cons a.dp (.cons b.dp (.cons r.dp .nil)))))
theorem Sts.dp {K : PySem.W.Frag} {H : Hp} {t : Addr} {xs : List V} {ss : List Stl} (h : Sts K H xs ss) (ht : H t = some (.tup xs)) : Dp K H (.ref t) (.tuple (ss.map stD)) := by
  refine .tup (.of ht) ?_
  clear ht
  unfold Sts at h
  induction h with
  | nil => exact .nil
  | cons h t ih => exact .cons h.dp ih
end My
namespace My
open PySem PySem.Spec PyProof.Rows L2
variable {K : PySem.W.Frag}
theorem sq_pos {r : Rat} (h : 0 < r) : 0 < r * r := Rat.mul_pos h h
theorem ne_of_pos {r : Rat} (h : 0 < r) : r ≠ 0 := fun z => by
  rw [z] at h
  exact absurd h (by decide)
section
variable {P : Program} {w : World} {K : PySem.W.Frag} {mg : Str → Option Value} {base : Heap} {f_is_integer f_is_row f_is_fraction f_is_some f_multiplied f_squared f_is_stall f_l_deck f_l_pick f_l_divisor f_l_made f_l_amount f_l_stall f_l_stalls f_l_deep f_l_odd f_l_changed f_l_is_some f_l_is_ware f_l_is_stall f_l_due f_l_answer f_l_is_told f_law f_BadStall_init f_Web_init f_Web_eq c_BadWares c_BadStall c_Web : Addr} {d_is_integer d_is_row d_is_fraction d_is_some d_multiplied d_squared d_is_stall d_l_deck d_l_pick d_l_divisor d_l_made d_l_amount d_l_stall d_l_stalls d_l_deep d_l_odd d_l_changed d_l_is_some d_l_is_ware d_l_is_stall d_l_due d_l_answer d_l_is_told d_law d_BadStall_init d_Web_init d_Web_eq : FuncData}
def sp_stall_led (K : PySem.W.Frag) : Sp := fun vs H Q _ => ∃ v s vx x, vs = [v, vx] ∧ IsSt K H v s ∧ IsF K H vx x ∧ Bd 1900 s.r ∧ Bd 3900 x ∧ 0 < x ∧ ∀ H' u, Same H H' → IsSt K H' u (s.first x) → Q u H'
def sp_behind (K : PySem.W.Frag) : Sp := fun vs H Q _ => ∃ (v : V) (s : Stl) (wn : Nat) (vx : V) (x : Rat), vs = [v, .int (wn : Nat), vx] ∧ IsSt K H v s ∧ IsF K H vx x ∧ BdSt 1900 s ∧ Bd 1900 x ∧ 0 < s.a ∧ 0 < s.b ∧ 0 < x ∧ ∀ H' u, Same H H' → IsSt K H' u (s.behind wn x) → Q u H'
def sp_taken (K : PySem.W.Frag) : Sp := fun vs H Q _ => ∃ (v u : V) (s t : Stl) (wn : Nat), vs = [v, u, .int (wn : Nat)] ∧ IsSt K H v s ∧ IsSt K H u t ∧ BdSt 4000 s ∧ BdSt 4000 t ∧ ∀ H' y, Same H H' → IsF K H' y (s.out t wn) → Q y H'
end
end My
namespace My
open PySem PySem.Spec PyProof.Rows L2
variable {K : PySem.W.Frag}
theorem at_some {xs : List V} {i : Nat} {x : V} (h : xs[i]? = some x) : atI xs (i : Int) = some x := atI_nat h
theorem in_pair {u v w : Nat} (h : w = u ∨ w = v) : inV (.int (w : Nat)) [V.int (u : Nat), .int (v : Nat)] = true := by
  rcases h with rfl | rfl <;> simp [inV, eqV]
section
variable {P : Program} {w : World} {K : PySem.W.Frag} {mg : Str → Option Value} {base : Heap} {f_is_integer f_is_row f_is_fraction f_is_some f_multiplied f_squared f_is_stall f_l_deck f_l_pick f_l_divisor f_l_made f_l_amount f_l_stall f_l_stalls f_l_deep f_l_odd f_l_changed f_l_is_some f_l_is_ware f_l_is_stall f_l_due f_l_answer f_l_is_told f_law f_BadStall_init f_Web_init f_Web_eq c_BadWares c_BadStall c_Web : Addr} {d_is_integer d_is_row d_is_fraction d_is_some d_multiplied d_squared d_is_stall d_l_deck d_l_pick d_l_divisor d_l_made d_l_amount d_l_stall d_l_stalls d_l_deep d_l_odd d_l_changed d_l_is_some d_l_is_ware d_l_is_stall d_l_due d_l_answer d_l_is_told d_law d_BadStall_init d_Web_init d_Web_eq : FuncData}
def sp_is_index (K : PySem.W.Frag) (C : Addr) : Sp := fun vs H Q _ => ∃ (x : V) (n : Nat) (ss : List Stl) (i : Nat), vs = [x, .int (i : Nat)] ∧ IsWeb K C H x n ss ∧ i < ss.length ∧ Q (.bl true) H
def sp_is_move (K : PySem.W.Frag) (C : Addr) : Sp := fun vs H Q _ => ∃ (x mv : V) (n : Nat) (ss : List Stl) (i wn : Nat) (s : Stl) (y : Rat), vs = [x, mv] ∧ IsWeb K C H x n ss ∧ IsMv K H mv i wn y ∧ ss[i]? = some s ∧ (wn = s.u ∨ wn = s.v) ∧ 0 < y ∧ ∀ H', Same H H' → Q (.bl true) H'
end
end My
namespace My
open PySem PySem.Spec PyProof.Rows L2
variable {K : PySem.W.Frag}
theorem mul_div_self {k x : Rat} (h : x ≠ 0) : x * (k / x) = k := by
  rw [Rat.div_def, ← Rat.mul_assoc, Rat.mul_comm x k, Rat.mul_assoc, Rat.mul_inv_cancel x h, Rat.mul_one]
theorem div_pos' {k x : Rat} (h : 0 < k) (hx : 0 < x) : 0 < k / x := by
  rw [Rat.div_def]
  exact Rat.mul_pos h (Rat.inv_pos.mpr hx)
theorem behind_ok {n : Nat} {s : Stl} (h : OkSt n s) (wn : Nat) {y : Rat} (y0 : 0 < y) : OkSt n (s.behind wn y) := by
  have a0 := h.a
  have b0 := h.b
  have rr := sq_pos h.r
  unfold Stl.behind
  split
  · have p : 0 < s.a + y := by grind
    exact ⟨h.u, h.v, h.ne, p, div_pos' rr p, h.r, mul_div_self (ne_of_pos p)⟩
  · have p : 0 < s.b + y := by grind
    exact ⟨h.u, h.v, h.ne, div_pos' rr p, p, h.r, (Rat.mul_comm _ _).trans (mul_div_self (ne_of_pos p))⟩
theorem behind_bd {k l : Nat} {n : Nat} {s : Stl} (hs : OkSt n s) (h : BdSt k s) (wn : Nat) {y : Rat} (y0 : 0 < y) (b : Bd l y) : BdSt (3 * k + l + 1) (s.behind wn y) := by
  have a0 := hs.a
  have b0 := hs.b
  unfold Stl.behind
  split
  · have p : 0 < s.a + y := by grind
    exact ⟨(h.a.add b).mono (by omega), ((h.r.mul h.r).div (ne_of_pos p) (h.a.add b)).mono (by omega), h.r.mono (by omega)⟩
  · have p : 0 < s.b + y := by grind
    exact ⟨((h.r.mul h.r).div (ne_of_pos p) (h.b.add b)).mono (by omega), (h.b.add b).mono (by omega), h.r.mono (by omega)⟩
theorem Sts.set {H : Hp} {xs : List V} {ss : List Stl} {v : V} {s : Stl} (h : Sts K H xs ss) (hv : IsSt K H v s) (i : Nat) : Sts K H (xs.set i v) (ss.set i s) := by
  unfold Sts at *
  induction h generalizing i with
  | nil => exact .nil
  | cons h t ih =>
    cases i with
    | zero => exact .cons hv t
    | succ i => exact .cons h (ih i)
theorem set_parts {xs : List V} {i : Nat} {v : V} (h : i < xs.length) : cutV xs none (some (i : Int)) ++ [v] ++ cutV xs (some ((i : Int) + 1)) none = xs.set i v := by
  have e : ((i : Int) + 1) = ((i + 1 : Nat) : Int) := by omega
  rw [e]
  unfold cutV
  rw [HT.sIx_none, HT.sIx_none, HT.sIx_nat, HT.sIx_nat, List.set_eq_take_append_cons_drop, if_pos h]
  have m1 : min i xs.length = i := by omega
  have m2 : min (i + 1) xs.length = i + 1 := by omega
  rw [m1, m2]
  simp
  exact List.take_of_length_le (by simp)
theorem rd_catA {K : PySem.W.Frag} {H : Hp} {a b : Addr} {xs ys : List V} {Q : VK} (ha : H a = some (.tup xs)) (hb : H b = some (.tup ys)) (hl : xs.length + ys.length ≤ sizeLine)
    (q : ∀ p H', Same H H' → H' p = some (.tup (xs ++ ys)) → Q (.ref p) H') : rCatA K (.ref a) (.ref b) H Q := by
  refine ⟨a, b, xs, ys, rfl, rfl, .of ha, .of hb, hl, fun e => ?_, fun _ e => ?_, fun _ _ p np => q p _ (same_upd np) upd_same⟩
  · subst e
    exact q b H (Same.refl _) hb
  · subst e
    exact q a H (Same.refl _) (by rw [List.append_nil]; exact ha)
theorem rd_slT {K : PySem.W.Frag} {H : Hp} {a : Addr} {xs : List V} {lo hi : Option Int} {Q : VK} (ha : H a = some (.tup xs)) (hw : ¬ (HT.sIx xs.length 0 lo = 0 ∧ HT.sIx xs.length xs.length hi = xs.length))
    (q : ∀ p H', Same H H' → H' p = some (.tup (cutV xs lo hi)) → Q (.ref p) H') : rSlT K (.ref a) lo hi H Q := ⟨a, xs, rfl, .of ha, hw, fun p np => q p _ (same_upd np) upd_same⟩
/-- a web within its bounds -/
structure OkW (n k : Nat) (ss : List Stl) : Prop where
  n1 : 1 ≤ n
  n8 : n ≤ 8
  len : ss.length ≤ 16
  ok : ∀ s ∈ ss, OkSt n s ∧ BdSt k s
theorem OkW.set {n k : Nat} {ss : List Stl} (h : OkW n k ss) {s : Stl} (h1 : OkSt n s) (h2 : BdSt k s) (i : Nat) : OkW n k (ss.set i s) :=
  ⟨h.n1, h.n8, by rw [List.length_set]; exact h.len, fun t ht => by
    rcases List.mem_or_eq_of_mem_set ht with z | z
    · exact h.ok t z
    · subst z
      exact ⟨h1, h2⟩⟩
theorem BdSt.mono {k l : Nat} {s : Stl} (h : BdSt k s) (hl : k ≤ l) : BdSt l s := ⟨h.a.mono hl, h.b.mono hl, h.r.mono hl⟩
theorem OkW.mono {n k l : Nat} {ss : List Stl} (h : OkW n k ss) (hl : k ≤ l) : OkW n l ss := ⟨h.n1, h.n8, h.len, fun s hs => ⟨(h.ok s hs).1, (h.ok s hs).2.mono hl⟩⟩
end My
namespace My
open PySem PySem.Spec PyProof.Rows L2
/-! ### x != y of instances with an own == and no own != -/
section
variable {prog : Program} {w : World} {A : Around} {E : Value → Shared → Prop} {s : Shared} {K : PySem.W.Frag} {x y C f : Addr} {ox : Obj} {od : Option Obj}
theorem boundB {name : Str} {id B : String} {args : List Value} {Q : Option Value → Shared → Prop} (X : K.In s.heap) (I : PySem.W.InstAt s.heap x ox C od) (hs : PySem.W.findIn K (.ref C) name = some (some (.builtin id))) (S : Slot B name id)
    (h : wpAny (model prog w) A (call (.builtin id) (.ref x :: args)) (fun v => Q (some v)) E s) : wpAny (model prog w) A (callSpecialIfBound? (.ref x) name args) Q E s := by
  have fin : wpAny (model prog w) A (do let v ← call (.builtin id) ([.ref x] ++ args); pure (some v)) Q E s := wpAny_bind (wpAny_mono h (fun v s' q => wpAny_pure q) fun _ _ q => q)
  simp only [callSpecialIfBound?, bindSpecialIfBound?]
  refine wpAny_holding (wpAny_bind (wpAny_bind (wpAny_bind (I.type.here ((PySem.W.looks_findIn X hs).here ?_)))))
  simp only [S.bind]
  refine wpAny_bind (wpAny_askSetting (wpAny_ite ?_))
  split
  · exact wpAny_bind (wpAny_pure (wpAny_pure fin))
  · exact wpAny_tryCatch (wpAny_bind (wpAny_pure (wpAny_pure fin)))
theorem neBody {Q : Fin → Shared → Prop} (hu : A.units < cLine) (X : K.In s.heap) (I : PySem.W.InstAt s.heap x ox C od) (hs : PySem.W.findIn K (.ref C) "__eq__" = some (some (.ref f))) (hf : PySem.W.isFn K (.ref f) = true)
    (h : wpAny (model prog w) A (call (.ref f) [.ref x, .ref y]) (fun v s' => ∃ b, v = .bool b ∧ Q (.done (.ret (.bool (!b)))) s') E s) : wpAny (model prog w) A (Builtin.«object.__ne__» ⟨[.ref x, .ref y], []⟩) Q E s := by
  unfold Builtin.«object.__ne__»
  have step : wpAny (model prog w) A (callSpecialIfBound? (.ref x) (Str.ofString "__eq__") [.ref y]) (fun r s' => ∃ b, r = some (.bool b) ∧ Q (.done (.ret (.bool (!b)))) s') E s :=
    PySem.W.ifBound_K X I hs hf (wpAny_mono h (fun v s' q => by obtain ⟨b, rfl, q⟩ := q; exact ⟨b, rfl, q⟩) fun _ _ q => q)
  repeat (first
    | with_reducible refine wpAny_cRoomFor hu ?_
    | (refine wpAny_bind (m := callSpecialIfBound? (.ref x) (Str.ofString "__eq__") [.ref y]) (wpAny_mono step (fun r s' q => ?_) fun _ _ q => q); obtain ⟨b, rfl, q⟩ := q)
    | exact q
    | (refine wpAny_bind (m := truthy (.bool _)) (wpAny_truthy_bool ?_))
    | wp_step)
theorem tryNe {Q : Option Value → Shared → Prop} (hu : A.units + 1 < cLine) (X : K.In s.heap) (I : PySem.W.InstAt s.heap x ox C od) (hne : PySem.W.findIn K (.ref C) "__ne__" = some (some (.builtin "object.__ne__"))) (hm : PySem.W.mroIn K C (.type "object") = some true)
    (hs : PySem.W.findIn K (.ref C) "__eq__" = some (some (.ref f))) (hf : PySem.W.isFn K (.ref f) = true)
    (h : wpAny (model prog w) A.in1 (call (.ref f) [.ref x, .ref y]) (fun v s' => ∃ b, v = .bool b ∧ Q (some (.bool (!b))) s') E s) : wpAny (model prog w) A (tryCompare (.ref x) "__ne__" (.ref y)) Q E s := by
  simp only [tryCompare]
  refine wpAny_bind (boundB X I hne F.cmp_object.ne (wpAny_call (codeAny_call_builtin F.cmp_object.ne.plain F.cmpEntry_ne (PySem.W.check_slot F.cmpKind_ne F.cmpSplit_ne (I.type.andThen (PySem.W.looks_mroIn X hm)) (F.cmpArgs_ne _ _) (neBody (A := A.in1) (by
    show A.units + 1 < cLine
    exact hu) X I hs hf (wpAny_mono h (fun v s' q => ?_) fun _ _ q => q))))))
  obtain ⟨b, rfl, q⟩ := q
  first
    | exact ⟨b, rfl, ⟨_, rfl, wpAny_pure q⟩⟩
    | exact ⟨b, rfl, wpAny_pure q⟩
    | exact ⟨b, rfl, wpAny_pure (wpAny_pure q)⟩
theorem richNe {oy : Obj} {ody : Option Obj} {Q : Value → Shared → Prop} (hu : A.units + 1 < cLine) (X : K.In s.heap) (I : PySem.W.InstAt s.heap x ox C od) (J : PySem.W.InstAt s.heap y oy C ody) (hne : PySem.W.findIn K (.ref C) "__ne__" = some (some (.builtin "object.__ne__"))) (hm : PySem.W.mroIn K C (.type "object") = some true)
    (hs : PySem.W.findIn K (.ref C) "__eq__" = some (some (.ref f))) (hf : PySem.W.isFn K (.ref f) = true)
    (h : wpAny (model prog w) A.in1 (call (.ref f) [.ref x, .ref y]) (fun v s' => ∃ b, v = .bool b ∧ Q (.bool (!b)) s') E s) : wpAny (model prog w) A (richCompare .NotEq (.ref x) (.ref y)) Q E s := by
  unfold richCompare
  simp only [oneThing_ref]
  refine wpAny_holding (wpAny_bind (wpAny_cRoomFor (Nat.lt_of_succ_lt hu) ?_))
  rw [cmpInfo_NotEq]
  refine wpAny_bind (I.type.here (wpAny_bind (J.type.here ?_)))
  rw [show (Value.ref C != Value.ref C) = false by simp]
  simp only [Bool.false_eq_true, if_false]
  refine wpAny_bind (wpAny_pure ?_)
  refine wpAny_bind (tryNe hu X I hne hm hs hf (wpAny_mono h (fun v s' q => ?_) fun _ _ q => q))
  obtain ⟨b, rfl, q⟩ := q
  exact ⟨b, rfl, wpAny_pure q⟩
end
/-- x != y, both instances of C; R what the two must be, for any answer of the own == -/
def spEqB (R : Addr → Addr → Hp → Bool → Prop) : Sp := fun vs H Q _ => ∃ a b r, vs = [.ref a, .ref b] ∧ R a b H r ∧ Q (.bl r) H
def rNeI (C : Addr) (R : Addr → Addr → Hp → Bool → Prop) : R2 := fun x y H Q => ∃ a b dx dy fs gs r, x = .ref a ∧ y = .ref b ∧ H a = some (.ins C dx fs) ∧ H b = some (.ins C dy gs) ∧ R a b H r ∧ Q (.bl (!r)) H
theorem op_neI {X : Cx} {n : Nat} {C f : Addr} {fd : FuncData} {ps : List Str} {R : Addr → Addr → Hp → Bool → Prop} (F : FnOk X.prog X.w X.K X.mg X.base CX0 n f fd ps (spEqB R)) (hr : Room (n + 1) X.A)
    (hne : PySem.W.findIn X.K (.ref C) "__ne__" = some (some (.builtin "object.__ne__"))) (hm : PySem.W.mroIn X.K C (.type "object") = some true) (hs : PySem.W.findIn X.K (.ref C) "__eq__" = some (some (.ref f))) (hf : PySem.W.isFn X.K (.ref f) = true) (hb : Binds X.K fd ps []) :
    OpR X (compareOp .NotEq) (rNeI C R) := by
  intro pins s σ H x y v u Q I rx ry hq
  obtain ⟨a, b, dx, dy, fs, gs, r, rfl, rfl, ha, hb', hR, q⟩ := hq
  cases rx
  cases ry
  obtain ⟨mA, J, _⟩ := ins_get I.hok ha
  obtain ⟨mB, J', _⟩ := ins_get I.hok hb'
  obtain ⟨od, J, _⟩ := J.look
  obtain ⟨od', J', _⟩ := J'.look
  show wpAny (model X.prog X.w) X.A (richCompare .NotEq (.ref a) (.ref b)) (EP X pins σ Q) X.xe s
  refine richNe ?_ I.kIn J J' hne hm hs hf ?_
  · have := hr.un
    omega
  have hsp : spEqB R [.ref a, .ref b] H (fun v H' => v = .bl r ∧ H' = H) E0 := ⟨a, b, r, rfl, hR, rfl, rfl⟩
  have e0 : Env0 X.prog X.w X.K X.mg X.base X.A.in1 X.stack s H := I.env0.in1
  have hl := F.len _ _ _ _ hsp
  have r2 : Vals [V.ref a, V.ref b] [Value.ref a, Value.ref b] := .cons rfl (.cons rfl .nil)
  refine wpAny_call (codeAny_mono (F.run X.A.in1 X.stack s H ⟨[.ref a, .ref b], []⟩ [.ref a, .ref b] [.ref a, .ref b] _ E0 hr.in1 e0 (by
    have := hb s [.ref a, .ref b] I.kIn (by simpa using hl)
    simpa using this) r2 hsp) fun z s' hz => ?_)
  cases z with
  | error e => exact False.elim hz
  | ok fl =>
    cases fl with
    | ret w' =>
      obtain ⟨z, H', I', rz, ez, ex⟩ := I.after hz
      subst ez
      subst ex
      cases rz
      exact ⟨r, rfl, .bl (!r), H', I', rfl, q⟩
    | next => exact False.elim hz
    | brk => exact False.elim hz
    | cont => exact False.elim hz
/-- x == y of such instances, for any answer of the own == -/
def rEqI (C : Addr) (R : Addr → Addr → Hp → Bool → Prop) : R2 := fun x y H Q => ∃ a b dx dy fs gs r, x = .ref a ∧ y = .ref b ∧ H a = some (.ins C dx fs) ∧ H b = some (.ins C dy gs) ∧ R a b H r ∧ Q (.bl r) H
theorem op_eqI {X : Cx} {n : Nat} {C f : Addr} {fd : FuncData} {ps : List Str} {R : Addr → Addr → Hp → Bool → Prop} (F : FnOk X.prog X.w X.K X.mg X.base CX0 n f fd ps (spEqB R)) (hr : Room (n + 1) X.A)
    (hs : PySem.W.findIn X.K (.ref C) "__eq__" = some (some (.ref f))) (hf : PySem.W.isFn X.K (.ref f) = true) (hb : Binds X.K fd ps []) : OpR X (compareOp .Eq) (rEqI C R) := by
  intro pins s σ H x y v u Q I rx ry hq
  obtain ⟨a, b, dx, dy, fs, gs, r, rfl, rfl, ha, hb', hR, q⟩ := hq
  cases rx
  cases ry
  obtain ⟨mA, J, _⟩ := ins_get I.hok ha
  obtain ⟨mB, J', _⟩ := ins_get I.hok hb'
  obtain ⟨od, J, _⟩ := J.look
  obtain ⟨od', J', _⟩ := J'.look
  obtain ⟨m, hF⟩ := I.fr
  show wpAny (model X.prog X.w) X.A (richCompare .Eq (.ref a) (.ref b)) (EP X pins σ Q) X.xe s
  refine PySem.W.cmp_K (op := .Eq) (tb := .ref C) hr.units0 hF I.ok.mod.kin J J'.type (by simp [PySem.W.notFirst]) hs hf ?_
  have hsp : spEqB R [.ref a, .ref b] H (fun v H' => v = .bl r ∧ H' = H) E0 := ⟨a, b, r, rfl, hR, rfl, rfl⟩
  have hl := F.len _ _ _ _ hsp
  have r2 : Vals [V.ref a, V.ref b] [Value.ref a, Value.ref b] := .cons rfl (.cons rfl .nil)
  refine wpAny_call (codeAny_mono (F.run X.A X.stack s H ⟨[.ref a, .ref b], []⟩ [.ref a, .ref b] [.ref a, .ref b] _ E0 (hr.mono (Nat.le_succ n)) I.env0 (by
    have := hb s [.ref a, .ref b] I.kIn (by simpa using hl)
    simpa using this) r2 hsp) fun z s' hz => ?_)
  cases z with
  | error e => exact False.elim hz
  | ok fl =>
    cases fl with
    | ret w' =>
      obtain ⟨z, H', I', rz, ez, ex⟩ := I.after hz
      subst ez
      subst ex
      cases rz
      exact ⟨.bl r, H', I', rfl, q⟩
    | next => exact False.elim hz
    | brk => exact False.elim hz
    | cont => exact False.elim hz
end My
namespace My
open PySem PySem.Spec PyProof.Rows L2
variable {K : PySem.W.Frag}
theorem kit_self {K : PySem.W.Frag} {t : Value} : PySem.W.kitOne K t t = some true := by
  unfold PySem.W.kitOne
  simp
section
variable {P : Program} {w : World} {K : PySem.W.Frag} {mg : Str → Option Value} {base : Heap} {f_is_integer f_is_row f_is_fraction f_is_some f_multiplied f_squared f_is_stall f_l_deck f_l_pick f_l_divisor f_l_made f_l_amount f_l_stall f_l_stalls f_l_deep f_l_odd f_l_changed f_l_is_some f_l_is_ware f_l_is_stall f_l_due f_l_answer f_l_is_told f_law f_BadStall_init f_Web_init f_Web_eq c_BadWares c_BadStall c_Web : Addr} {d_is_integer d_is_row d_is_fraction d_is_some d_multiplied d_squared d_is_stall d_l_deck d_l_pick d_l_divisor d_l_made d_l_amount d_l_stall d_l_stalls d_l_deep d_l_odd d_l_changed d_l_is_some d_l_is_ware d_l_is_stall d_l_due d_l_answer d_l_is_told d_law d_BadStall_init d_Web_init d_Web_eq : FuncData}
def sp_weq (K : PySem.W.Frag) (C : Addr) : Sp := fun vs H Q _ => ∃ (x y : V) (n m : Nat) (ss tt : List Stl), vs = [x, y] ∧ IsWeb K C H x n ss ∧ IsWeb K C H y m tt ∧ Q (.bl (decide (n = m) && decide (ss = tt))) H
theorem ok_Web_eq (T : Txt K mg f_is_integer f_is_row f_is_fraction f_is_some f_multiplied f_squared f_is_stall f_l_deck f_l_pick f_l_divisor f_l_made f_l_amount f_l_stall f_l_stalls f_l_deep f_l_odd f_l_changed f_l_is_some f_l_is_ware f_l_is_stall f_l_due f_l_answer f_l_is_told f_law f_BadStall_init f_Web_init f_Web_eq c_BadWares c_BadStall c_Web d_is_integer d_is_row d_is_fraction d_is_some d_multiplied d_squared d_is_stall d_l_deck d_l_pick d_l_divisor d_l_made d_l_amount d_l_stall d_l_stalls d_l_deep d_l_odd d_l_changed d_l_is_some d_l_is_ware d_l_is_stall d_l_due d_l_answer d_l_is_told d_law d_BadStall_init d_Web_init d_Web_eq) : FnOk P w K mg base CX0 1 f_Web_eq d_Web_eq ["self", "other"] (sp_weq K c_Web) := by
  refine T.F_Web_eq.ok sc_Web_eq (fun vs H Q E h => ?_) (fun cdv A outer s H vs Q E hr h => ?_)
  · obtain ⟨x, y, n, m, ss, tt, rfl, _⟩ := h
    rfl
  · obtain ⟨x, y, n, m, ss, tt, rfl, ⟨p, dx, t, xs, rfl, hp, ht, hss⟩, ⟨p2, dx2, t2, xs2, rfl, hp2, ht2, hss2⟩, q⟩ := h
    refine ⟨_, (pss_one (ps_ret (pe_and (pe_callB call_isi (by rfl) T.z_isinstance (by decide +kernel) (pa_cons (pv 1) (pa_cons (pe_glob (v := .ref c_Web) (by rfl) T.w_Web.g rfl) pa_nil))) (pe_and (pe_cmpR op_eq (pe_fld (pv 0) rfl) (pe_fld (pv 1) rfl) (nomark _)) (pe_one (pe_cmpR (op_eqD hr.units) (pe_fld (pv 0) rfl) (pe_fld (pv 1) rfl) (nomark _))))))), ?_⟩
    walk_at "r"
    refine ⟨_, _, _, _, _, rfl, .own _, .base (.ins hp2 T.w_Web.it.cl T.w_Web.it.ha T.w_Web.it.hn T.w_Web.it.ht T.w_Web.it.mo), kit_self, ?_⟩
    walk_at "r"
    refine ⟨_, _, _, _, _, rfl, hp, T.w_Web.it.cl, T.n_Web_wares, wF_wares _ _, ?_⟩
    walk_at "r"
    refine ⟨_, _, _, _, _, rfl, hp2, T.w_Web.it.cl, T.n_Web_wares, wF_wares _ _, ?_⟩
    walk_at "r"
    have e1 : decide (((n : Nat) : Int) = (m : Nat)) = decide (n = m) := by
      rw [Bool.eq_iff_iff, decide_eq_true_eq, decide_eq_true_eq]
      omega
    by_cases e : n = m
    · have e2 : ((n : Nat) : Int) = (m : Nat) := by omega
      rw [decide_eq_true e, Bool.true_and] at q
      rw [decide_eq_true e2]
      walk_at "r"
      refine ⟨_, _, _, _, _, rfl, hp, T.w_Web.it.cl, T.n_Web_stalls, wF_stalls _ _, ?_⟩
      walk_at "r"
      refine ⟨_, _, _, _, _, rfl, hp2, T.w_Web.it.cl, T.n_Web_stalls, wF_stalls _ _, ?_⟩
      refine ⟨_, _, hss.dp ht, hss2.dp ht2, sts_shaped _, sts_shaped _, ?_⟩
      rw [show PyData.eqv (.tuple (ss.map stD)) (.tuple (tt.map stD)) = decide (ss = tt) from sts_eqv ss tt]
      exact q
    · have e2 : ¬ ((n : Nat) : Int) = (m : Nat) := by omega
      rw [decide_eq_false e, Bool.false_and] at q
      rw [decide_eq_false e2]
      walk_at "r"
      exact q
/-- two webs that are equal -/
def RWeb (K : PySem.W.Frag) (C : Addr) : Addr → Addr → Hp → Prop := fun a b H => ∃ n ss, IsWeb K C H (.ref a) n ss ∧ IsWeb K C H (.ref b) n ss
theorem ok_Web_eqR (T : Txt K mg f_is_integer f_is_row f_is_fraction f_is_some f_multiplied f_squared f_is_stall f_l_deck f_l_pick f_l_divisor f_l_made f_l_amount f_l_stall f_l_stalls f_l_deep f_l_odd f_l_changed f_l_is_some f_l_is_ware f_l_is_stall f_l_due f_l_answer f_l_is_told f_law f_BadStall_init f_Web_init f_Web_eq c_BadWares c_BadStall c_Web d_is_integer d_is_row d_is_fraction d_is_some d_multiplied d_squared d_is_stall d_l_deck d_l_pick d_l_divisor d_l_made d_l_amount d_l_stall d_l_stalls d_l_deep d_l_odd d_l_changed d_l_is_some d_l_is_ware d_l_is_stall d_l_due d_l_answer d_l_is_told d_law d_BadStall_init d_Web_init d_Web_eq) : FnOk P w K mg base CX0 1 f_Web_eq d_Web_eq ["self", "other"] (spEq (RWeb K c_Web)) :=
  (ok_Web_eq T).imp fun vs H Q E h => by
    obtain ⟨a, b, rfl, ⟨n, ss, h1, h2⟩, q⟩ := h
    refine ⟨_, _, n, n, ss, ss, rfl, h1, h2, ?_⟩
    rw [decide_eq_true rfl, decide_eq_true rfl]
    exact q H Ext.rfl'
theorem rc_web {X : Cx} (T : Txt X.K X.mg f_is_integer f_is_row f_is_fraction f_is_some f_multiplied f_squared f_is_stall f_l_deck f_l_pick f_l_divisor f_l_made f_l_amount f_l_stall f_l_stalls f_l_deep f_l_odd f_l_changed f_l_is_some f_l_is_ware f_l_is_stall f_l_due f_l_answer f_l_is_told f_law f_BadStall_init f_Web_init f_Web_eq c_BadWares c_BadStall c_Web d_is_integer d_is_row d_is_fraction d_is_some d_multiplied d_squared d_is_stall d_l_deck d_l_pick d_l_divisor d_l_made d_l_amount d_l_stall d_l_stalls d_l_deep d_l_odd d_l_changed d_l_is_some d_l_is_ware d_l_is_stall d_l_due d_l_answer d_l_is_told d_law d_BadStall_init d_Web_init d_Web_eq) : RcG X 1 (DIns c_Web (RWeb X.K c_Web)) :=
  rcG_ins (E := E0) (ok_Web_eqR T) T.i_Web_eq T.fn_Web_eq T.b_Web_eq pass0
/-- what the own == answers of two webs -/
def BWeb (K : PySem.W.Frag) (C : Addr) : Addr → Addr → Hp → Bool → Prop := fun a b H r => ∃ n m ss tt, IsWeb K C H (.ref a) n ss ∧ IsWeb K C H (.ref b) m tt ∧ r = (decide (n = m) && decide (ss = tt))
theorem ok_Web_eq_B (T : Txt K mg f_is_integer f_is_row f_is_fraction f_is_some f_multiplied f_squared f_is_stall f_l_deck f_l_pick f_l_divisor f_l_made f_l_amount f_l_stall f_l_stalls f_l_deep f_l_odd f_l_changed f_l_is_some f_l_is_ware f_l_is_stall f_l_due f_l_answer f_l_is_told f_law f_BadStall_init f_Web_init f_Web_eq c_BadWares c_BadStall c_Web d_is_integer d_is_row d_is_fraction d_is_some d_multiplied d_squared d_is_stall d_l_deck d_l_pick d_l_divisor d_l_made d_l_amount d_l_stall d_l_stalls d_l_deep d_l_odd d_l_changed d_l_is_some d_l_is_ware d_l_is_stall d_l_due d_l_answer d_l_is_told d_law d_BadStall_init d_Web_init d_Web_eq) : FnOk P w K mg base CX0 1 f_Web_eq d_Web_eq ["self", "other"] (spEqB (BWeb K c_Web)) :=
  (ok_Web_eq T).imp fun vs H Q E h => by
    obtain ⟨a, b, r, rfl, ⟨n, m, ss, tt, h1, h2, rfl⟩, q⟩ := h
    exact ⟨_, _, n, m, ss, tt, rfl, h1, h2, q⟩
end
end My
namespace My
open PySem PySem.Spec PyProof.Rows L2
variable {K : PySem.W.Frag}
theorem ten6e : (10 : Int) ^ (6 : Int).toNat = 1000000 := by decide
theorem rat_pos {r : Rat} (h : 0 < r.num) : 0 < r := by
  rw [Rat.lt_iff]
  simpa using h
theorem divInt_pos {t b : Int} (ht : 0 < t) (hb : 0 < b) : 0 < Rat.divInt t b := by
  have h := (rat_cross (n := t) (d := b) (r := Rat.divInt t b) (by omega)).mp rfl
  have hd := den_pos (Rat.divInt t b)
  have h2 : 0 < t * ((Rat.divInt t b).den : Int) := Int.mul_pos ht hd
  rw [h] at h2
  refine rat_pos ?_
  exact Int.pos_of_mul_pos_left h2 hb
theorem divInt_mul' (r t : Rat) : Rat.divInt (r.num * t.num) ((r.den : Int) * t.den) = r * t := by
  rw [← Rat.divInt_mul_divInt, Rat.num_divInt_den, Rat.num_divInt_den]
theorem mul_lt' {a b : Int} {k l : Nat} (h1 : a.natAbs < 2 ^ k) (h2 : b.natAbs < 2 ^ l) : (a * b).natAbs < 2 ^ (k + l) := by
  rw [Int.natAbs_mul]
  exact nat_mul_lt h1 h2
theorem back_root (r f : Rat) (hf : 0 < f) : r * f * Rat.divInt (r.num * f.den) (r.den * f.num) = r * r := by
  have h0 : f.num * f.den ≠ 0 := Int.ne_of_gt (Int.mul_pos (num_pos' hf) (den_pos f))
  rw [← divInt_mul' r f, ← divInt_mul' r r, Rat.divInt_mul_divInt]
  rw [show r.num * f.num * (r.num * f.den) = r.num * r.num * (f.num * f.den) by grind, show (r.den : Int) * f.den * (r.den * f.num) = (r.den : Int) * r.den * (f.num * f.den) by grind]
  exact Rat.divInt_mul_right h0
theorem add_divInt (r t : Rat) : Rat.divInt (r.num * t.den + t.num * r.den) ((r.den : Int) * t.den) = r + t := by
  have h1 := den_pos r
  have h2 := den_pos t
  rw [← Rat.divInt_add_divInt r.num t.num (by omega) (by omega), Rat.num_divInt_den, Rat.num_divInt_den]
theorem sub_divInt (r t : Rat) : Rat.divInt (r.num * t.den - t.num * r.den) ((r.den : Int) * t.den) = r - t := by
  have h1 := den_pos r
  have h2 := den_pos t
  rw [Rat.sub_eq_add_neg, ← add_divInt r (-t)]
  show _ = Rat.divInt (r.num * t.den + -t.num * r.den) _
  rw [Int.neg_mul, ← Int.sub_eq_add_neg]
  rfl
end My
namespace My
open PySem PySem.Spec PyProof.Rows L2
variable {K : PySem.W.Frag}
section
variable {P : Program} {w : World} {K : PySem.W.Frag} {mg : Str → Option Value} {base : Heap} {f_is_integer f_is_row f_is_fraction f_is_some f_multiplied f_squared f_is_stall f_l_deck f_l_pick f_l_divisor f_l_made f_l_amount f_l_stall f_l_stalls f_l_deep f_l_odd f_l_changed f_l_is_some f_l_is_ware f_l_is_stall f_l_due f_l_answer f_l_is_told f_law f_BadStall_init f_Web_init f_Web_eq c_BadWares c_BadStall c_Web : Addr} {d_is_integer d_is_row d_is_fraction d_is_some d_multiplied d_squared d_is_stall d_l_deck d_l_pick d_l_divisor d_l_made d_l_amount d_l_stall d_l_stalls d_l_deep d_l_odd d_l_changed d_l_is_some d_l_is_ware d_l_is_stall d_l_due d_l_answer d_l_is_told d_law d_BadStall_init d_Web_init d_Web_eq : FuncData}
def sp_made (K : PySem.W.Frag) : Sp := fun vs H Q _ => ∃ n d : Int, vs = [.int n, .int d] ∧ 0 < d ∧ d.natAbs < 2 ^ 8000 ∧ ∀ H' v, Same H H' → IsF K H' v (Rat.divInt n d) → Q v H'
theorem ok_l_made (T : Txt K mg f_is_integer f_is_row f_is_fraction f_is_some f_multiplied f_squared f_is_stall f_l_deck f_l_pick f_l_divisor f_l_made f_l_amount f_l_stall f_l_stalls f_l_deep f_l_odd f_l_changed f_l_is_some f_l_is_ware f_l_is_stall f_l_due f_l_answer f_l_is_told f_law f_BadStall_init f_Web_init f_Web_eq c_BadWares c_BadStall c_Web d_is_integer d_is_row d_is_fraction d_is_some d_multiplied d_squared d_is_stall d_l_deck d_l_pick d_l_divisor d_l_made d_l_amount d_l_stall d_l_stalls d_l_deep d_l_odd d_l_changed d_l_is_some d_l_is_ware d_l_is_stall d_l_due d_l_answer d_l_is_told d_law d_BadStall_init d_Web_init d_Web_eq) : FnOk P w K mg base CX0 2 f_l_made d_l_made ["_law_top", "_law_bottom"] (sp_made K) := by
  have G_l_divisor : FnOk P w K mg base CX0 1 f_l_divisor d_l_divisor ["_law_one", "_law_other"] sp_divisor := ok_l_divisor T
  refine T.F_l_made.ok sc_l_made (fun vs H Q E h => ?_) (fun cdv A outer s H vs Q E hr h => ?_)
  · obtain ⟨n, d, rfl, _⟩ := h
    rfl
  · obtain ⟨n, d, rfl, hd, hb, q⟩ := h
    refine ⟨_, (pss_cons (ps_set (i := 2) sc_l_made.nd rfl (by first | exact Or.inl rfl | exact Or.inr rfl) (pe_call G_l_divisor (hr.mono (by decide)) (by rfl) T.g_l_divisor T.k_l_divisor T.b_l_divisor .nil pass0 (pa_cons (pv 0) (pa_cons (pv 1) pa_nil))))
      (pss_one (ps_ret (pe_tup (pa_cons (pe_op op_fdivX (pv 0) (pv 2)) (pa_cons (pe_op op_fdivX (pv 1) (pv 2)) pa_nil)))))), ?_⟩
    walk_at "r"
    refine ⟨_, _, rfl, Nat.lt_of_lt_of_le hb (pow_le (by decide)), ?_⟩
    obtain ⟨m1, m2, m3⟩ := low_math (n := n) hd hb _ rfl
    walk_at "r"
    · intro p np
      exact q _ _ (same_upd np) (isF_new m2 m3)
    all_goals exact m1 _
theorem p20k {n : Nat} (h : n < 2 ^ 1900) : n < 2 ^ 20000 := Nat.lt_of_lt_of_le h (pow_le (by decide))
def sp_two9 (K : PySem.W.Frag) (f : Rat → Rat → Rat) : Sp := fun vs H Q _ => ∃ x y r s, vs = [x, y] ∧ IsF K H x r ∧ IsF K H y s ∧ Bd 1900 r ∧ Bd 1900 s ∧ ∀ H' v, Same H H' → IsF K H' v (f r s) → Q v H'
end
end My
namespace My
open PySem PySem.Spec PyProof.Rows L2
variable {K : PySem.W.Frag}
theorem eq_div_of {h x k : Rat} (hz : h ≠ 0) (e : h * x = k) : x = k / h := by
  rw [← e, Rat.div_def, Rat.mul_comm h x, Rat.mul_assoc, Rat.mul_inv_cancel h hz, Rat.mul_one]
theorem rest_is (r h : Rat) (h0 : 0 < h) : Rat.divInt (r.num * r.num * h.den) ((r.den : Int) * r.den * h.num) = r * r / h := by
  refine eq_div_of (ne_of_pos h0) ?_
  have hn : h.num * h.den ≠ 0 := Int.ne_of_gt (Int.mul_pos (num_pos' h0) (den_pos h))
  have e : h * Rat.divInt (r.num * r.num * h.den) ((r.den : Int) * r.den * h.num) = Rat.divInt h.num h.den * Rat.divInt (r.num * r.num * h.den) ((r.den : Int) * r.den * h.num) := by rw [Rat.num_divInt_den]
  rw [e, Rat.divInt_mul_divInt, ← divInt_mul' r r]
  rw [show h.num * (r.num * r.num * h.den) = r.num * r.num * (h.num * h.den) by grind, show (h.den : Int) * ((r.den : Int) * r.den * h.num) = (r.den : Int) * r.den * (h.num * h.den) by grind]
  exact Rat.divInt_mul_right hn
theorem isi_web {K : PySem.W.Frag} {H : Hp} {Q : VK} {p C dx : Addr} {fs : List (Str × V)} (h : H p = some (.ins C dx fs)) (it : InsT K C) (q : Q (.bl true) H) : rIsi K [.ref p, .ref C] H Q :=
  ⟨_, _, _, _, _, rfl, .own _, .base (.ins h it.cl it.ha it.hn it.ht it.mo), kit_self, q⟩
theorem many_at (b : Bool) : ∃ z : Int, (z = 8 ∨ z = 16) ∧ atI [V.int 8, V.int 16] (if b = true then 1 else 0) = some (.int z) := by
  cases b
  · exact ⟨8, .inl rfl, rfl⟩
  · exact ⟨16, .inr rfl, rfl⟩
theorem sq_fw {K : PySem.W.Frag} {M c : Nat} {D C a : Addr} {H H' : Hp} {ns : List Int} (h : SqL K H a (ns.map V.int)) (d : Deck M D C H c) (f : Fw D H H') : SqL K H' a (ns.map V.int) := by
  obtain ⟨cells, pl, rest, cnt, h0, h1, h2⟩ := d
  rcases h with (h | ⟨o, h⟩) | h
  · exact .inl (.inl (f _ _ (ne_of h h1 (by
      intro z
      cases ns with
      | nil => cases z
      | cons x l => cases z)) h))
  · exact .inl (.inr ⟨o, f _ _ (ne_of h h1 (by intro z; cases z)) h⟩)
  · exact .inr h
/-- the script's list, beside a new list at S -/
def Kept (K : PySem.W.Frag) (S a : Addr) (ns : List Int) (H : Hp) : Prop := (a ≠ S ∧ SqL K H a (ns.map V.int)) ∨ SqL K (fun _ => none) a (ns.map V.int)
theorem Kept.sq {K : PySem.W.Frag} {S a : Addr} {ns : List Int} {H : Hp} (h : Kept K S a ns H) : SqL K H a (ns.map V.int) := by
  rcases h with h | h
  · exact h.2
  · exact Same.seq (fun _ _ h => by cases h) h
theorem kept_new {K : PySem.W.Frag} {S a : Addr} {ns : List Int} {H : Hp} {o : HO} (h : SqL K H a (ns.map V.int)) (n : H S = none) : Kept K S a ns (upd H S o) := by
  have h0 := (same_upd (o := o) n).seq h
  rcases h with (h | ⟨_, h⟩) | h
  · exact .inl ⟨ne_of_none h n, h0⟩
  · exact .inl ⟨ne_of_none h n, h0⟩
  · exact .inr (.inr h)
theorem Kept.fw {K : PySem.W.Frag} {M c : Nat} {D C S a : Addr} {ns : List Int} {H H' : Hp} (h : Kept K S a ns H) (d : Deck M D C H c) (f : Fw D H H') : Kept K S a ns H' :=
  h.imp (fun h => ⟨h.1, sq_fw h.2 d f⟩) id
theorem Kept.put {K : PySem.W.Frag} {S a : Addr} {ns : List Int} {H : Hp} {o : HO} (h : Kept K S a ns H) : Kept K S a ns (upd H S o) := by
  refine h.imp (fun ⟨n, h⟩ => ⟨n, ?_⟩) id
  rcases h with (h | ⟨_, h⟩) | h
  · exact .inl (.inl ((upd_ne n).trans h))
  · exact .inl (.inr ⟨_, (upd_ne n).trans h⟩)
  · exact .inr h
theorem Sts.snoc {H : Hp} {xs : List V} {ss : List Stl} {v : V} {s : Stl} (h : Sts K H xs ss) (hv : IsSt K H v s) : Sts K H (xs ++ [v]) (ss ++ [s]) := by
  unfold Sts at *
  induction h with
  | nil => exact .cons hv .nil
  | cons h t ih => exact .cons h ih
/-- tuples stand when only the deck changes -/
theorem Fw.ts {M c : Nat} {D C : Addr} {H H' : Hp} (f : Fw D H H') (d : Deck M D C H c) : Tps H H' := fun b xs h => by
  obtain ⟨cells, pl, rest, cnt, h0, h1, h2⟩ := d
  exact f _ _ (ne_of h h1 (by intro z; cases z)) h
theorem IsMv.fw {M c : Nat} {D C : Addr} {H H' : Hp} {v : V} {i wn : Nat} {y : Rat} (f : Fw D H H') (d : Deck M D C H c) (h : IsMv K H v i wn y) : IsMv K H' v i wn y := by
  obtain ⟨p, vx, e, h, a⟩ := h
  exact ⟨p, vx, e, f.ts d _ _ h, a.ts (f.ts d)⟩
theorem IsWeb.fw {M c n : Nat} {D C B : Addr} {H H' : Hp} {x : V} {ss : List Stl} (f : Fw D H H') (d : Deck M D C H c) (h : IsWeb K B H x n ss) : IsWeb K B H' x n ss := by
  obtain ⟨p, dx, t, xs, e, h1, h2, h3⟩ := h
  have d' := d
  obtain ⟨cells, pl, rest, cnt, g0, g1, g2⟩ := d'
  exact ⟨p, dx, t, xs, e, f _ _ (ne_of h1 g1 (by intro z; cases z)) h1, f.ts d _ _ h2, h3.ts (f.ts d)⟩
end My
namespace My
open PySem PySem.Spec PyProof.Rows L2
variable {K : PySem.W.Frag}
/-! ### things judged by the program -/
theorem fn_or {P : Program} {w : World} {mg : Str → Option Value} {base : Heap} {CX : CXT} {k : Nat} {f : Addr} {fd : FuncData} {ps : List Str} {sp sp' : Sp} (F : FnOk P w K mg base CX k f fd ps sp)
    (G : FnOk P w K mg base CX k f fd ps sp') : FnOk P w K mg base CX k f fd ps (fun vs H Q E => sp vs H Q E ∨ sp' vs H Q E) :=
  ⟨fun vs H Q E q => q.elim (F.len vs H Q E) (G.len vs H Q E), fun A outer s H args us vs Q E hr he hb hv hs => hs.elim (F.run A outer s H args us vs Q E hr he hb hv) (G.run A outer s H args us vs Q E hr he hb hv)⟩
/-- some amount -/
def sa (o : Option Rat) : Bool := match o with
  | some r => decide (0 < r)
  | none => false
def am (o : Option Rat) : Bool := match o with
  | some r => decide (0 ≤ r)
  | none => false
theorem sa_am {o : Option Rat} (h : sa o = true) : am o = true := by
  cases o with
  | none => exact h
  | some r => exact decide_eq_true (Rat.le_of_lt (of_decide_eq_true h))
theorem am_some {o : Option Rat} (h : am o = true) : ∃ r, o = some r ∧ 0 ≤ r := by
  match o, h with
  | some r, h => exact ⟨r, rfl, of_decide_eq_true h⟩
theorem JF.isF {D : Addr} {H : Hp} {v : V} {r : Rat} (j : JF K D H v (some r)) : IsF K H v r ∧ Bd 40 r := by
  rcases j with ⟨r2, h, b, e⟩ | ⟨_, e⟩
  · cases e
    exact ⟨h, b⟩
  · cases e
theorem JF.same {D : Addr} {H H' : Hp} {v : V} {o : Option Rat} (j : JF K D H v o) (s : Same H H') : JF K D H' v o := by
  rcases j with ⟨r, h, b, e⟩ | ⟨h, e⟩
  · exact .inl ⟨r, h.same s, b, e⟩
  · exact .inr ⟨h.fw (Same.fw s), e⟩
theorem JF.fw {M c : Nat} {D C : Addr} {H H' : Hp} {v : V} {o : Option Rat} (j : JF K D H v o) (dk : Deck M D C H c) (f : Fw D H H') : JF K D H' v o := by
  rcases j with ⟨r, h, b, e⟩ | ⟨h, e⟩
  · exact .inl ⟨r, h.fw dk f, b, e⟩
  · exact .inr ⟨h.fw f, e⟩
theorem jf_pair {D p : Addr} {H : Hp} {i j : Int} (n : p ≠ D) (h : H p = some (.tup [.int i, .int j])) (hi : i.natAbs < 2 ^ 40) (hj : j.natAbs < 2 ^ 40) :
    JF K D H (.ref p) (if 0 < j ∧ Nat.gcd i.natAbs j.natAbs = 1 then some (Rat.divInt i j) else none) := by
  by_cases z : 0 < j ∧ Nat.gcd i.natAbs j.natAbs = 1
  · rw [if_pos z]
    obtain ⟨z1, z2⟩ := z
    have ej : ((j.natAbs : Nat) : Int) = j := by omega
    obtain ⟨r1, r2⟩ := rat_of (n := i) (d := j.natAbs) (r := Rat.divInt i j) (by omega) z2 (by rw [ej])
    refine .inl ⟨Rat.divInt i j, ⟨p, rfl, .inl ?_⟩, Bd.divInt (by omega) hi hj, rfl⟩
    show H p = some (.tup [.int (Rat.divInt i j).num, .int (Rat.divInt i j).den])
    rw [r1, r2, ej]
    exact h
  · rw [if_neg z]
    exact .inr ⟨.low n h z (Nat.lt_of_lt_of_le hj (pow_le (by decide))), rfl⟩
/-- a thing with the word whether it is a tuple of so many amounts above 0 -/
inductive JS (K : PySem.W.Frag) (D : Addr) (H : Hp) (n : Nat) : V → Bool → Prop where
  | int (i : Int) : JS K D H n (.int i) false
  | other {v : V} (o : Od K D H v) (h : ∀ p xs, v = .ref p → H p ≠ some (.tup xs)) : JS K D H n v false
  | tup {p : Addr} {xs : List V} {os : List (Option Rat)} (np : p ≠ D) (h : H p = some (.tup xs)) (j : Paired (JF K D H) xs os) (l : xs.length ≤ 20) : JS K D H n (.ref p) (decide (xs.length = n) && os.all sa)
theorem JS.same {D : Addr} {H H' : Hp} {n : Nat} {v : V} {b : Bool} (j : JS K D H n v b) (s : Same H H') : JS K D H' n v b := by
  cases j with
  | int i => exact .int i
  | other o h =>
    refine .other (o.fw (Same.fw s)) fun p xs e z => ?_
    subst e
    cases o with
    | lst n h3 =>
      rw [s _ _ h3] at z
      cases z
    | tup n h3 => exact h _ _ rfl h3
    | dK n h3 =>
      rw [s _ _ h3] at z
      cases z
    | ins n h3 c =>
      rw [s _ _ h3] at z
      cases z
  | tup np h j l => exact .tup np (s _ _ h) (Paired.mapP j fun _ _ h => h.same s) l
section
variable {P : Program} {w : World} {K : PySem.W.Frag} {mg : Str → Option Value} {base : Heap} {f_is_integer f_is_row f_is_fraction f_is_some f_multiplied f_squared f_is_stall f_l_deck f_l_pick f_l_divisor f_l_made f_l_amount f_l_stall f_l_stalls f_l_deep f_l_odd f_l_changed f_l_is_some f_l_is_ware f_l_is_stall f_l_due f_l_answer f_l_is_told f_law f_BadStall_init f_Web_init f_Web_eq c_BadWares c_BadStall c_Web : Addr} {d_is_integer d_is_row d_is_fraction d_is_some d_multiplied d_squared d_is_stall d_l_deck d_l_pick d_l_divisor d_l_made d_l_amount d_l_stall d_l_stalls d_l_deep d_l_odd d_l_changed d_l_is_some d_l_is_ware d_l_is_stall d_l_due d_l_answer d_l_is_told d_law d_BadStall_init d_Web_init d_Web_eq : FuncData}
def sp_isiJ (K : PySem.W.Frag) : Sp := fun vs H Q _ => ∃ v b, vs = [v] ∧ ((∃ i : Int, v = .int i) ∧ b = true ∨ (∃ D, Od K D H v) ∧ b = false) ∧ Q (.bl b) H
theorem ok_is_integerJ (T : Txt K mg f_is_integer f_is_row f_is_fraction f_is_some f_multiplied f_squared f_is_stall f_l_deck f_l_pick f_l_divisor f_l_made f_l_amount f_l_stall f_l_stalls f_l_deep f_l_odd f_l_changed f_l_is_some f_l_is_ware f_l_is_stall f_l_due f_l_answer f_l_is_told f_law f_BadStall_init f_Web_init f_Web_eq c_BadWares c_BadStall c_Web d_is_integer d_is_row d_is_fraction d_is_some d_multiplied d_squared d_is_stall d_l_deck d_l_pick d_l_divisor d_l_made d_l_amount d_l_stall d_l_stalls d_l_deep d_l_odd d_l_changed d_l_is_some d_l_is_ware d_l_is_stall d_l_due d_l_answer d_l_is_told d_law d_BadStall_init d_Web_init d_Web_eq) : FnOk P w K mg base CX0 1 f_is_integer d_is_integer ["thing"] (sp_isiJ K) := by
  refine T.F_is_integer.ok sc_is_integer (fun vs H Q E h => ?_) (fun cdv A outer s H vs Q E hr h => ?_)
  · obtain ⟨v, b, rfl, _⟩ := h
    rfl
  · obtain ⟨v, b, rfl, h, q⟩ := h
    refine ⟨_, (pss_one (ps_ret (pe_and (pe_callB call_isi (by rfl) T.z_isinstance (by decide +kernel) (pa_cons (pv 0) (pa_cons (pe_bltn (v := .ty "int") (u := .type "int") (by rfl) T.z_int (by decide +kernel) rfl) pa_nil))) (pe_one (pe_not (pe_callB call_isi (by rfl) T.z_isinstance (by decide +kernel) (pa_cons (pv 0) (pa_cons (pe_bltn (v := .ty "bool") (u := .type "bool") (by rfl) T.z_bool (by decide +kernel) rfl) pa_nil)))))))), ?_⟩
    rcases h with ⟨⟨i, rfl⟩, rfl⟩ | ⟨⟨D, o⟩, rfl⟩
    · walk_at "r"
      exact q
    · obtain ⟨b1, b2, b3, hb, h1, h2, -⟩ := o.isi
      walk_at "r"
      refine h1 _ ?_
      cases b1 with
      | false =>
        walk_at "r"
        exact q
      | true =>
        have e : b2 = true := by
          cases b2
          · cases hb
          · rfl
        subst e
        walk_at "r"
        refine h2 _ ?_
        walk_at "r"
        exact q
def sp_isfJ (K : PySem.W.Frag) : Sp := fun vs H Q _ => ∃ v D o, vs = [v] ∧ JF K D H v o ∧ Q (.bl o.isSome) H
theorem ok_is_fractionJ (T : Txt K mg f_is_integer f_is_row f_is_fraction f_is_some f_multiplied f_squared f_is_stall f_l_deck f_l_pick f_l_divisor f_l_made f_l_amount f_l_stall f_l_stalls f_l_deep f_l_odd f_l_changed f_l_is_some f_l_is_ware f_l_is_stall f_l_due f_l_answer f_l_is_told f_law f_BadStall_init f_Web_init f_Web_eq c_BadWares c_BadStall c_Web d_is_integer d_is_row d_is_fraction d_is_some d_multiplied d_squared d_is_stall d_l_deck d_l_pick d_l_divisor d_l_made d_l_amount d_l_stall d_l_stalls d_l_deep d_l_odd d_l_changed d_l_is_some d_l_is_ware d_l_is_stall d_l_due d_l_answer d_l_is_told d_law d_BadStall_init d_Web_init d_Web_eq) : FnOk P w K mg base CX0 2 f_is_fraction d_is_fraction ["thing"] (sp_isfJ K) := by
  have G_is_integer : FnOk P w K mg base CX0 1 f_is_integer d_is_integer ["thing"] (sp_isiJ K) := ok_is_integerJ T
  refine T.F_is_fraction.ok sc_is_fraction (fun vs H Q E h => ?_) (fun cdv A outer s H vs Q E hr h => ?_)
  · obtain ⟨v, D, o, rfl, _⟩ := h
    rfl
  · obtain ⟨v, D, o, rfl, j, q⟩ := h
    refine ⟨_, (pss_cons (ps_if (PW.pt (pw_or (pt_not (pt_val (pe_callB call_isi (by rfl) T.z_isinstance (by decide +kernel) (pa_cons (pv 0) (pa_cons (pe_bltn (v := .ty "tuple") (u := .type "tuple") (by rfl) T.z_tuple (by decide +kernel) rfl) pa_nil))))) (pw_or1 (pt_cmpR op_ne (pe_callB call_lenN (by rfl) T.z_len (by decide +kernel) (pa_cons (pv 0) pa_nil)) pe_int (nomark _)))))
        (pss_one (ps_ret pe_bl))
        pss_nil)
      (pss_cons (ps_asg (pv 0) (pg_tup rfl (pgs_cons (pg_name (i := 1) sc_is_fraction.nd rfl (by first | exact Or.inl rfl | exact Or.inr rfl)) (pgs_cons (pg_name (i := 2) sc_is_fraction.nd rfl (by first | exact Or.inl rfl | exact Or.inr rfl)) pgs_nil))))
      (pss_cons (ps_if (PW.pt (pw_or (pt_not (pt_val (pe_call G_is_integer (hr.mono (by decide)) (by rfl) T.g_is_integer T.k_is_integer T.b_is_integer .nil pass0 (pa_cons (pv 1) pa_nil)))) (pw_or1 (pt_not (pt_val (pe_call G_is_integer (hr.mono (by decide)) (by rfl) T.g_is_integer T.k_is_integer T.b_is_integer .nil pass0 (pa_cons (pv 2) pa_nil)))))))
        (pss_one (ps_ret pe_bl))
        pss_nil)
      (pss_one (ps_ret (pe_and (pe_cmpR op_ge (pv 2) pe_int (nomark _)) (pe_one (pe_cmpR op_eq (pe_callBfun cr_gcd (by rfl) T.m_gcd (pa_cons (pv 1) (pa_cons (pv 2) pa_nil))) pe_int (nomark _))))))))), ?_⟩
    rcases j with ⟨r, ⟨p, rfl, hp⟩, bd, rfl⟩ | ⟨nf, rfl⟩
    · walk_at "r"
      refine ⟨_, _, rfl, .inl ⟨⟨_, rfl⟩, rfl⟩, ?_⟩
      walk_at "r"
      refine ⟨_, _, rfl, .inl ⟨⟨_, rfl⟩, rfl⟩, ?_⟩
      walk_at "r"
      have h1 := den_pos r
      have h2 := gcd_den r
      walk_at "r"
      rw [Int.natAbs_natCast, h2]
      exact q
    · cases nf with
      | int i =>
        walk_at "r"
        exact q
      | not o h =>
        obtain ⟨b1, b2, b3, hb, -, -, h3, ht⟩ := o.isi
        walk_at "r"
        refine h3 _ ?_
        cases b3 with
        | false =>
          walk_at "r"
          exact q
        | true =>
          obtain ⟨p, xs, rfl, np, hp⟩ := ht rfl
          have hl : ¬ ((xs.length : Int) = 2) := by
            have := h p xs rfl hp
            omega
          walk_at "r"
          exact q
      | fst n h o =>
        walk_at "r"
        refine ⟨_, _, rfl, .inr ⟨⟨_, o⟩, rfl⟩, ?_⟩
        walk_at "r"
        exact q
      | snd n h o =>
        walk_at "r"
        refine ⟨_, _, rfl, .inl ⟨⟨_, rfl⟩, rfl⟩, ?_⟩
        walk_at "r"
        refine ⟨_, _, rfl, .inr ⟨⟨_, o⟩, rfl⟩, ?_⟩
        walk_at "r"
        exact q
      | @low p i j n h z b =>
        walk_at "r"
        refine ⟨_, _, rfl, .inl ⟨⟨_, rfl⟩, rfl⟩, ?_⟩
        walk_at "r"
        refine ⟨_, _, rfl, .inl ⟨⟨_, rfl⟩, rfl⟩, ?_⟩
        walk_at "r"
        walk_at "if"
        · rename_i h0
          walk_at "r"
          have h1 : ¬ (((Nat.gcd i.natAbs j.natAbs : Nat) : Int) = 1) := fun e => z ⟨by omega, by omega⟩
          rw [decide_eq_false h1]
          exact q
        · walk_at "r"
          exact q
def sp_isaJ (K : PySem.W.Frag) : Sp := fun vs H Q _ => ∃ v D o, vs = [v] ∧ JF K D H v o ∧ Q (.bl (am o)) H
def sp_are_amountsJ (K : PySem.W.Frag) : Sp := fun vs H Q _ => ∃ (p D : Addr) (n : Nat) (xs : List V) (os : List (Option Rat)), vs = [.ref p, .int (n : Nat)] ∧ Sq K H p xs ∧ Paired (JF K D H) xs os ∧ xs.length ≤ 20 ∧ ∀ H', Same H H' → Q (.bl (decide (xs.length = n) && os.all am)) H'
def sp_are_someJ (K : PySem.W.Frag) : Sp := fun vs H Q _ => ∃ (x : V) (D : Addr) (n : Nat) (b : Bool), vs = [x, .int (n : Nat)] ∧ JS K D H n x b ∧ ∀ H', Same H H' → Q (.bl b) H'
end
end My
namespace My
open PySem PySem.Spec PyProof.Rows L2
variable {K : PySem.W.Frag}
/-! ### things judged as moves -/
def JI (K : PySem.W.Frag) (D : Addr) (H : Hp) (v : V) (o : Option Int) : Prop := (∃ i, v = .int i ∧ o = some i) ∨ (Od K D H v ∧ o = none)
theorem JI.fw {D : Addr} {H H' : Hp} {v : V} {o : Option Int} (j : JI K D H v o) (f : Fw D H H') : JI K D H' v o := j.imp id fun ⟨h, e⟩ => ⟨h.fw f, e⟩
theorem JI.isi {D : Addr} {H : Hp} {v : V} {o : Option Int} (j : JI K D H v o) : ∃ b, ((∃ i : Int, v = .int i) ∧ b = true ∨ (∃ D, Od K D H v) ∧ b = false) ∧ b = o.isSome := by
  rcases j with ⟨i, rfl, rfl⟩ | ⟨h, rfl⟩
  · exact ⟨true, .inl ⟨⟨i, rfl⟩, rfl⟩, rfl⟩
  · exact ⟨false, .inr ⟨⟨D, h⟩, rfl⟩, rfl⟩
abbrev Jm := Option (Option Int × Option Int × Option Rat)
def JM (K : PySem.W.Frag) (D : Addr) (H : Hp) (v : V) (t : Jm) : Prop :=
  (∃ p x y z a b r, v = .ref p ∧ p ≠ D ∧ H p = some (.tup [x, y, z]) ∧ JI K D H x a ∧ JI K D H y b ∧ JF K D H z r ∧ t = some (a, b, r)) ∨
  (((∃ i, v = .int i) ∨ Od K D H v ∧ ∀ p xs, v = .ref p → H p = some (.tup xs) → xs.length ≠ 3) ∧ t = none)
theorem JM.fw {M c : Nat} {D C : Addr} {H H' : Hp} {v : V} {t : Jm} (j : JM K D H v t) (dk : Deck M D C H c) (f : Fw D H H') : JM K D H' v t := by
  rcases j with ⟨p, x, y, z, a, b, r, e, n, h, h1, h2, h3, e2⟩ | ⟨i | ⟨o, h⟩, e⟩
  · exact .inl ⟨p, x, y, z, a, b, r, e, n, f _ _ n h, h1.fw f, h2.fw f, h3.fw dk f, e2⟩
  · exact .inr ⟨.inl i, e⟩
  · refine .inr ⟨.inr ⟨o.fw f, fun p xs e z => ?_⟩, e⟩
    subst e
    cases o with
    | lst n h3 =>
      rw [f _ _ n h3] at z
      cases z
    | tup n h3 =>
      rw [f _ _ n h3] at z
      cases z
      exact h _ _ rfl h3
    | dK n h3 =>
      rw [f _ _ n h3] at z
      cases z
    | ins n h3 c =>
      rw [f _ _ n h3] at z
      cases z
def ixOk (m : Nat) : Option Int → Bool
  | some i => decide (0 ≤ i) && decide (i < (m : Nat))
  | none => false
def wrOk (ss : List Stl) (i w : Int) : Bool := match ss[i.toNat]? with
  | some s => decide (w = (s.u : Nat)) || decide (w = (s.v : Nat))
  | none => false
def mvOk (ss : List Stl) : Jm → Bool
  | some (some i, some w, r) => ixOk ss.length (some i) && (wrOk ss i w && sa r)
  | _ => false
section
variable {P : Program} {w : World} {K : PySem.W.Frag} {mg : Str → Option Value} {base : Heap} {f_is_integer f_is_row f_is_fraction f_is_some f_multiplied f_squared f_is_stall f_l_deck f_l_pick f_l_divisor f_l_made f_l_amount f_l_stall f_l_stalls f_l_deep f_l_odd f_l_changed f_l_is_some f_l_is_ware f_l_is_stall f_l_due f_l_answer f_l_is_told f_law f_BadStall_init f_Web_init f_Web_eq c_BadWares c_BadStall c_Web : Addr} {d_is_integer d_is_row d_is_fraction d_is_some d_multiplied d_squared d_is_stall d_l_deck d_l_pick d_l_divisor d_l_made d_l_amount d_l_stall d_l_stalls d_l_deep d_l_odd d_l_changed d_l_is_some d_l_is_ware d_l_is_stall d_l_due d_l_answer d_l_is_told d_law d_BadStall_init d_Web_init d_Web_eq : FuncData}
def sp_issJ (K : PySem.W.Frag) : Sp := fun vs H Q _ => ∃ v D o, vs = [v] ∧ JF K D H v o ∧ Q (.bl (sa o)) H
theorem ok_is_someJ (T : Txt K mg f_is_integer f_is_row f_is_fraction f_is_some f_multiplied f_squared f_is_stall f_l_deck f_l_pick f_l_divisor f_l_made f_l_amount f_l_stall f_l_stalls f_l_deep f_l_odd f_l_changed f_l_is_some f_l_is_ware f_l_is_stall f_l_due f_l_answer f_l_is_told f_law f_BadStall_init f_Web_init f_Web_eq c_BadWares c_BadStall c_Web d_is_integer d_is_row d_is_fraction d_is_some d_multiplied d_squared d_is_stall d_l_deck d_l_pick d_l_divisor d_l_made d_l_amount d_l_stall d_l_stalls d_l_deep d_l_odd d_l_changed d_l_is_some d_l_is_ware d_l_is_stall d_l_due d_l_answer d_l_is_told d_law d_BadStall_init d_Web_init d_Web_eq) : FnOk P w K mg base CX0 3 f_is_some d_is_some ["thing"] (sp_issJ K) := by
  have G_is_fraction : FnOk P w K mg base CX0 2 f_is_fraction d_is_fraction ["thing"] (sp_isfJ K) := ok_is_fractionJ T
  refine T.F_is_some.ok sc_is_some (fun vs H Q E h => ?_) (fun cdv A outer s H vs Q E hr h => ?_)
  · obtain ⟨v, D, o, rfl, _⟩ := h
    rfl
  · obtain ⟨v, D, o, rfl, j, q⟩ := h
    refine ⟨_, (pss_one (ps_ret (pe_and (pe_call G_is_fraction (hr.mono (by decide)) (by rfl) T.g_is_fraction T.k_is_fraction T.b_is_fraction .nil pass0 (pa_cons (pv 0) pa_nil)) (pe_one (pe_cmpR op_gt (pe_ix ix_tup (pv 0) pe_int (fun _ _ => rfl)) pe_int (nomark _)))))), ?_⟩
    walk_at "r"
    refine ⟨_, _, _, rfl, j, ?_⟩
    cases o with
    | none =>
      rw [Option.isSome_none]
      walk_at "r"
      exact q
    | some r =>
      rw [Option.isSome_some]
      obtain ⟨h, b⟩ := j.isF
      obtain ⟨p, rfl, hp⟩ := id h
      walk_at "r"
      rw [show decide (r.num > 0) = sa (some r) from ?_]
      · exact q
      · show decide (r.num > 0) = decide (0 < r)
        rw [Bool.eq_iff_iff, decide_eq_true_eq, decide_eq_true_eq, Rat.lt_iff]
        simp
def sp_is_indexJ (K : PySem.W.Frag) (C : Addr) : Sp := fun vs H Q _ => ∃ (x y : V) (D : Addr) (n : Nat) (ss : List Stl) (o : Option Int), vs = [x, y] ∧ IsWeb K C H x n ss ∧ JI K D H y o ∧ Q (.bl (ixOk ss.length o)) H
def sp_is_moveJ (K : PySem.W.Frag) (C : Addr) : Sp := fun vs H Q _ => ∃ (x y : V) (D : Addr) (n : Nat) (ss : List Stl) (t : Jm), vs = [x, y] ∧ IsWeb K C H x n ss ∧ JM K D H y t ∧ ∀ H', Same H H' → Q (.bl (mvOk ss t)) H'
end
end My
namespace My
open PySem PySem.Spec PyProof.Rows L2
theorem cut_take (xs : List V) (i : Nat) : cutV xs none (some (i : Int)) = xs.take i := by
  unfold cutV
  rw [HT.sIx_none, HT.sIx_nat]
  by_cases h : i ≤ xs.length
  · simp [Nat.min_eq_left h]
  · rw [Nat.min_eq_right (by omega), List.take_of_length_le (show xs.length ≤ i by omega)]
    simp
theorem cut_drop (xs : List V) (i : Nat) : cutV xs (some (i : Int)) none = xs.drop i := by
  unfold cutV
  rw [HT.sIx_none, HT.sIx_nat]
  by_cases h : i ≤ xs.length
  · rw [Nat.min_eq_left h]
    exact List.take_of_length_le (by simp)
  · rw [Nat.min_eq_right (by omega), List.drop_eq_nil_of_le (show xs.length ≤ i by omega)]
    simp
end My
namespace My
open PySem PySem.Spec PyProof.Rows L2
variable {K : PySem.W.Frag}
end My
namespace My
open PySem PySem.Spec PyProof.Rows L2
variable {K : PySem.W.Frag}
/-- a thing that may stand for an integer, for a fraction and for a move -/
def Oj (K : PySem.W.Frag) (D : Addr) (H : Hp) (v : V) : Prop := ∃ oi r t, JI K D H v oi ∧ JF K D H v r ∧ JM K D H v t
theorem Oj.fw {M c : Nat} {D C : Addr} {H H' : Hp} {v : V} (j : Oj K D H v) (dk : Deck M D C H c) (f : Fw D H H') : Oj K D H' v := by
  obtain ⟨oi, r, t, h1, h2, h3⟩ := j
  exact ⟨oi, r, t, h1.fw f, h2.fw dk f, h3.fw dk f⟩
theorem oj_int {D : Addr} {H : Hp} (i : Int) : Oj K D H (.int i) := ⟨some i, none, none, .inl ⟨i, rfl, rfl⟩, .inr ⟨.int i, rfl⟩, .inr ⟨.inl ⟨i, rfl⟩, rfl⟩⟩
theorem oj_od {D : Addr} {H : Hp} {v : V} (o : Od K D H v) (h : ∀ p xs, v = .ref p → H p = some (.tup xs) → xs.length ≠ 2 ∧ xs.length ≠ 3) : Oj K D H v :=
  ⟨none, none, none, .inr ⟨o, rfl⟩, .inr ⟨.not o fun p xs e z => (h p xs e z).1, rfl⟩, .inr ⟨.inr ⟨o, fun p xs e z => (h p xs e z).2⟩, rfl⟩⟩
theorem oj_pair {D p : Addr} {H : Hp} {i j : Int} (n : p ≠ D) (h : H p = some (.tup [.int i, .int j])) (hi : i.natAbs < 2 ^ 40) (hj : j.natAbs < 2 ^ 40) : Oj K D H (.ref p) :=
  ⟨none, _, none, .inr ⟨.tup n h, rfl⟩, jf_pair n h hi hj, .inr ⟨.inr ⟨.tup n h, fun q xs e z => by
    cases e
    rw [h] at z
    cases z
    exact (by decide : (2 : Nat) ≠ 3)⟩, rfl⟩⟩
theorem oj_pairB {D p : Addr} {H : Hp} {i : Int} {v : V} (n : p ≠ D) (h : H p = some (.tup [.int i, v])) (o : Od K D H v) : Oj K D H (.ref p) :=
  ⟨none, none, none, .inr ⟨.tup n h, rfl⟩, .inr ⟨.snd n h o, rfl⟩, .inr ⟨.inr ⟨.tup n h, fun q xs e z => by
    cases e
    rw [h] at z
    cases z
    exact (by decide : (2 : Nat) ≠ 3)⟩, rfl⟩⟩
theorem oj_three {D p : Addr} {H : Hp} {x y z : V} {a b : Option Int} {r : Option Rat} (n : p ≠ D) (h : H p = some (.tup [x, y, z])) (h1 : JI K D H x a) (h2 : JI K D H y b) (h3 : JF K D H z r) : Oj K D H (.ref p) :=
  ⟨none, none, some (a, b, r), .inr ⟨.tup n h, rfl⟩, .inr ⟨.not (.tup n h) fun q xs e z => by
    cases e
    rw [h] at z
    cases z
    exact (by decide : (3 : Nat) ≠ 2), rfl⟩, .inl ⟨p, x, y, z, a, b, r, rfl, n, h, h1, h2, h3, rfl⟩⟩
theorem oj_tup {D p : Addr} {H : Hp} {xs : List V} (n : p ≠ D) (h : H p = some (.tup xs)) (l : xs.length ≠ 2 ∧ xs.length ≠ 3) : Oj K D H (.ref p) := oj_od (.tup n h) fun q ys e z => by
  cases e
  rw [h] at z
  cases z
  exact l
theorem oj_lst {D p : Addr} {H : Hp} {xs : List V} (n : p ≠ D) (h : H p = some (.lst xs)) : Oj K D H (.ref p) := oj_od (.lst n h) fun q ys e z => by
  cases e
  rw [h] at z
  cases z
theorem oj_dK {D p : Addr} {H : Hp} {xs : List (Key × V)} (n : p ≠ D) (h : H p = some (.dK xs)) : Oj K D H (.ref p) := oj_od (.dK n h) fun q ys e z => by
  cases e
  rw [h] at z
  cases z
theorem oj_ins {D p C dx : Addr} {H : Hp} {fs : List (Str × V)} (n : p ≠ D) (h : H p = some (.ins C dx fs)) (c : InsT K C) : Oj K D H (.ref p) := oj_od (.ins n h c) fun q ys e z => by
  cases e
  rw [h] at z
  cases z
theorem oj_non {D : Addr} {H : Hp} : Oj K D H .non := oj_od .non fun q ys e z => by cases e
theorem oj_bl {D : Addr} {H : Hp} {b : Bool} : Oj K D H (.bl b) := oj_od (.bl b) fun q ys e z => by cases e
theorem oj_str {D : Addr} {H : Hp} {s : Str} : Oj K D H (.str s) := oj_od (.str s) fun q ys e z => by cases e
/-- things all of which are so -/
def Ojs (K : PySem.W.Frag) (D : Addr) (H : Hp) (us : List V) : Prop := ∀ v ∈ us, Oj K D H v
theorem Ojs.nil {D : Addr} {H : Hp} : Ojs K D H [] := fun v h => by cases h
theorem Ojs.app {D : Addr} {H : Hp} {us vs : List V} (h : Ojs K D H us) (g : Ojs K D H vs) : Ojs K D H (us ++ vs) := fun v m => (List.mem_append.mp m).elim (h v) (g v)
theorem Ojs.snoc {D : Addr} {H : Hp} {us : List V} {v : V} (h : Ojs K D H us) (g : Oj K D H v) : Ojs K D H (us ++ [v]) := h.app fun u m => by
  rw [List.mem_singleton.mp m]
  exact g
theorem Ojs.fw {M c : Nat} {D C : Addr} {H H' : Hp} {us : List V} (j : Ojs K D H us) (dk : Deck M D C H c) (f : Fw D H H') : Ojs K D H' us := fun v m => (j v m).fw dk f
theorem web_ne {M c n : Nat} {D Cd C p : Addr} {H : Hp} {ss : List Stl} (dk : Deck M D Cd H c) (h : IsWeb K C H (.ref p) n ss) : p ≠ D := by
  obtain ⟨_, dx, t, xs, e, hp, _⟩ := h
  cases e
  obtain ⟨cells, pl, rest, cnt, h0, h1, h2⟩ := dk
  exact ne_of hp h1 (by intro z; cases z)
theorem tup_ne {M c : Nat} {D Cd p : Addr} {H : Hp} {xs : List V} (dk : Deck M D Cd H c) (h : H p = some (.tup xs)) : p ≠ D := by
  obtain ⟨cells, pl, rest, cnt, h0, h1, h2⟩ := dk
  exact ne_of h h1 (by intro z; cases z)
theorem at_in {us : List V} {i : Int} {m : Nat} (hm : us.length = m) (h0 : 0 ≤ i) (h1 : i < (m : Nat)) : ∃ z, z ∈ us ∧ atI us i = some z := by
  obtain ⟨v, h1, h2⟩ := at_any (xs := us) h0 (by rw [hm]; exact h1)
  exact ⟨v, h1, h2⟩
end My
namespace My
open PySem PySem.Spec PyProof.Rows L2
variable {K : PySem.W.Frag}
/-- a fraction that stands in the heap itself -/
def IsH (H : Hp) (v : V) (r : Rat) : Prop := ∃ p, v = .ref p ∧ H p = some (.tup (frV r))
theorem IsH.isF {H : Hp} {v : V} {r : Rat} (h : IsH H v r) : IsF K H v r := by
  obtain ⟨p, e, h⟩ := h
  exact ⟨p, e, .inl h⟩
theorem isH_new {H : Hp} {p : Addr} {a b : Int} {r : Rat} (h1 : r.num = a) (h2 : (r.den : Int) = b) : IsH (upd H p (.tup [.int a, .int b])) (.ref p) r := by
  subst h1 h2
  exact ⟨p, rfl, upd_same⟩
theorem IsH.same {H H' : Hp} {v : V} {r : Rat} (h : IsH H v r) (s : Same H H') : IsH H' v r := by
  obtain ⟨p, e, h⟩ := h
  exact ⟨p, e, s _ _ h⟩
theorem IsH.fw {M c : Nat} {D C : Addr} {H H' : Hp} {v : V} {r : Rat} (h : IsH H v r) (dk : Deck M D C H c) (f : Fw D H H') : IsH H' v r := by
  obtain ⟨p, e, h⟩ := h
  exact ⟨p, e, f _ _ (tup_ne dk h) h⟩
theorem IsH.oj {M c : Nat} {D C : Addr} {H : Hp} {v : V} {r : Rat} (h : IsH H v r) (dk : Deck M D C H c) (b : Bd 20 r) : JI K D H v none ∧ JF K D H v (some r) ∧ Oj K D H v := by
  obtain ⟨p, rfl, h⟩ := h
  have n := tup_ne dk h
  have f : JF K D H (.ref p) (some r) := .inl ⟨r, ⟨p, rfl, .inl h⟩, b.mono (by decide), rfl⟩
  refine ⟨.inr ⟨.tup n h, rfl⟩, f, none, _, none, .inr ⟨.tup n h, rfl⟩, f, .inr ⟨.inr ⟨.tup n h, fun q xs e z => ?_⟩, rfl⟩⟩
  cases e
  rw [h] at z
  cases z
  exact (by decide : (2 : Nat) ≠ 3)
/-- things to be judged as moves -/
def Jms (K : PySem.W.Frag) (D : Addr) (H : Hp) (us : List V) : Prop := ∀ v ∈ us, ∃ t, JM K D H v t
theorem Jms.fw {M c : Nat} {D C : Addr} {H H' : Hp} {us : List V} (j : Jms K D H us) (dk : Deck M D C H c) (f : Fw D H H') : Jms K D H' us := fun v m => by
  obtain ⟨t, h⟩ := j v m
  exact ⟨t, h.fw dk f⟩
theorem Jms.snoc {D : Addr} {H : Hp} {us : List V} {v : V} (h : Jms K D H us) (g : ∃ t, JM K D H v t) : Jms K D H (us ++ [v]) := fun u m => (List.mem_append.mp m).elim (h u) fun m => by
  rw [List.mem_singleton.mp m]
  exact g
theorem Jms.app {D : Addr} {H : Hp} {us vs : List V} (h : Jms K D H us) (g : Jms K D H vs) : Jms K D H (us ++ vs) := fun u m => (List.mem_append.mp m).elim (h u) (g u)
theorem Jms.rep {D : Addr} {H : Hp} {us : List V} (h : Jms K D H us) (k : Nat) : Jms K D H (List.replicate k us).flatten := fun u m => by
  obtain ⟨l, hl, hu⟩ := List.mem_flatten.mp m
  rw [(List.mem_replicate.mp hl).2] at hu
  exact h u hu
theorem jm_lst {D p : Addr} {H : Hp} {xs : List V} (n : p ≠ D) (h : H p = some (.lst xs)) : ∃ t, JM K D H (.ref p) t := by
  obtain ⟨_, _, t, _, _, h⟩ := oj_lst (K := K) n h
  exact ⟨t, h⟩
theorem jm_tup {D p : Addr} {H : Hp} {xs : List V} (n : p ≠ D) (h : H p = some (.tup xs)) (l : xs.length ≠ 3) : ∃ t, JM K D H (.ref p) t := ⟨none, .inr ⟨.inr ⟨.tup n h, fun q ys e z => by
  cases e
  rw [h] at z
  cases z
  exact l⟩, rfl⟩⟩
theorem jm_three {D p : Addr} {H : Hp} {x y z : V} {a b : Option Int} {r : Option Rat} (n : p ≠ D) (h : H p = some (.tup [x, y, z])) (h1 : JI K D H x a) (h2 : JI K D H y b) (h3 : JF K D H z r) : ∃ t, JM K D H (.ref p) t := ⟨some (a, b, r), .inl ⟨p, x, y, z, a, b, r, rfl, n, h, h1, h2, h3, rfl⟩⟩
/-- a thing set at a place of a move -/
theorem set_three {x y z o : V} {i : Nat} (h : i < 3) : List.take i [x, y, z] ++ [o] ++ List.drop (i + 1) [x, y, z] = [if i = 0 then o else x, if i = 1 then o else y, if i = 2 then o else z] := by
  match i, h with
  | 0, _ => rfl
  | 1, _ => rfl
  | 2, _ => rfl
theorem rd_slA {H : Hp} {a : Addr} {xs : List V} {lo hi : Option Int} {Q : VK} (ha : H a = some (.tup xs)) (q : ∀ p H', Same H H' → H' p = some (.tup (cutV xs lo hi)) → Q (.ref p) H') : rSlA K (.ref a) lo hi H Q :=
  ⟨a, xs, rfl, .of ha, fun w => q a H (Same.refl _) (by
    have e : cutV xs lo hi = xs := by
      unfold cutV
      rw [w.1, w.2]
      simp
    rw [e]
    exact ha), fun _ p np => q p _ (same_upd np) upd_same⟩
section
variable {P : Program} {w : World} {K : PySem.W.Frag} {mg : Str → Option Value} {base : Heap} {f_is_integer f_is_row f_is_fraction f_is_some f_multiplied f_squared f_is_stall f_l_deck f_l_pick f_l_divisor f_l_made f_l_amount f_l_stall f_l_stalls f_l_deep f_l_odd f_l_changed f_l_is_some f_l_is_ware f_l_is_stall f_l_due f_l_answer f_l_is_told f_law f_BadStall_init f_Web_init f_Web_eq c_BadWares c_BadStall c_Web : Addr} {d_is_integer d_is_row d_is_fraction d_is_some d_multiplied d_squared d_is_stall d_l_deck d_l_pick d_l_divisor d_l_made d_l_amount d_l_stall d_l_stalls d_l_deep d_l_odd d_l_changed d_l_is_some d_l_is_ware d_l_is_stall d_l_due d_l_answer d_l_is_told d_law d_BadStall_init d_Web_init d_Web_eq : FuncData}
def sp_madeH : Sp := fun vs H Q _ => ∃ n d : Int, vs = [.int n, .int d] ∧ 0 < d ∧ d.natAbs < 2 ^ 8000 ∧ ∀ H' v, Same H H' → IsH H' v (Rat.divInt n d) → Q v H'
theorem ok_l_madeH (T : Txt K mg f_is_integer f_is_row f_is_fraction f_is_some f_multiplied f_squared f_is_stall f_l_deck f_l_pick f_l_divisor f_l_made f_l_amount f_l_stall f_l_stalls f_l_deep f_l_odd f_l_changed f_l_is_some f_l_is_ware f_l_is_stall f_l_due f_l_answer f_l_is_told f_law f_BadStall_init f_Web_init f_Web_eq c_BadWares c_BadStall c_Web d_is_integer d_is_row d_is_fraction d_is_some d_multiplied d_squared d_is_stall d_l_deck d_l_pick d_l_divisor d_l_made d_l_amount d_l_stall d_l_stalls d_l_deep d_l_odd d_l_changed d_l_is_some d_l_is_ware d_l_is_stall d_l_due d_l_answer d_l_is_told d_law d_BadStall_init d_Web_init d_Web_eq) : FnOk P w K mg base CX0 2 f_l_made d_l_made ["_law_top", "_law_bottom"] sp_madeH := by
  have G_l_divisor : FnOk P w K mg base CX0 1 f_l_divisor d_l_divisor ["_law_one", "_law_other"] sp_divisor := ok_l_divisor T
  refine T.F_l_made.ok sc_l_made (fun vs H Q E h => ?_) (fun cdv A outer s H vs Q E hr h => ?_)
  · obtain ⟨n, d, rfl, _⟩ := h
    rfl
  · obtain ⟨n, d, rfl, hd, hb, q⟩ := h
    refine ⟨_, (pss_cons (ps_set (i := 2) sc_l_made.nd rfl (by first | exact Or.inl rfl | exact Or.inr rfl) (pe_call G_l_divisor (hr.mono (by decide)) (by rfl) T.g_l_divisor T.k_l_divisor T.b_l_divisor .nil pass0 (pa_cons (pv 0) (pa_cons (pv 1) pa_nil))))
      (pss_one (ps_ret (pe_tup (pa_cons (pe_op op_fdivX (pv 0) (pv 2)) (pa_cons (pe_op op_fdivX (pv 1) (pv 2)) pa_nil)))))), ?_⟩
    walk_at "r"
    refine ⟨_, _, rfl, Nat.lt_of_lt_of_le hb (pow_le (by decide)), ?_⟩
    obtain ⟨m1, m2, m3⟩ := low_math (n := n) hd hb _ rfl
    walk_at "r"
    · intro p np
      exact q _ _ (same_upd np) (isH_new m2 m3)
    all_goals exact m1 _
end
end My
namespace My
open PySem PySem.Spec PyProof.Rows L2
variable {K : PySem.W.Frag}
theorem Paired.at {α : Type} {F : V → α → Prop} {xs : List V} {as : List α} (h : Paired F xs as) : ∀ {i : Nat} {x : V}, xs[i]? = some x → ∃ a, as[i]? = some a ∧ F x a := by
  induction h with
  | nil =>
    intro i x e
    simp at e
  | cons h t ih =>
    intro i x e
    match i with
    | 0 =>
      simp at e
      subst e
      exact ⟨_, rfl, h⟩
    | i + 1 => exact ih (by simpa using e)
/-! ### rows and deals of any things, judged -/
def NoSq (K : PySem.W.Frag) (D : Addr) (H : Hp) (v : V) : Prop := (∃ i : Int, v = .int i) ∨ Od K D H v ∧ ∀ p xs, v = .ref p → H p ≠ some (.lst xs) ∧ H p ≠ some (.tup xs)
theorem NoSq.fw {D : Addr} {H H' : Hp} {v : V} (o : NoSq K D H v) (f : Fw D H H') : NoSq K D H' v := by
  rcases o with i | ⟨o, h⟩
  · exact .inl i
  · refine .inr ⟨o.fw f, fun p xs e => ?_⟩
    subst e
    cases o with
    | lst n h3 => exact absurd h3 (h _ _ rfl).1
    | tup n h3 => exact absurd h3 (h _ _ rfl).2
    | dK n h3 =>
      rw [f _ _ n h3]
      exact ⟨(fun z => by cases z), (fun z => by cases z)⟩
    | ins n h3 c =>
      rw [f _ _ n h3]
      exact ⟨(fun z => by cases z), (fun z => by cases z)⟩
theorem nosq_isiT {D tp : Addr} {H : Hp} {v : V} {Q : VK} (o : NoSq K D H v) (ht : H tp = some (.tup [.ty "list", .ty "tuple"])) (q : Q (.bl false) H) : rIsiT K [v, .ref tp] H Q := by
  have two : ∀ {t : Value}, PySem.W.kitOne K t (.type "list") = some false → PySem.W.kitOne K t (.type "tuple") = some false → PySem.W.kitAny K t [.type "list", .type "tuple"] = some false := fun h1 h2 =>
    kitAny_cons (b := false) h1 (fun _ => kitAny_cons (b := false) h2 (fun _ => kitAny_nil) (fun z => Bool.noConfusion z)) (fun z => Bool.noConfusion z)
  have cs : Paired ClsV [V.ty "list", .ty "tuple"] [Value.type "list", .type "tuple"] := .cons (.ty _) (.cons (.ty _) .nil)
  rcases o with ⟨i, rfl⟩ | ⟨o, h⟩
  · exact ⟨_, _, _, _, _, false, rfl, ht, cs, .base (.int _), two (kit_ty (by decide +kernel)) (kit_ty (by decide +kernel)), q⟩
  · cases o with
    | non => exact ⟨_, _, _, _, _, false, rfl, ht, cs, .base .non, two (kit_ty (by decide +kernel)) (kit_ty (by decide +kernel)), q⟩
    | bl b => exact ⟨_, _, _, _, _, false, rfl, ht, cs, .base (.bl _), two (kit_ty (by decide +kernel)) (kit_ty (by decide +kernel)), q⟩
    | str s => exact ⟨_, _, _, _, _, false, rfl, ht, cs, .base (.str _), two (kit_ty (by decide +kernel)) (kit_ty (by decide +kernel)), q⟩
    | lst n h3 => exact absurd h3 (h _ _ rfl).1
    | tup n h3 => exact absurd h3 (h _ _ rfl).2
    | dK n h3 => exact ⟨_, _, _, _, _, false, rfl, ht, cs, .base (.dK h3), two (kit_ty (by decide +kernel)) (kit_ty (by decide +kernel)), q⟩
    | ins n h3 c => exact ⟨_, _, _, _, _, false, rfl, ht, cs, .base (.ins h3 c.cl c.ha c.hn c.ht c.mo), two c.kl c.kt, q⟩
theorem sq_isiT {L tp : Addr} {H : Hp} {xs : List V} {Q : VK} (h : H L = some (.lst xs) ∨ H L = some (.tup xs)) (ht : H tp = some (.tup [.ty "list", .ty "tuple"])) (q : Q (.bl true) H) : rIsiT K [.ref L, .ref tp] H Q := by
  have cs : Paired ClsV [V.ty "list", .ty "tuple"] [Value.type "list", .type "tuple"] := .cons (.ty _) (.cons (.ty _) .nil)
  rcases h with h | h
  · exact ⟨_, _, _, _, _, true, rfl, ht, cs, .base (.lst h), kitAny_cons (b := true) (kit_ty (by decide +kernel)) (fun z => Bool.noConfusion z) (fun _ => rfl), q⟩
  · exact ⟨_, _, _, _, _, true, rfl, ht, cs, .base (.tup h), kitAny_cons (b := false) (kit_ty (by decide +kernel)) (fun _ => kitAny_cons (b := true) (kit_ty (by decide +kernel)) (fun z => Bool.noConfusion z) (fun _ => rfl)) (fun z => Bool.noConfusion z), q⟩
def SqAt (H : Hp) (p : Addr) (xs : List V) : Prop := H p = some (.lst xs) ∨ H p = some (.tup xs)
theorem SqAt.fw {D p : Addr} {H H' : Hp} {xs : List V} (h : SqAt H p xs) (n : p ≠ D) (f : Fw D H H') : SqAt H' p xs := h.imp (f _ _ n) (f _ _ n)
theorem SqAt.same {p : Addr} {H H' : Hp} {xs : List V} (h : SqAt H p xs) (s : Same H H') : SqAt H' p xs := h.imp (s _ _) (s _ _)
theorem SqAt.sq {p : Addr} {H : Hp} {xs : List V} (h : SqAt H p xs) : Sq K H p xs := h.imp .of .of
theorem prd_mp {α β : Type} {R R' : α → β → Prop} (f : ∀ a b, R a b → R' a b) {l : List α} {m : List β} (h : Paired R l m) : Paired R' l m := by
  induction h with
  | nil => exact .nil
  | cons h t ih => exact .cons (f _ _ h) ih
def ovI : Option Int → V
  | none => .non
  | some i => .int i
theorem fn_calm {P : Program} {w : World} {mg : Str → Option Value} {base : Heap} {CX : CXT} {k : Nat} {f : Addr} {fd : FuncData} {ps : List Str} {sp : Sp} (F : FnOk P w K mg base CX0 k f fd ps sp) : FnOk P w K mg base CX k f fd ps sp :=
  ⟨F.len, fun A outer s H args us vs Q E hr he hb hv hs => codeAny_mono (F.run A outer s H args us vs Q E hr he hb hv hs) fun r s' h => by
    unfold CR at h ⊢
    split at h
    · exact h
    · exact h.elim
    · exact h.elim⟩
theorem rd_slLs {H : Hp} {Q : VK} {a : Addr} {xs : List V} {lo hi : Option Int} (h : H a = some (.lst xs)) (q : ∀ p H', H p = none → Same H H' → H' p = some (.lst (cutV xs lo hi)) → Q (.ref p) H') : rSlL K (.ref a) lo hi H Q := rd_slL (.of h) fun p np => q p _ np (same_upd np) upd_same
theorem rd_catn {H : Hp} {Q : VK} {a b : Addr} {xs ys : List V} (h1 : H a = some (.lst xs)) (h2 : H b = some (.lst ys)) (hl : xs.length + ys.length ≤ 1000) (q : ∀ p H', H p = none → Same H H' → H' p = some (.lst (xs ++ ys)) → Q (.ref p) H') : rCat (.ref a) (.ref b) H Q :=
  ⟨a, b, xs, ys, rfl, rfl, h1, h2, Nat.le_of_lt (small1000 hl), fun p np => q p _ np (same_upd np) upd_same⟩
theorem prd_take {α β : Type} {R : α → β → Prop} {xs : List α} {ys : List β} (h : Paired R xs ys) : ∀ i : Nat, Paired R (xs.take i) (ys.take i) := by
  induction h with
  | nil =>
    intro i
    rw [List.take_nil, List.take_nil]
    exact .nil
  | cons h t ih =>
    intro i
    cases i with
    | zero => exact .nil
    | succ i => exact .cons h (ih i)
theorem prd_drop {α β : Type} {R : α → β → Prop} {xs : List α} {ys : List β} (h : Paired R xs ys) : ∀ i : Nat, Paired R (xs.drop i) (ys.drop i) := by
  induction h with
  | nil =>
    intro i
    rw [List.drop_nil, List.drop_nil]
    exact .nil
  | cons h t ih =>
    intro i
    cases i with
    | zero => exact .cons h t
    | succ i => exact ih i
theorem prd_app {α β : Type} {R : α → β → Prop} {xs us : List α} {ys vs : List β} (h : Paired R xs ys) (g : Paired R us vs) : Paired R (xs ++ us) (ys ++ vs) := by
  induction h with
  | nil => exact g
  | cons h t ih => exact .cons h ih
theorem prd_imp {α β : Type} {R R' : α → β → Prop} (f : ∀ a b, R a b → R' a b) {l : List α} {m : List β} (h : Paired R l m) : Paired R' l m := by
  induction h with
  | nil => exact .nil
  | cons h t ih => exact .cons (f _ _ h) ih
theorem cut_drop1 (xs : List V) (i : Nat) : cutV xs (some ((i : Int) + 1)) none = xs.drop (i + 1) := cut_drop xs (i + 1)
/-- a list or a tuple of one thing -/
def B1 (D : Addr) (H : Hp) (v : V) : Prop := ∃ p x, v = .ref p ∧ p ≠ D ∧ SqAt H p [x]
def B2 (D : Addr) (H : Hp) (v : V) : Prop := ∃ p x, v = .ref p ∧ p ≠ D ∧ SqAt H p [x] ∧ B1 D H x
theorem B1.fw {D : Addr} {H H' : Hp} {v : V} (b : B1 D H v) (f : Fw D H H') : B1 D H' v := by
  obtain ⟨p, x, e, n, h⟩ := b
  exact ⟨p, x, e, n, h.fw n f⟩
theorem B2.fw {D : Addr} {H H' : Hp} {v : V} (b : B2 D H v) (f : Fw D H H') : B2 D H' v := by
  obtain ⟨p, x, e, n, h, g⟩ := b
  exact ⟨p, x, e, n, h.fw n f, g.fw f⟩
theorem B1.oj {D : Addr} {H : Hp} {v : V} (b : B1 D H v) : Oj K D H v := by
  obtain ⟨p, x, rfl, n, h | h⟩ := b
  · exact oj_lst n h
  · exact oj_tup n h ⟨(by decide : (1 : Nat) ≠ 2), (by decide : (1 : Nat) ≠ 3)⟩
theorem paired_of {α : Type} {R : V → α → Prop} : ∀ {xs : List V}, (∀ x ∈ xs, ∃ a, R x a) → ∃ as, Paired R xs as
  | [], _ => ⟨[], .nil⟩
  | x :: xs, h => by
    obtain ⟨a, ha⟩ := h x (by simp)
    obtain ⟨as, has⟩ := paired_of (xs := xs) fun y hy => h y (by simp [hy])
    exact ⟨a :: as, .cons ha has⟩
section
variable {M c n : Nat} {D C p : Addr} {H H' : Hp} {ss : List Stl} {v : V} {xs : List V}
theorem nosq_ins {q C' dx : Addr} {fs : List (Str × V)} (np : q ≠ D) (h : H q = some (.ins C' dx fs)) (c : InsT K C') : NoSq K D H (.ref q) := .inr ⟨.ins np h c, fun r ys e => by
  cases e
  rw [h]
  exact ⟨(fun z => by cases z), (fun z => by cases z)⟩⟩
theorem nosq_dK {q : Addr} {kvs : List (Key × V)} (np : q ≠ D) (h : H q = some (.dK kvs)) : NoSq K D H (.ref q) := .inr ⟨.dK np h, fun r ys e => by
  cases e
  rw [h]
  exact ⟨(fun z => by cases z), (fun z => by cases z)⟩⟩
theorem nosq_non : NoSq K D H .non := .inr ⟨.non, fun r ys e => by cases e⟩
theorem nosq_bl {b : Bool} : NoSq K D H (.bl b) := .inr ⟨.bl b, fun r ys e => by cases e⟩
theorem nosq_str {s : Str} : NoSq K D H (.str s) := .inr ⟨.str s, fun r ys e => by cases e⟩
theorem nosq_int {i : Int} : NoSq K D H (.int i) := .inl ⟨i, rfl⟩
end
section
variable {P : Program} {w : World} {K : PySem.W.Frag} {mg : Str → Option Value} {base : Heap} {f_is_integer f_is_row f_is_fraction f_is_some f_multiplied f_squared f_is_stall f_l_deck f_l_pick f_l_divisor f_l_made f_l_amount f_l_stall f_l_stalls f_l_deep f_l_odd f_l_changed f_l_is_some f_l_is_ware f_l_is_stall f_l_due f_l_answer f_l_is_told f_law f_BadStall_init f_Web_init f_Web_eq c_BadWares c_BadStall c_Web : Addr} {d_is_integer d_is_row d_is_fraction d_is_some d_multiplied d_squared d_is_stall d_l_deck d_l_pick d_l_divisor d_l_made d_l_amount d_l_stall d_l_stalls d_l_deep d_l_odd d_l_changed d_l_is_some d_l_is_ware d_l_is_stall d_l_due d_l_answer d_l_is_told d_law d_BadStall_init d_Web_init d_Web_eq : FuncData}
def sp_is_rowN (K : PySem.W.Frag) : Sp := fun vs H Q _ => ∃ v D, vs = [v] ∧ NoSq K D H v ∧ ∀ H', Same H H' → Q (.bl false) H'
theorem ok_is_rowN (T : Txt K mg f_is_integer f_is_row f_is_fraction f_is_some f_multiplied f_squared f_is_stall f_l_deck f_l_pick f_l_divisor f_l_made f_l_amount f_l_stall f_l_stalls f_l_deep f_l_odd f_l_changed f_l_is_some f_l_is_ware f_l_is_stall f_l_due f_l_answer f_l_is_told f_law f_BadStall_init f_Web_init f_Web_eq c_BadWares c_BadStall c_Web d_is_integer d_is_row d_is_fraction d_is_some d_multiplied d_squared d_is_stall d_l_deck d_l_pick d_l_divisor d_l_made d_l_amount d_l_stall d_l_stalls d_l_deep d_l_odd d_l_changed d_l_is_some d_l_is_ware d_l_is_stall d_l_due d_l_answer d_l_is_told d_law d_BadStall_init d_Web_init d_Web_eq) : FnOk P w K mg base CX0 1 f_is_row d_is_row ["thing"] (sp_is_rowN K) := by
  refine T.F_is_row.ok sc_is_row (fun vs H Q E h => ?_) (fun cdv A outer s H vs Q E hr h => ?_)
  · obtain ⟨v, D, rfl, _⟩ := h
    rfl
  · obtain ⟨v, D, rfl, h, q⟩ := h
    refine ⟨_, (pss_one (ps_ret (pe_callB call_isiT (by rfl) T.z_isinstance (by decide +kernel) (pa_cons (pv 0) (pa_cons (pe_tup (pa_cons (pe_bltn (v := .ty "list") (u := .type "list") (by rfl) T.z_list (by decide +kernel) rfl) (pa_cons (pe_bltn (v := .ty "tuple") (u := .type "tuple") (by rfl) T.z_tuple (by decide +kernel) rfl) pa_nil))) pa_nil))))), ?_⟩
    walk_at "r"
    intro p np
    walk_at "r"
    exact nosq_isiT (h.fw (Same.fw (same_upd np))) upd_same (q _ (same_upd np))
def sp_ldeep2 (M : Nat) : Sp := fun vs H Q _ => ∃ (D C : Addr) (c : Nat), vs = [.ref D] ∧ Deck M D C H c ∧ c ≤ 2 ^ 39 ∧ ∀ H' v, Fw D H H' → Deck M D C H' (c + 3) → B2 D H' v → Q v H'
theorem ok_l_deep2 {M : Nat} (hM : 64 ≤ M) (hM2 : M ≤ 1048576) (T : Txt K mg f_is_integer f_is_row f_is_fraction f_is_some f_multiplied f_squared f_is_stall f_l_deck f_l_pick f_l_divisor f_l_made f_l_amount f_l_stall f_l_stalls f_l_deep f_l_odd f_l_changed f_l_is_some f_l_is_ware f_l_is_stall f_l_due f_l_answer f_l_is_told f_law f_BadStall_init f_Web_init f_Web_eq c_BadWares c_BadStall c_Web d_is_integer d_is_row d_is_fraction d_is_some d_multiplied d_squared d_is_stall d_l_deck d_l_pick d_l_divisor d_l_made d_l_amount d_l_stall d_l_stalls d_l_deep d_l_odd d_l_changed d_l_is_some d_l_is_ware d_l_is_stall d_l_due d_l_answer d_l_is_told d_law d_BadStall_init d_Web_init d_Web_eq) : FnOk P w K mg base CX0 2 f_l_deep d_l_deep ["_law_deck_here"] (sp_ldeep2 M) := by
  have G_l_pick : FnOk P w K mg base CX0 1 f_l_pick d_l_pick ["_law_deck_here", "_law_many"] (sp_pick M) := ok_pick hM hM2 T
  refine T.F_l_deep.ok sc_l_deep (fun vs H Q E h => ?_) (fun cdv A outer s H vs Q E hr h => ?_)
  · obtain ⟨D, C, c, rfl, _⟩ := h
    rfl
  · obtain ⟨D, C, c, rfl, dk, hc, q⟩ := h
    refine ⟨_, (pss_cons (ps_set (i := 1) sc_l_deep.nd rfl (by first | exact Or.inl rfl | exact Or.inr rfl) (pe_ix ix_list (pe_lst (pa_cons pe_non (pa_cons pe_int (pa_cons pe_str (pa_cons (pe_tup pa_nil) pa_nil))))) (pe_call G_l_pick (hr.mono (by decide)) (by rfl) T.g_l_pick T.k_l_pick T.b_l_pick .nil pass0 (pa_cons (pv 0) (pa_cons pe_int pa_nil))) (fun _ _ => rfl)))
      (pss_cons (ps_set (i := 2) sc_l_deep.nd rfl (by first | exact Or.inl rfl | exact Or.inr rfl) (pe_call G_l_pick (hr.mono (by decide)) (by rfl) T.g_l_pick T.k_l_pick T.b_l_pick .nil pass0 (pa_cons (pv 0) (pa_cons pe_int pa_nil))))
      (pss_cons (ps_for PassesOwn.never rfl (pi_range1 (by rfl) T.z_range (pa_cons (pe_op op_add pe_int (pe_call G_l_pick (hr.mono (by decide)) (by rfl) T.g_l_pick T.k_l_pick T.b_l_pick .nil pass0 (pa_cons (pv 0) (pa_cons pe_int pa_nil)))) pa_nil)) (pg_name (i := 3) sc_l_deep.nd rfl (by first | exact Or.inl rfl | exact Or.inr rfl))
        (pss_one (ps_if (pt_cmpR op_eq (pe_op op_mod (pe_callTy call_intN (by rfl) T.z_int (by decide +kernel) (pa_cons (pe_op op_add (pv 3) (pv 2)) pa_nil)) pe_int) pe_int (nomark _))
            (pss_one (ps_set (i := 1) sc_l_deep.nd rfl (by first | exact Or.inl rfl | exact Or.inr rfl) (pe_lst (pa_cons (pv 1) pa_nil))))
            (pss_one (ps_set (i := 1) sc_l_deep.nd rfl (by first | exact Or.inl rfl | exact Or.inr rfl) (pe_tup (pa_cons (pv 1) pa_nil)))))))
      (pss_one (ps_ret (pv 1)))))), ?_⟩
    walk_at "r"
    intro p np
    have s1 := same_upd (o := .tup []) np
    have k1 := dk.same s1
    generalize upd H p (.tup []) = H1 at *
    walk_at "r"
    intro l nl
    have s2 := same_upd (o := .lst [V.non, .int 0, .str "0", .ref p]) nl
    have hl : upd H1 l (.lst [V.non, .int 0, .str "0", .ref p]) l = some (.lst [V.non, .int 0, .str "0", .ref p]) := upd_same
    have lD := k1.ne nl
    have k2 := k1.same s2
    generalize upd H1 l (.lst [V.non, .int 0, .str "0", .ref p]) = H2 at *
    walk_at "r"
    refine ⟨D, C, _, _, rfl, ⟨by decide, by decide⟩, k2, by omega, fun H3 r3 w3 k3 a3 b3 => ?_⟩
    obtain ⟨z, ez⟩ : ∃ z, atI [V.non, .int 0, .str "0", .ref p] r3 = some z := by
      rcases (show r3 = 0 ∨ r3 = 1 ∨ r3 = 2 ∨ r3 = 3 by omega) with rfl | rfl | rfl | rfl
      · exact ⟨_, rfl⟩
      · exact ⟨_, rfl⟩
      · exact ⟨_, rfl⟩
      · exact ⟨_, rfl⟩
    refine rd_ixL (w3 _ _ lD hl) ez ?_
    walk_at "r"
    refine ⟨D, C, _, _, rfl, ⟨by decide, by decide⟩, k3, by omega, fun H4 r4 w4 k4 a4 b4 => ?_⟩
    walk_at "r"
    refine ⟨D, C, _, _, rfl, ⟨by decide, by decide⟩, k4, by omega, fun H5 r5 w5 k5 a5 b5 => ?_⟩
    have f5 := ((((Same.fw (D := D) s1).trans (Same.fw s2)).trans w3).trans w4).trans w5
    walk_at "r"
    refine ⟨by omega, by omega, ?_⟩
    refine for_range (lo := 0) (n := (20 + r5).toNat) (fun i σ H' => ∃ (v : V) (t3 : Option V), σ = [some (.ref D), some v, some (.int r4), t3] ∧ Fw D H5 H' ∧ Deck M D C H' (c + 3) ∧ (0 < i → B1 D H' v) ∧ (1 < i → B2 D H' v)) ?_ ?_ ?_
    · exact ⟨_, _, rfl, Fw.refl _ _, k5, fun h => absurd h (Nat.lt_irrefl 0), fun h => absurd h (Nat.not_lt_zero 1)⟩
    · rintro i σ H' hi ⟨v, t3, rfl, f, k, h1, h2⟩
      walk_at "r"
      walk_at "if"
      · walk_at "r"
        intro q1 nq
        have sq := same_upd (o := .lst [v]) nq
        have b : SqAt (upd H' q1 (.lst [v])) q1 [v] := .inl upd_same
        exact ⟨_, _, rfl, f.trans (Same.fw sq), k.same sq, fun _ => ⟨q1, v, rfl, k.ne nq, b⟩, fun h => ⟨q1, v, rfl, k.ne nq, b, (h1 (by omega)).fw (Same.fw sq)⟩⟩
      · walk_at "r"
        intro q1 nq
        have sq := same_upd (o := .tup [v]) nq
        have b : SqAt (upd H' q1 (.tup [v])) q1 [v] := .inr upd_same
        exact ⟨_, _, rfl, f.trans (Same.fw sq), k.same sq, fun _ => ⟨q1, v, rfl, k.ne nq, b⟩, fun h => ⟨q1, v, rfl, k.ne nq, b, (h1 (by omega)).fw (Same.fw sq)⟩⟩
    · rintro σ H' ⟨v, t3, rfl, f, k, h1, h2⟩
      walk_at "r"
      exact q _ _ (f5.trans f) k (h2 (by omega))
end
end My
namespace My
open PySem PySem.Spec PyProof.Rows L2
variable {K : PySem.W.Frag}
/-! ### things judged as stalls -/
abbrev P5 := Option Int × Option Rat
def JP (K : PySem.W.Frag) (D : Addr) (H : Hp) (v : V) (p : P5) : Prop := JI K D H v p.1 ∧ JF K D H v p.2
theorem JP.fw {M c : Nat} {D C : Addr} {H H' : Hp} {v : V} {p : P5} (j : JP K D H v p) (dk : Deck M D C H c) (f : Fw D H H') : JP K D H' v p := ⟨j.1.fw f, j.2.fw dk f⟩
theorem JP.same {D : Addr} {H H' : Hp} {v : V} {p : P5} (j : JP K D H v p) (s : Same H H') : JP K D H' v p := ⟨j.1.fw (Same.fw s), j.2.same s⟩
structure T5 where
  a : P5
  b : P5
  c : P5
  d : P5
  e : P5
def NT5 (K : PySem.W.Frag) (D : Addr) (H : Hp) (v : V) : Prop := (∃ i : Int, v = .int i) ∨ Od K D H v ∧ ∀ p xs, v = .ref p → H p = some (.tup xs) → xs.length ≠ 5
theorem NT5.fw {D : Addr} {H H' : Hp} {v : V} (o : NT5 K D H v) (f : Fw D H H') : NT5 K D H' v := by
  rcases o with i | ⟨o, h⟩
  · exact .inl i
  · refine .inr ⟨o.fw f, fun p xs e z => ?_⟩
    subst e
    cases o with
    | lst n h3 =>
      rw [f _ _ n h3] at z
      cases z
    | tup n h3 =>
      rw [f _ _ n h3] at z
      cases z
      exact h _ _ rfl h3
    | dK n h3 =>
      rw [f _ _ n h3] at z
      cases z
    | ins n h3 c =>
      rw [f _ _ n h3] at z
      cases z
def J5 (K : PySem.W.Frag) (D : Addr) (H : Hp) (v : V) (t : Option T5) : Prop :=
  (∃ p va vb vc vd ve t5, v = .ref p ∧ p ≠ D ∧ H p = some (.tup [va, vb, vc, vd, ve]) ∧ JP K D H va t5.a ∧ JP K D H vb t5.b ∧ JP K D H vc t5.c ∧ JP K D H vd t5.d ∧ JP K D H ve t5.e ∧ t = some t5) ∨ (NT5 K D H v ∧ t = none)
theorem J5.fw {M c : Nat} {D C : Addr} {H H' : Hp} {v : V} {t : Option T5} (j : J5 K D H v t) (dk : Deck M D C H c) (f : Fw D H H') : J5 K D H' v t := by
  rcases j with ⟨p, va, vb, vc, vd, ve, t5, e, n, h, h1, h2, h3, h4, h5, e2⟩ | ⟨o, e⟩
  · exact .inl ⟨p, va, vb, vc, vd, ve, t5, e, n, f _ _ n h, h1.fw dk f, h2.fw dk f, h3.fw dk f, h4.fw dk f, h5.fw dk f, e2⟩
  · exact .inr ⟨o.fw f, e⟩
theorem J5.same {D : Addr} {H H' : Hp} {v : V} {t : Option T5} (j : J5 K D H v t) (s : Same H H') : J5 K D H' v t := by
  rcases j with ⟨p, va, vb, vc, vd, ve, t5, e, n, h, h1, h2, h3, h4, h5, e2⟩ | ⟨o, e⟩
  · exact .inl ⟨p, va, vb, vc, vd, ve, t5, e, n, s _ _ h, h1.same s, h2.same s, h3.same s, h4.same s, h5.same s, e2⟩
  · exact .inr ⟨o.fw (Same.fw s), e⟩
theorem J5.noFl {D : Addr} {H : Hp} {v : V} {t : Option T5} (j : J5 K D H v t) : noFl v = true := by
  rcases j with ⟨p, va, vb, vc, vd, ve, t5, rfl, _⟩ | ⟨⟨i, rfl⟩ | ⟨o, _⟩, _⟩
  · rfl
  · rfl
  · cases o <;> rfl
def prodOk : Option Rat → Option Rat → Option Rat → Bool
  | some x, some y, some z => decide (x * y = z * z)
  | _, _, _ => false
def sOk (n : Nat) : Option T5 → Bool
  | some t => ixOk n t.a.1 && (ixOk n t.b.1 && (decide (t.a.1 ≠ t.b.1) && (sa t.c.2 && (sa t.d.2 && (sa t.e.2 && prodOk t.c.2 t.d.2 t.e.2)))))
  | none => false
theorem ix_some {n : Nat} {o : Option Int} (h : ixOk n o = true) : ∃ i : Nat, o = some (i : Int) ∧ i < n := by
  cases o with
  | none => cases h
  | some i =>
    have h : (decide (0 ≤ i) && decide (i < (n : Nat))) = true := h
    rw [Bool.and_eq_true, decide_eq_true_eq, decide_eq_true_eq] at h
    obtain ⟨j, rfl⟩ := Int.eq_ofNat_of_zero_le h.1
    exact ⟨j, rfl, by omega⟩
theorem sa_some {o : Option Rat} (h : sa o = true) : ∃ r, o = some r ∧ 0 < r := by
  match o, h with
  | some r, h => exact ⟨r, rfl, of_decide_eq_true h⟩
theorem ji_int {D : Addr} {H : Hp} {v : V} {i : Int} (j : JI K D H v (some i)) : v = .int i := by
  rcases j with ⟨_, h1, h2⟩ | ⟨_, h2⟩
  · cases h2
    exact h1
  · cases h2
/-- a thing that is judged right is a stall -/
theorem j5_ok {n : Nat} {D : Addr} {H : Hp} {v : V} {t : Option T5} (j : J5 K D H v t) (h : sOk n t = true) : ∃ s, IsSt K H v s ∧ OkSt n s ∧ BdSt 40 s := by
  rcases j with ⟨p, va, vb, vc, vd, ve, ⟨a, b, c, d, e⟩, rfl, np, hp, ja, jb, jc, jd, je, rfl⟩ | ⟨_, rfl⟩
  · unfold sOk at h
    simp only [Bool.and_eq_true] at h
    obtain ⟨h1, h2, h3, h4, h5, h6, h7⟩ := h
    obtain ⟨a1, a2⟩ := a
    obtain ⟨b1, b2⟩ := b
    obtain ⟨c1, c2⟩ := c
    obtain ⟨d1, d2⟩ := d
    obtain ⟨e1, e2⟩ := e
    obtain ⟨i, hi, i1⟩ := ix_some h1
    obtain ⟨k, hk, k1⟩ := ix_some h2
    obtain ⟨x, hx, x0⟩ := sa_some h4
    obtain ⟨y, hy, y0⟩ := sa_some h5
    obtain ⟨z, hz, z0⟩ := sa_some h6
    subst hi hk hx hy hz
    have ea := ji_int ja.1
    have eb := ji_int jb.1
    obtain ⟨fx, bx⟩ := jc.2.isF
    obtain ⟨fy, by'⟩ := jd.2.isF
    obtain ⟨fz, bz⟩ := je.2.isF
    subst ea eb
    refine ⟨⟨i, k, x, y, z⟩, ⟨p, vc, vd, ve, rfl, hp, fx, fy, fz⟩, ⟨i1, k1, fun e => ?_, x0, y0, z0, of_decide_eq_true h7⟩, ⟨bx, by', bz⟩⟩
    have e : i = k := e
    subst e
    exact absurd rfl (of_decide_eq_true h3)
  · cases h
/-- a row of stalls, judged: the place of the first bad one -/
def badF {α : Type} (f : α → Bool) : List α → Option Nat
  | [] => none
  | t :: ts => if f t = true then (badF f ts).map (· + 1) else some 0
theorem badF_at {α : Type} {f : α → Bool} : ∀ {ts : List α} {i : Nat} {t : α}, ts[i]? = some t → f t = false → (∀ (j : Nat) (u : α), j < i → ts[j]? = some u → f u = true) → badF f ts = some i
  | [], i, t, h, _, _ => by simp at h
  | u :: ts, 0, t, h, hb, _ => by
    have e : u = t := by simpa using h
    subst e
    unfold badF
    rw [hb, if_neg Bool.false_ne_true]
  | u :: ts, i + 1, t, h, hb, hp => by
    have h0 := hp 0 u (by omega) rfl
    unfold badF
    rw [h0, if_pos rfl, badF_at (i := i) (by simpa using h) hb fun j w hj hw => hp (j + 1) w (by omega) (by simpa using hw)]
    rfl
theorem badF_none {α : Type} {f : α → Bool} : ∀ {ts : List α}, (∀ (j : Nat) (u : α), ts[j]? = some u → f u = true) → badF f ts = none
  | [], _ => rfl
  | u :: ts, h => by
    have h0 := h 0 u rfl
    unfold badF
    rw [h0, if_pos rfl, badF_none fun j w hw => h (j + 1) w (by simpa using hw)]
    rfl
theorem badF_ok {α : Type} {f : α → Bool} : ∀ {ts : List α}, badF f ts = none → ∀ t ∈ ts, f t = true
  | [], h, t, ht => by cases ht
  | u :: ts, h, t, ht => by
    unfold badF at h
    by_cases c : f u = true
    · rw [if_pos c, Option.map_eq_none_iff] at h
      rcases List.mem_cons.mp ht with rfl | ht
      · exact c
      · exact badF_ok h t ht
    · rw [if_neg c] at h
      cases h
def flt5 (n : Nat) (ts : List (Option T5)) : Option Int := if 16 < ts.length then some (-1) else (badF (sOk n) ts).map (fun i : Nat => (i : Int))
def JSl (K : PySem.W.Frag) (D : Addr) (H : Hp) (n : Nat) (v : V) (o : Option Int) : Prop :=
  (∃ p xs ts, v = .ref p ∧ p ≠ D ∧ SqAt H p xs ∧ Paired (J5 K D H) xs ts ∧ xs.length ≤ 900 ∧ o = flt5 n ts) ∨ (NoSq K D H v ∧ o = some (-1))
theorem JSl.fw {M c n : Nat} {D C : Addr} {H H' : Hp} {v : V} {o : Option Int} (j : JSl K D H n v o) (dk : Deck M D C H c) (f : Fw D H H') : JSl K D H' n v o := by
  rcases j with ⟨p, xs, os, e, np, h, hj, l, e2⟩ | ⟨o, e⟩
  · exact .inl ⟨p, xs, os, e, np, h.fw np f, prd_mp (fun _ _ h => h.fw dk f) hj, l, e2⟩
  · exact .inr ⟨o.fw f, e⟩
theorem JSl.same {n : Nat} {D : Addr} {H H' : Hp} {v : V} {o : Option Int} (j : JSl K D H n v o) (s : Same H H') : JSl K D H' n v o := by
  rcases j with ⟨p, xs, os, e, np, h, hj, l, e2⟩ | ⟨o, e⟩
  · exact .inl ⟨p, xs, os, e, np, h.same s, prd_mp (fun _ _ h => h.same s) hj, l, e2⟩
  · exact .inr ⟨o.fw (Same.fw s), e⟩
theorem ix_eq (n : Nat) (i : Int) : ixOk n (some i) = (decide (0 ≤ i) && decide (i < (n : Nat))) := rfl
/-- a number of wares -/
def wOk : Option Int → Bool
  | some i => decide (1 ≤ i) && decide (i ≤ 8)
  | none => false
section
variable {P : Program} {w : World} {K : PySem.W.Frag} {mg : Str → Option Value} {base : Heap} {f_is_integer f_is_row f_is_fraction f_is_some f_multiplied f_squared f_is_stall f_l_deck f_l_pick f_l_divisor f_l_made f_l_amount f_l_stall f_l_stalls f_l_deep f_l_odd f_l_changed f_l_is_some f_l_is_ware f_l_is_stall f_l_due f_l_answer f_l_is_told f_law f_BadStall_init f_Web_init f_Web_eq c_BadWares c_BadStall c_Web : Addr} {d_is_integer d_is_row d_is_fraction d_is_some d_multiplied d_squared d_is_stall d_l_deck d_l_pick d_l_divisor d_l_made d_l_amount d_l_stall d_l_stalls d_l_deep d_l_odd d_l_changed d_l_is_some d_l_is_ware d_l_is_stall d_l_due d_l_answer d_l_is_told d_law d_BadStall_init d_Web_init d_Web_eq : FuncData}
def sp_is_stallJ (K : PySem.W.Frag) : Sp := fun vs H Q _ => ∃ (n : Nat) (y : V) (D : Addr) (t : Option T5), vs = [.int (n : Nat), y] ∧ J5 K D H y t ∧ ∀ H', Same H H' → Q (.bl (sOk n t)) H'
theorem ok_is_stallJ (T : Txt K mg f_is_integer f_is_row f_is_fraction f_is_some f_multiplied f_squared f_is_stall f_l_deck f_l_pick f_l_divisor f_l_made f_l_amount f_l_stall f_l_stalls f_l_deep f_l_odd f_l_changed f_l_is_some f_l_is_ware f_l_is_stall f_l_due f_l_answer f_l_is_told f_law f_BadStall_init f_Web_init f_Web_eq c_BadWares c_BadStall c_Web d_is_integer d_is_row d_is_fraction d_is_some d_multiplied d_squared d_is_stall d_l_deck d_l_pick d_l_divisor d_l_made d_l_amount d_l_stall d_l_stalls d_l_deep d_l_odd d_l_changed d_l_is_some d_l_is_ware d_l_is_stall d_l_due d_l_answer d_l_is_told d_law d_BadStall_init d_Web_init d_Web_eq) : FnOk P w K mg base CX0 4 f_is_stall d_is_stall ["wares", "thing"] (sp_is_stallJ K) := by
  have G_is_integer : FnOk P w K mg base CX0 1 f_is_integer d_is_integer ["thing"] (sp_isiJ K) := ok_is_integerJ T
  have G_is_some : FnOk P w K mg base CX0 3 f_is_some d_is_some ["thing"] (sp_issJ K) := ok_is_someJ T
  have G_multiplied : FnOk P w K mg base CX0 1 f_multiplied d_multiplied ["one", "other"] (sp_multiplied K) := ok_multiplied T
  have G_squared : FnOk P w K mg base CX0 1 f_squared d_squared ["one"] (sp_squared K) := ok_squared T
  refine T.F_is_stall.ok sc_is_stall (fun vs H Q E h => ?_) (fun cdv A outer sh H vs Q E hr h => ?_)
  · obtain ⟨n, y, D, t, rfl, _⟩ := h
    rfl
  · obtain ⟨n, y, D, t, rfl, hy, q⟩ := h
    refine ⟨_, (pss_cons (ps_if (PW.pt (pw_or (pt_not (pt_val (pe_callB call_isi (by rfl) T.z_isinstance (by decide +kernel) (pa_cons (pv 1) (pa_cons (pe_bltn (v := .ty "tuple") (u := .type "tuple") (by rfl) T.z_tuple (by decide +kernel) rfl) pa_nil))))) (pw_or1 (pt_cmpR op_ne (pe_callB call_lenN (by rfl) T.z_len (by decide +kernel) (pa_cons (pv 1) pa_nil)) pe_int (nomark _)))))
        (pss_one (ps_ret pe_bl))
        pss_nil)
      (pss_cons (ps_asg (pv 1) (pg_tup rfl (pgs_cons (pg_name (i := 2) sc_is_stall.nd rfl (by first | exact Or.inl rfl | exact Or.inr rfl)) (pgs_cons (pg_name (i := 3) sc_is_stall.nd rfl (by first | exact Or.inl rfl | exact Or.inr rfl)) (pgs_cons (pg_name (i := 4) sc_is_stall.nd rfl (by first | exact Or.inl rfl | exact Or.inr rfl)) (pgs_cons (pg_name (i := 5) sc_is_stall.nd rfl (by first | exact Or.inl rfl | exact Or.inr rfl)) (pgs_cons (pg_name (i := 6) sc_is_stall.nd rfl (by first | exact Or.inl rfl | exact Or.inr rfl)) pgs_nil)))))))
      (pss_cons (ps_for PassesOwn.never rfl (pi_tup (pe_tup (pa_cons (pv 2) (pa_cons (pv 3) pa_nil)))) (pg_name (i := 7) sc_is_stall.nd rfl (by first | exact Or.inl rfl | exact Or.inr rfl))
        (pss_one (ps_if (PW.pt (pw_or (pt_not (pt_val (pe_call G_is_integer (hr.mono (by decide)) (by rfl) T.g_is_integer T.k_is_integer T.b_is_integer .nil pass0 (pa_cons (pv 7) pa_nil)))) (pw_or1 (pt_not (pt_chain op_le op_lt pe_int (pv 7) (pv 0))))))
            (pss_one (ps_ret pe_bl))
            pss_nil)))
      (pss_cons (ps_if (PW.pt (pw_or (pt_cmpR op_eq (pv 2) (pv 3) (nomark _)) (pw_or1 (pt_not (PW.pt (pw_and (pt_val (pe_call G_is_some (hr.mono (by decide)) (by rfl) T.g_is_some T.k_is_some T.b_is_some .nil pass0 (pa_cons (pv 4) pa_nil))) (pw_and (pt_val (pe_call G_is_some (hr.mono (by decide)) (by rfl) T.g_is_some T.k_is_some T.b_is_some .nil pass0 (pa_cons (pv 5) pa_nil))) (pw_and1 (pt_val (pe_call G_is_some (hr.mono (by decide)) (by rfl) T.g_is_some T.k_is_some T.b_is_some .nil pass0 (pa_cons (pv 6) pa_nil)))))))))))
        (pss_one (ps_ret pe_bl))
        pss_nil)
      (pss_one (ps_ret (pe_cmpR (op_eqD hr.units) (pe_call G_multiplied (hr.mono (by decide)) (by rfl) T.g_multiplied T.k_multiplied T.b_multiplied .nil pass0 (pa_cons (pv 4) (pa_cons (pv 5) pa_nil))) (pe_call G_squared (hr.mono (by decide)) (by rfl) T.g_squared T.k_squared T.b_squared .nil pass0 (pa_cons (pv 6) pa_nil)) (nomark _)))))))), ?_⟩
    rcases hy with ⟨p, va, vb, vc, vd, ve, ⟨ta, tb, tc, td, te⟩, rfl, np, hp, ja, jb, jc, jd, je, rfl⟩ | ⟨⟨i, rfl⟩ | ⟨o, hn⟩, rfl⟩
    · walk_at "r"
      intro tp ntp
      have s1 := same_upd (o := .tup [va, vb]) ntp
      have htp : upd H tp (.tup [va, vb]) tp = some (.tup [va, vb]) := upd_same
      have ja := ja.same s1
      have jb := jb.same s1
      have jc := jc.same s1
      have jd := jd.same s1
      have je := je.same s1
      have q0 := q
      have q := q _ s1
      generalize upd H tp (.tup [va, vb]) = H1 at *
      walk_at "r"
      obtain ⟨ta1, ta2⟩ := ta
      obtain ⟨tb1, tb2⟩ := tb
      obtain ⟨tc1, tc2⟩ := tc
      obtain ⟨td1, td2⟩ := td
      obtain ⟨te1, te2⟩ := te
      have iA : JI K D H1 va ta1 := ja.1
      have iB : JI K D H1 vb tb1 := jb.1
      have fC : JF K D H1 vc tc2 := jc.2
      have fD : JF K D H1 vd td2 := jd.2
      have fE : JF K D H1 ve te2 := je.2
      clear ja jb jc jd je
      have q : Q (.bl (ixOk n ta1 && (ixOk n tb1 && (decide (ta1 ≠ tb1) && (sa tc2 && (sa td2 && (sa te2 && prodOk tc2 td2 te2))))))) H1 := q
      refine ⟨⟨_, .of htp⟩, ?_⟩
      refine for_tup (K := K) (a := tp) (xs := [va, vb]) (fun k σ H' => ∃ (t7 : Option V), σ = [some (.int (n : Nat)), some (.ref p), some va, some vb, some vc, some vd, some ve, t7] ∧ H' = H1 ∧ (0 < k → ixOk n ta1 = true) ∧ (1 < k → ixOk n tb1 = true)) ?_ ?_ ?_ ?_
      · exact ⟨_, rfl, rfl, fun h => absurd h (Nat.lt_irrefl 0), fun h => absurd h (Nat.not_lt_zero 1)⟩
      · rintro k σ H' _ ⟨t7, rfl, rfl, _⟩
        exact .of htp
      · rintro k v σ H' hv ⟨t7, rfl, rfl, h1, h2⟩
        match k, hv with
        | 0, hv =>
          cases hv
          walk_at "r"
          obtain ⟨b, hb, eb⟩ := iA.isi
          refine ⟨_, b, rfl, hb, ?_⟩
          rcases iA with ⟨i, rfl, rfl⟩ | ⟨od, rfl⟩
          · rw [Option.isSome_some] at eb
            subst eb
            rw [ix_eq] at q h1
            walk_at "r"
            walk_at "if"
            · rename_i h0
              walk_at "r"
              walk_at "if"
              · rename_i h0'
                rw [decide_eq_false h0', Bool.and_false, Bool.false_and] at q
                walk_at "r"
                exact q
              · rename_i h0'
                walk_at "r"
                exact ⟨rfl, fun _ => by rw [ix_eq, decide_eq_true h0, decide_eq_true h0']; rfl, fun h => absurd h (by decide)⟩
            · rename_i h0
              rw [decide_eq_false h0, Bool.false_and, Bool.false_and] at q
              walk_at "r"
              exact q
          · rw [Option.isSome_none] at eb
            subst eb
            walk_at "r"
            exact q
        | 1, hv =>
          cases hv
          have a1 := h1 (by decide)
          walk_at "r"
          obtain ⟨b, hb, eb⟩ := iB.isi
          refine ⟨_, b, rfl, hb, ?_⟩
          rw [a1, Bool.true_and] at q
          rcases iB with ⟨i, rfl, rfl⟩ | ⟨od, rfl⟩
          · rw [Option.isSome_some] at eb
            subst eb
            rw [ix_eq] at q h2
            walk_at "r"
            walk_at "if"
            · rename_i h0
              walk_at "r"
              walk_at "if"
              · rename_i h0'
                rw [decide_eq_false h0', Bool.and_false, Bool.false_and] at q
                walk_at "r"
                exact q
              · rename_i h0'
                walk_at "r"
                exact ⟨rfl, fun _ => a1, fun _ => by rw [ix_eq, decide_eq_true h0, decide_eq_true h0']; rfl⟩
            · rename_i h0
              rw [decide_eq_false h0, Bool.false_and, Bool.false_and] at q
              walk_at "r"
              exact q
          · rw [Option.isSome_none] at eb
            subst eb
            walk_at "r"
            exact q
      rintro σ H' ⟨t7, rfl, rfl, h1, h2⟩
      have a1 := h1 (show 0 < 2 by decide)
      have a2 := h2 (show 1 < 2 by decide)
      rw [a1, a2, Bool.true_and, Bool.true_and] at q
      obtain ⟨i, rfl, _⟩ := ix_some a1
      obtain ⟨k, rfl, _⟩ := ix_some a2
      have ea := ji_int iA
      have eb := ji_int iB
      subst ea eb
      walk_at "r"
      walk_at "if"
      · rename_i h0
        rw [decide_eq_false (show ¬ (some (i : Int) ≠ some (k : Int)) from fun z => z (by rw [h0])), Bool.false_and] at q
        walk_at "r"
        exact q
      · rename_i h0
        rw [decide_eq_true (show some (i : Int) ≠ some (k : Int) from fun z => h0 (by injection z)), Bool.true_and] at q
        walk_at "r"
        refine ⟨_, D, tc2, rfl, fC, ?_⟩
        cases c1 : sa tc2 with
        | false =>
          rw [c1, Bool.false_and] at q
          walk_at "r"
          exact q
        | true =>
          rw [c1, Bool.true_and] at q
          walk_at "r"
          refine ⟨_, D, td2, rfl, fD, ?_⟩
          cases c2 : sa td2 with
          | false =>
            rw [c2, Bool.false_and] at q
            walk_at "r"
            exact q
          | true =>
            rw [c2, Bool.true_and] at q
            walk_at "r"
            refine ⟨_, D, te2, rfl, fE, ?_⟩
            cases c3 : sa te2 with
            | false =>
              rw [c3, Bool.false_and] at q
              walk_at "r"
              exact q
            | true =>
              rw [c3, Bool.true_and] at q
              obtain ⟨x, rfl, x0⟩ := sa_some c1
              obtain ⟨y, rfl, y0⟩ := sa_some c2
              obtain ⟨z, rfl, z0⟩ := sa_some c3
              obtain ⟨fx, bx⟩ := fC.isF
              obtain ⟨fy, by'⟩ := fD.isF
              obtain ⟨fz, bz⟩ := fE.isF
              walk_at "r"
              refine ⟨_, _, _, _, rfl, fx, fy, bx.mono (by decide), by'.mono (by decide), trivial, fun H2 v2 s2 h2 => ?_⟩
              walk_at "r"
              refine ⟨_, _, rfl, fz.same s2, bz.mono (by decide), fun H3 v3 s3 h3 => ?_⟩
              refine eqF (K := K) (h2.same s3) h3 ?_
              have q1 := q0 _ (s1.trans (s2.trans s3))
              have e : sOk n (some ⟨(some (i : Int), ta2), (some (k : Int), tb2), (tc1, some x), (td1, some y), (te1, some z)⟩) = decide (x * y = z * z) := by
                show (ixOk n (some (i : Int)) && (ixOk n (some (k : Int)) && (decide (some (i : Int) ≠ some (k : Int)) && (sa (some x) && (sa (some y) && (sa (some z) && decide (x * y = z * z))))))) = _
                rw [a1, a2, decide_eq_true (show some (i : Int) ≠ some (k : Int) from fun z => h0 (by injection z)), c1, c2, c3]
                rfl
              rw [e] at q1
              exact q1
    · have q := q _ (Same.refl _)
      walk_at "r"
      exact q
    · have q := q _ (Same.refl _)
      obtain ⟨b1, b2, b3, hb, -, -, h3, ht⟩ := o.isi
      walk_at "r"
      refine h3 _ ?_
      cases b3 with
      | false =>
        walk_at "r"
        exact q
      | true =>
        obtain ⟨p, xs, rfl, np, hp⟩ := ht rfl
        have hl : ¬ ((xs.length : Int) = 5) := by
          have := hn p xs rfl hp
          omega
        walk_at "r"
        exact q
theorem ok_BadStall_init (T : Txt K mg f_is_integer f_is_row f_is_fraction f_is_some f_multiplied f_squared f_is_stall f_l_deck f_l_pick f_l_divisor f_l_made f_l_amount f_l_stall f_l_stalls f_l_deep f_l_odd f_l_changed f_l_is_some f_l_is_ware f_l_is_stall f_l_due f_l_answer f_l_is_told f_law f_BadStall_init f_Web_init f_Web_eq c_BadWares c_BadStall c_Web d_is_integer d_is_row d_is_fraction d_is_some d_multiplied d_squared d_is_stall d_l_deck d_l_pick d_l_divisor d_l_made d_l_amount d_l_stall d_l_stalls d_l_deep d_l_odd d_l_changed d_l_is_some d_l_is_ware d_l_is_stall d_l_due d_l_answer d_l_is_told d_law d_BadStall_init d_Web_init d_Web_eq) : FnOk P w K mg base CX0 1 f_BadStall_init d_BadStall_init ["self", "index"] (sp_xinit c_BadStall "index") := by
  refine T.F_BadStall_init.ok sc_BadStall_init (fun vs H Q E h => ?_) (fun cdv A outer s H vs Q E hr h => ?_)
  · obtain ⟨p, v, rfl, _⟩ := h
    rfl
  · obtain ⟨p, v, rfl, hp, q⟩ := h
    refine ⟨_, (pss_one (ps_ost (pv 0) (pv 1))), ?_⟩
    walk_at "r"
    exact ⟨p, _, rfl, T.c_BadStall.ox, T.c_BadStall.no, .inl ⟨hp, fun dx n1 n2 => q dx n1 n2⟩⟩
/-- Web of what is refused -/
def sp_webX (K : PySem.W.Frag) (CW CS : Addr) : Sp := fun vs H Q E => ∃ (sv x y : V) (D : Addr) (o : Option Int) (f : Nat → Option Int), vs = [sv, x, y] ∧ JI K D H x o ∧ (∀ n : Nat, o = some (n : Int) → 1 ≤ n → JSl K D H n y (f n)) ∧ (∀ n : Nat, o = some (n : Int) → wOk o = true → f n ≠ none) ∧
  (wOk o = false → ∀ H', Same H H' → E (.ref CW) none H') ∧ (∀ n : Nat, o = some (n : Int) → wOk o = true → ∀ i, f n = some i → ∀ H1 dd, Same H H1 → H1 dd = none → E (.ref CS) (some dd) (upd H1 dd (.xd [("index", .int i)])))
theorem ok_Web_initB (T : Txt K mg f_is_integer f_is_row f_is_fraction f_is_some f_multiplied f_squared f_is_stall f_l_deck f_l_pick f_l_divisor f_l_made f_l_amount f_l_stall f_l_stalls f_l_deep f_l_odd f_l_changed f_l_is_some f_l_is_ware f_l_is_stall f_l_due f_l_answer f_l_is_told f_law f_BadStall_init f_Web_init f_Web_eq c_BadWares c_BadStall c_Web d_is_integer d_is_row d_is_fraction d_is_some d_multiplied d_squared d_is_stall d_l_deck d_l_pick d_l_divisor d_l_made d_l_amount d_l_stall d_l_stalls d_l_deep d_l_odd d_l_changed d_l_is_some d_l_is_ware d_l_is_stall d_l_due d_l_answer d_l_is_told d_law d_BadStall_init d_Web_init d_Web_eq) : FnOk P w K mg base (L2.CX P w) 5 f_Web_init d_Web_init ["self", "wares", "stalls"] (sp_webX K c_BadWares c_BadStall) := by
  have G_is_integer : FnOk P w K mg base CX0 1 f_is_integer d_is_integer ["thing"] (sp_isiJ K) := ok_is_integerJ T
  have G_is_row : FnOk P w K mg base CX0 1 f_is_row d_is_row ["thing"] (fun vs H Q E => sp_is_row vs H Q E ∨ sp_is_rowN K vs H Q E) := fn_or (ok_is_row T) (ok_is_rowN T)
  have G_is_stall : FnOk P w K mg base CX0 4 f_is_stall d_is_stall ["wares", "thing"] (sp_is_stallJ K) := ok_is_stallJ T
  have G_BadStall_init : FnOk P w K mg base CX0 1 f_BadStall_init d_BadStall_init ["self", "index"] (sp_xinit c_BadStall "index") := ok_BadStall_init T
  refine T.F_Web_init.okX sc_Web_init (fun vs H Q E h => ?_) (fun cdv A outer sh H vs Q E hr h => ?_)
  · obtain ⟨sv, x, y, D, o, f, rfl, _⟩ := h
    rfl
  · obtain ⟨sv, x, y, D, o, f, rfl, jx, jy, fne, e1, e2⟩ := h
    refine ⟨_, (pss_cons (ps_if (PW.pt (pw_or (pt_not (pt_val (pe_call G_is_integer (hr.mono (by decide)) (by rfl) T.g_is_integer T.k_is_integer T.b_is_integer .nil pass0 (pa_cons (pv 1) pa_nil)))) (pw_or1 (pt_not (pt_chain op_le op_le pe_int (pv 1) (C8.pe_gc (by rfl) T.v_MOST_WARES))))))
        (pss_one (ps_raise0 rfl T.c_BadWares (takes_of rfl rfl rfl rfl)))
        pss_nil)
      (pss_cons (ps_if (PW.pt (pw_or (pt_not (pt_val (pe_call G_is_row (hr.mono (by decide)) (by rfl) T.g_is_row T.k_is_row T.b_is_row .nil pass0 (pa_cons (pv 2) pa_nil)))) (pw_or1 (pt_cmpR op_gt (pe_callB call_lenN (by rfl) T.z_len (by decide +kernel) (pa_cons (pv 2) pa_nil)) (C8.pe_gc (by rfl) T.v_MOST_STALLS) (nomark _)))))
        (pss_one (ps_raise1 rfl T.c_BadStall G_BadStall_init (hr.mono (by decide)) (takes_of rfl rfl rfl rfl) T.b_BadStall_init (pa_cons (pe_un un_neg pe_int) pa_nil)))
        pss_nil)
      (pss_cons (ps_for (passes_of rfl) rfl (pi_enumX (by rfl) T.z_enumerate (pa_cons (pv 2) pa_nil)) (pg_tup rfl (pgs_cons (pg_name (i := 3) sc_Web_init.nd rfl (by first | exact Or.inl rfl | exact Or.inr rfl)) (pgs_cons (pg_name (i := 4) sc_Web_init.nd rfl (by first | exact Or.inl rfl | exact Or.inr rfl)) pgs_nil)))
        (pss_one (ps_if (pt_not (pt_val (pe_call G_is_stall (hr.mono (by decide)) (by rfl) T.g_is_stall T.k_is_stall T.b_is_stall .nil pass0 (pa_cons (pv 1) (pa_cons (pv 4) pa_nil)))))
            (pss_one (ps_raise1 rfl T.c_BadStall G_BadStall_init (hr.mono (by decide)) (takes_of rfl rfl rfl rfl) T.b_BadStall_init (pa_cons (pv 3) pa_nil)))
            pss_nil)))
      (pss_cons (ps_fld (pv 0) (pv 1) rfl)
      (pss_one (ps_fld (pv 0) (pe_callTy call_tuple_of (by rfl) T.z_tuple (by decide +kernel) (pa_cons (pv 2) pa_nil)) rfl)))))), ?_⟩
    walk_at "r"
    obtain ⟨b, hb, eb⟩ := jx.isi
    refine ⟨_, b, rfl, hb, ?_⟩
    rcases jx with ⟨i, rfl, rfl⟩ | ⟨od, rfl⟩
    · rw [Option.isSome_some] at eb
      subst eb
      have bad : ¬ (1 ≤ i ∧ i ≤ 8) → ∀ H', Same H H' → E (.ref c_BadWares) none H' := fun c => e1 (by
        show (decide (1 ≤ i) && decide (i ≤ 8)) = false
        rw [Bool.and_eq_false_iff, decide_eq_false_iff_not, decide_eq_false_iff_not]
        omega)
      walk_at "r"
      walk_at "if"
      · rename_i h1
        walk_at "r"
        walk_at "if"
        · rename_i h8
          walk_at "r"
          exact bad (fun z => h8 z.2) _ (Same.refl _)
        · rename_i h8
          walk_at "r"
          obtain ⟨n, rfl⟩ := Int.eq_ofNat_of_zero_le (show 0 ≤ i by omega)
          have wok : wOk (some (n : Int)) = true := by
            show (decide (1 ≤ (n : Int)) && decide ((n : Int) ≤ 8)) = true
            rw [decide_eq_true h1, decide_eq_true h8]
            rfl
          have e2 := e2 n rfl wok
          have fne := fne n rfl wok
          rcases jy n rfl (by omega) with ⟨L, ys, ts, rfl, np, hL, hms, l9, ef⟩ | ⟨o', ef⟩
          · have hl := Paired.length hms
            refine .inl ⟨L, ys, rfl, hL, fun H1 s1 => ?_⟩
            have hL1 := hL.same s1
            walk_at "r"
            refine ⟨L, ys, rfl, hL1.sq, ?_⟩
            unfold flt5 at ef
            by_cases c16 : 16 < ts.length
            · rw [if_pos c16] at ef
              have c' : (ys.length : Int) > 16 := by omega
              walk_at "r"
              exact fun dd nd => e2 _ ef _ dd s1 nd
            · rw [if_neg c16] at ef
              have c' : ¬ (ys.length : Int) > 16 := by omega
              walk_at "r"
              refine ⟨L, ys, rfl, ?_⟩
              rcases hL1 with hL1 | hL1
              · refine .inl ⟨.of hL1, ?_⟩
                refine for_enum (K := K) (a := L) (xs := ys) (fun i σ H' => ∃ t3 t4, σ = [some sv, some (.int (n : Nat)), some (.ref L), t3, t4] ∧ Same H1 H' ∧ ∀ (j : Nat) (u : Option T5), j < i → ts[j]? = some u → sOk n u = true) ⟨_, _, rfl, Same.refl _, fun j u hj => absurd hj (Nat.not_lt_zero _)⟩ ?_ ?_ ?_
                · rintro i σ H' _ ⟨t3, t4, rfl, s2, _⟩
                  exact .of (s2 _ _ hL1)
                · rintro i v T2 σ H' hx ⟨t3, t4, rfl, s2, hb⟩ nT
                  obtain ⟨t, ht, jm⟩ := Paired.at hms hx
                  have sm := same_upd (o := .tup [.int (i : Nat), v]) nT
                  walk_at "r"
                  refine ⟨n, v, D, t, rfl, jm.same ((s1.trans s2).trans sm), fun H3 s3 => ?_⟩
                  cases cm : sOk n t with
                  | true =>
                    walk_at "r"
                    refine ⟨_, _, rfl, (s2.trans sm).trans s3, fun j u hj hu => ?_⟩
                    by_cases e : j = i
                    · subst e
                      rw [ht] at hu
                      cases hu
                      exact cm
                    · exact hb j u (by omega) hu
                  | false =>
                    rw [badF_at ht cm hb] at ef
                    walk_at "r"
                    exact fun dd nd => e2 _ ef _ dd (((s1.trans s2).trans sm).trans s3) nd
                · rintro σ H' ⟨t3, t4, rfl, s2, hb⟩
                  rw [badF_none fun j u hu => hb j u (by have := (List.getElem?_eq_some_iff.mp hu).1; omega) hu] at ef
                  exact absurd ef fne
              · refine .inr ⟨.of hL1, ?_⟩
                refine for_enumT (K := K) (a := L) (xs := ys) (fun i σ H' => ∃ t3 t4, σ = [some sv, some (.int (n : Nat)), some (.ref L), t3, t4] ∧ Same H1 H' ∧ ∀ (j : Nat) (u : Option T5), j < i → ts[j]? = some u → sOk n u = true) ⟨_, _, rfl, Same.refl _, fun j u hj => absurd hj (Nat.not_lt_zero _)⟩ ?_ ?_ ?_
                · rintro i σ H' _ ⟨t3, t4, rfl, s2, _⟩
                  exact .of (s2 _ _ hL1)
                · rintro i v T2 σ H' hx ⟨t3, t4, rfl, s2, hb⟩ nT
                  obtain ⟨t, ht, jm⟩ := Paired.at hms hx
                  have sm := same_upd (o := .tup [.int (i : Nat), v]) nT
                  walk_at "r"
                  refine ⟨n, v, D, t, rfl, jm.same ((s1.trans s2).trans sm), fun H3 s3 => ?_⟩
                  cases cm : sOk n t with
                  | true =>
                    walk_at "r"
                    refine ⟨_, _, rfl, (s2.trans sm).trans s3, fun j u hj hu => ?_⟩
                    by_cases e : j = i
                    · subst e
                      rw [ht] at hu
                      cases hu
                      exact cm
                    · exact hb j u (by omega) hu
                  | false =>
                    rw [badF_at ht cm hb] at ef
                    walk_at "r"
                    exact fun dd nd => e2 _ ef _ dd (((s1.trans s2).trans sm).trans s3) nd
                · rintro σ H' ⟨t3, t4, rfl, s2, hb⟩
                  rw [badF_none fun j u hu => hb j u (by have := (List.getElem?_eq_some_iff.mp hu).1; omega) hu] at ef
                  exact absurd ef fne
          · refine .inr ⟨y, D, rfl, o', fun H1 s1 => ?_⟩
            walk_at "r"
            exact fun dd nd => e2 _ ef _ dd s1 nd
      · rename_i h1
        walk_at "r"
        exact bad (fun z => h1 z.1) _ (Same.refl _)
    · rw [Option.isSome_none] at eb
      subst eb
      walk_at "r"
      exact e1 rfl _ (Same.refl _)
end
end My
namespace My
open PySem PySem.Spec PyProof.Rows L2
variable {K : PySem.W.Frag}
theorem divInt_ge {t b : Int} (ht : 0 ≤ t) (hb : 0 < b) : 0 ≤ Rat.divInt t b := by
  rcases Int.lt_or_eq_of_le ht with h | h
  · exact Rat.le_of_lt (divInt_pos h hb)
  · rw [← h, Rat.zero_divInt]
    exact Rat.le_refl
theorem size37 {i : Int} (h0 : 0 ≤ i) (h1 : i < 3) : ∃ z : Int, (3 ≤ z ∧ z ≤ 1000000) ∧ atI [V.int 3, V.int 12, V.int (10 ^ (6 : Int).toNat)] i = some (.int z) := by
  rcases (show i = 0 ∨ i = 1 ∨ i = 2 by omega) with rfl | rfl | rfl
  · exact ⟨3, by decide, rfl⟩
  · exact ⟨12, by decide, rfl⟩
  · exact ⟨10 ^ (6 : Int).toNat, by rw [ten6e]; decide, rfl⟩
theorem flag_at (b : Bool) : ∃ z : Int, (z = 4 ∨ z = 17) ∧ atI [V.int 4, V.int 17] (if b = true then 1 else 0) = some (.int z) := by
  cases b
  · exact ⟨4, .inl rfl, rfl⟩
  · exact ⟨17, .inr rfl, rfl⟩
/-- a stall all of whose amounts stand in the heap -/
def IsStH (H : Hp) (x : V) (s : Stl) : Prop := ∃ p va vb vr, x = .ref p ∧ H p = some (.tup [.int (s.u : Nat), .int (s.v : Nat), va, vb, vr]) ∧ IsH H va s.a ∧ IsH H vb s.b ∧ IsH H vr s.r
theorem IsH.ts {H H' : Hp} {v : V} {r : Rat} (h : IsH H v r) (f : Tps H H') : IsH H' v r := by
  obtain ⟨p, e, h⟩ := h
  exact ⟨p, e, f _ _ h⟩
theorem IsStH.ts {H H' : Hp} {x : V} {s : Stl} (h : IsStH H x s) (f : Tps H H') : IsStH H' x s := by
  obtain ⟨p, va, vb, vr, e, h, a, b, c⟩ := h
  exact ⟨p, va, vb, vr, e, f _ _ h, a.ts f, b.ts f, c.ts f⟩
theorem IsStH.is {H : Hp} {x : V} {s : Stl} (h : IsStH H x s) : IsSt K H x s := by
  obtain ⟨p, va, vb, vr, e, h, a, b, c⟩ := h
  exact ⟨p, va, vb, vr, e, h, a.isF, b.isF, c.isF⟩
def StsH (H : Hp) (xs : List V) (ss : List Stl) : Prop := Paired (IsStH H) xs ss
theorem StsH.ts {H H' : Hp} {xs : List V} {ss : List Stl} (h : StsH H xs ss) (f : Tps H H') : StsH H' xs ss := prd_mp (fun _ _ h => h.ts f) h
theorem StsH.len {H : Hp} {xs : List V} {ss : List Stl} (h : StsH H xs ss) : xs.length = ss.length := Paired.length h
theorem StsH.snoc {H : Hp} {xs : List V} {ss : List Stl} {v : V} {s : Stl} (h : StsH H xs ss) (hv : IsStH H v s) : StsH H (xs ++ [v]) (ss ++ [s]) := prd_app h (.cons hv .nil)
theorem StsH.get {H : Hp} {xs : List V} {ss : List Stl} (h : StsH H xs ss) {i : Nat} {s : Stl} (e : ss[i]? = some s) : ∃ x, xs[i]? = some x ∧ IsStH H x s := by
  have hl := h.len
  have hi := (List.getElem?_eq_some_iff.mp e).1
  have hx : xs[i]? = some (xs[i]'(by omega)) := List.getElem?_eq_getElem (by omega)
  obtain ⟨s', e', h'⟩ := Paired.at h hx
  rw [e] at e'
  cases e'
  exact ⟨_, hx, h'⟩
section
variable {P : Program} {w : World} {K : PySem.W.Frag} {mg : Str → Option Value} {base : Heap} {f_is_integer f_is_row f_is_fraction f_is_some f_multiplied f_squared f_is_stall f_l_deck f_l_pick f_l_divisor f_l_made f_l_amount f_l_stall f_l_stalls f_l_deep f_l_odd f_l_changed f_l_is_some f_l_is_ware f_l_is_stall f_l_due f_l_answer f_l_is_told f_law f_BadStall_init f_Web_init f_Web_eq c_BadWares c_BadStall c_Web : Addr} {d_is_integer d_is_row d_is_fraction d_is_some d_multiplied d_squared d_is_stall d_l_deck d_l_pick d_l_divisor d_l_made d_l_amount d_l_stall d_l_stalls d_l_deep d_l_odd d_l_changed d_l_is_some d_l_is_ware d_l_is_stall d_l_due d_l_answer d_l_is_told d_law d_BadStall_init d_Web_init d_Web_eq : FuncData}
def sp_amH (M n k : Nat) : Sp := fun vs H Q _ => ∃ (D C : Addr) (c : Nat), vs = [.ref D] ∧ Deck M D C H c ∧ c ≤ 2 ^ 39 ∧ ∀ H' v r, Fw D H H' → Deck M D C H' (c + n) → IsH H' v r → Bd k r → 0 < r → Q v H'
theorem ok_l_amountH {M : Nat} (hM : 64 ≤ M) (hM2 : M ≤ 1048576) (T : Txt K mg f_is_integer f_is_row f_is_fraction f_is_some f_multiplied f_squared f_is_stall f_l_deck f_l_pick f_l_divisor f_l_made f_l_amount f_l_stall f_l_stalls f_l_deep f_l_odd f_l_changed f_l_is_some f_l_is_ware f_l_is_stall f_l_due f_l_answer f_l_is_told f_law f_BadStall_init f_Web_init f_Web_eq c_BadWares c_BadStall c_Web d_is_integer d_is_row d_is_fraction d_is_some d_multiplied d_squared d_is_stall d_l_deck d_l_pick d_l_divisor d_l_made d_l_amount d_l_stall d_l_stalls d_l_deep d_l_odd d_l_changed d_l_is_some d_l_is_ware d_l_is_stall d_l_due d_l_answer d_l_is_told d_law d_BadStall_init d_Web_init d_Web_eq) : FnOk P w K mg base CX0 3 f_l_amount d_l_amount ["_law_deck_here"] (sp_amH M 3 20) := by
  have G_l_pick : FnOk P w K mg base CX0 1 f_l_pick d_l_pick ["_law_deck_here", "_law_many"] (sp_pick M) := ok_pick hM hM2 T
  have G_l_made : FnOk P w K mg base CX0 2 f_l_made d_l_made ["_law_top", "_law_bottom"] sp_madeH := ok_l_madeH T
  refine T.F_l_amount.ok sc_l_amount (fun vs H Q E h => ?_) (fun cdv A outer s H vs Q E hr h => ?_)
  · obtain ⟨D, C, c, rfl, _⟩ := h
    rfl
  · obtain ⟨D, C, c, rfl, dk, hc, q⟩ := h
    refine ⟨_, (pss_cons (ps_set (i := 1) sc_l_amount.nd rfl (by first | exact Or.inl rfl | exact Or.inr rfl) (pe_ix ix_list (pe_lst (pa_cons pe_int (pa_cons pe_int (pa_cons (pe_op op_pow pe_int pe_int) pa_nil)))) (pe_call G_l_pick (hr.mono (by decide)) (by rfl) T.g_l_pick T.k_l_pick T.b_l_pick .nil pass0 (pa_cons (pv 0) (pa_cons pe_int pa_nil))) (fun _ _ => rfl)))
      (pss_one (ps_ret (pe_call G_l_made (hr.mono (by decide)) (by rfl) T.g_l_made T.k_l_made T.b_l_made .nil pass0 (pa_cons (pe_op op_add pe_int (pe_call G_l_pick (hr.mono (by decide)) (by rfl) T.g_l_pick T.k_l_pick T.b_l_pick .nil pass0 (pa_cons (pv 0) (pa_cons (pe_op op_sub (pv 1) pe_int) pa_nil)))) (pa_cons (pe_op op_add pe_int (pe_call G_l_pick (hr.mono (by decide)) (by rfl) T.g_l_pick T.k_l_pick T.b_l_pick .nil pass0 (pa_cons (pv 0) (pa_cons (pe_op op_sub (pv 1) pe_int) pa_nil)))) pa_nil)))))), ?_⟩
    walk_at "r"
    intro l5 nl5
    have s7 := same_upd (o := .lst [V.int 3, V.int 12, V.int (10 ^ (6 : Int).toNat)]) nl5
    have hl5 : upd H l5 (.lst [V.int 3, V.int 12, V.int (10 ^ (6 : Int).toNat)]) l5 = some (.lst [V.int 3, V.int 12, V.int (10 ^ (6 : Int).toNat)]) := upd_same
    have hl5D := dk.ne nl5
    generalize upd H l5 (.lst [V.int 3, V.int 12, V.int (10 ^ (6 : Int).toNat)]) = H7 at *
    have k7 := dk.same s7
    walk_at "r"
    refine ⟨_, _, _, _, rfl, ⟨by decide, by decide⟩, k7, by omega, fun H8 r8 w8 k8 a8 b8 => ?_⟩
    obtain ⟨z, ⟨z1, z2⟩, ez⟩ := size37 a8 b8
    refine rd_ixL (w8 _ _ hl5D hl5) ez ?_
    have f8 := (Same.fw s7).trans w8
    walk_at "r"
    refine ⟨_, _, _, _, rfl, ⟨by omega, by omega⟩, k8, by omega, fun H1 r1 w1 k1 a1 b1 => ?_⟩
    walk_at "r"
    refine ⟨_, _, _, _, rfl, ⟨by omega, by omega⟩, k1, by omega, fun H2 r2 w2 k2 a2 b2 => ?_⟩
    walk_at "r"
    have hb : (1 + r2).natAbs < 2 ^ 20 := by omega
    refine ⟨_, _, rfl, by omega, Nat.lt_of_lt_of_le hb (pow_le (by decide)), fun H3 v s3 hv => ?_⟩
    exact q _ _ _ (((f8.trans w1).trans w2).trans (Same.fw s3)) ((k2.same s3).mono (by omega)) hv (Bd.divInt (by omega) (by omega) hb) (divInt_pos (by omega) (by omega))
def sp_lstallH (M m k l : Nat) : Sp := fun vs H Q _ => ∃ (D C : Addr) (c n : Nat), vs = [.ref D, .int (n : Nat)] ∧ 2 ≤ n ∧ n ≤ 8 ∧ Deck M D C H c ∧ c ≤ 2 ^ 38 ∧ ∀ H' v s, Fw D H H' → Deck M D C H' (c + m) → IsStH H' v s → OkSt n s → BdSt k s → Bd l s.r → Q v H'
theorem ok_l_stallH {M : Nat} (hM : 64 ≤ M) (hM2 : M ≤ 1048576) (T : Txt K mg f_is_integer f_is_row f_is_fraction f_is_some f_multiplied f_squared f_is_stall f_l_deck f_l_pick f_l_divisor f_l_made f_l_amount f_l_stall f_l_stalls f_l_deep f_l_odd f_l_changed f_l_is_some f_l_is_ware f_l_is_stall f_l_due f_l_answer f_l_is_told f_law f_BadStall_init f_Web_init f_Web_eq c_BadWares c_BadStall c_Web d_is_integer d_is_row d_is_fraction d_is_some d_multiplied d_squared d_is_stall d_l_deck d_l_pick d_l_divisor d_l_made d_l_amount d_l_stall d_l_stalls d_l_deep d_l_odd d_l_changed d_l_is_some d_l_is_ware d_l_is_stall d_l_due d_l_answer d_l_is_told d_law d_BadStall_init d_Web_init d_Web_eq) : FnOk P w K mg base CX0 4 f_l_stall d_l_stall ["_law_deck_here", "_law_wares"] (sp_lstallH M 8 40 20) := by
  have G_l_pick : FnOk P w K mg base CX0 1 f_l_pick d_l_pick ["_law_deck_here", "_law_many"] (sp_pick M) := ok_pick hM hM2 T
  have G_l_made : FnOk P w K mg base CX0 2 f_l_made d_l_made ["_law_top", "_law_bottom"] sp_madeH := ok_l_madeH T
  have G_l_amount : FnOk P w K mg base CX0 3 f_l_amount d_l_amount ["_law_deck_here"] (sp_amH M 3 20) := ok_l_amountH hM hM2 T
  refine T.F_l_stall.ok sc_l_stall (fun vs H Q E h => ?_) (fun cdv A outer s H vs Q E hr h => ?_)
  · obtain ⟨D, C, c, n, rfl, _⟩ := h
    rfl
  · obtain ⟨D, C, c, n, rfl, hn2, hn8, dk, hc, q⟩ := h
    refine ⟨_, (pss_cons (ps_set (i := 2) sc_l_stall.nd rfl (by first | exact Or.inl rfl | exact Or.inr rfl) (pe_call G_l_pick (hr.mono (by decide)) (by rfl) T.g_l_pick T.k_l_pick T.b_l_pick .nil pass0 (pa_cons (pv 0) (pa_cons (pv 1) pa_nil))))
      (pss_cons (ps_set (i := 3) sc_l_stall.nd rfl (by first | exact Or.inl rfl | exact Or.inr rfl) (pe_call G_l_pick (hr.mono (by decide)) (by rfl) T.g_l_pick T.k_l_pick T.b_l_pick .nil pass0 (pa_cons (pv 0) (pa_cons (pe_op op_sub (pv 1) pe_int) pa_nil))))
      (C8.pss_cut (ps_if (pt_cmpR op_ge (pv 3) (pv 2) (nomark _))
        (pss_one (ps_set (i := 3) sc_l_stall.nd rfl (by first | exact Or.inl rfl | exact Or.inr rfl) (pe_op op_add (pv 3) pe_int)))
        pss_nil)
      (pss_cons (ps_set (i := 4) sc_l_stall.nd rfl (by first | exact Or.inl rfl | exact Or.inr rfl) (pe_call G_l_amount (hr.mono (by decide)) (by rfl) T.g_l_amount T.k_l_amount T.b_l_amount .nil pass0 (pa_cons (pv 0) pa_nil)))
      (pss_cons (ps_set (i := 5) sc_l_stall.nd rfl (by first | exact Or.inl rfl | exact Or.inr rfl) (pe_call G_l_amount (hr.mono (by decide)) (by rfl) T.g_l_amount T.k_l_amount T.b_l_amount .nil pass0 (pa_cons (pv 0) pa_nil)))
      (pss_cons (ps_set (i := 6) sc_l_stall.nd rfl (by first | exact Or.inl rfl | exact Or.inr rfl) (pe_call G_l_made (hr.mono (by decide)) (by rfl) T.g_l_made T.k_l_made T.b_l_made .nil pass0 (pa_cons (pe_op op_mulX (pe_ix ix_tup (pv 4) pe_int (fun _ _ => rfl)) (pe_ix ix_tup (pv 5) pe_int (fun _ _ => rfl))) (pa_cons (pe_op op_mulX (pe_ix ix_tup (pv 4) pe_int (fun _ _ => rfl)) (pe_ix ix_tup (pv 5) pe_int (fun _ _ => rfl))) pa_nil))))
      (pss_one (ps_ret (pe_tup (pa_cons (pv 2) (pa_cons (pv 3) (pa_cons (pv 6) (pa_cons (pe_call G_l_made (hr.mono (by decide)) (by rfl) T.g_l_made T.k_l_made T.b_l_made .nil pass0 (pa_cons (pe_op op_mulX (pe_ix ix_tup (pv 4) pe_int (fun _ _ => rfl)) (pe_ix ix_tup (pv 5) pe_int (fun _ _ => rfl))) (pa_cons (pe_op op_mulX (pe_ix ix_tup (pv 4) pe_int (fun _ _ => rfl)) (pe_ix ix_tup (pv 5) pe_int (fun _ _ => rfl))) pa_nil))) (pa_cons (pv 4) pa_nil)))))))))))))), ?_⟩
    walk_at "r"
    refine ⟨_, _, _, _, rfl, ⟨by omega, by omega⟩, dk, by omega, fun H1 r1 w1 k1 a1 b1 => ?_⟩
    walk_at "r"
    refine ⟨_, _, _, _, rfl, ⟨by omega, by omega⟩, k1, by omega, fun H2 r2 w2 k2 a2 b2 => ?_⟩
    have w2 := w1.trans w2
    walk_at "r"
    refine ⟨fun σ H' => ∃ (u v : Nat) (t4 t5 t6 : Option V), σ = [some (.ref D), some (.int (n : Nat)), some (.int (u : Nat)), some (.int (v : Nat)), t4, t5, t6] ∧ H' = H2 ∧ u < n ∧ v < n ∧ u ≠ v, ?_, ?_⟩
    · walk_at "r"
      walk_at "if"
      · rename_i h
        walk_at "r"
        refine ⟨r1.toNat, (r2 + 1).toNat, none, none, none, ?_, rfl, by omega, by omega, by omega⟩
        rw [show ((r1.toNat : Nat) : Int) = r1 by omega, show (((r2 + 1).toNat : Nat) : Int) = r2 + 1 by omega]
        rfl
      · rename_i h
        walk_at "r"
        refine ⟨r1.toNat, r2.toNat, none, none, none, ?_, rfl, by omega, by omega, by omega⟩
        rw [show ((r1.toNat : Nat) : Int) = r1 by omega, show ((r2.toNat : Nat) : Int) = r2 by omega]
        rfl
    rintro σ H' ⟨u, v, t4, t5, t6, rfl, rfl, hu, hv, huv⟩
    walk_at "r"
    refine ⟨_, _, _, rfl, k2, by omega, fun H3 root r w3 k3 fr br r0 => ?_⟩
    walk_at "r"
    refine ⟨_, _, _, rfl, k3, by omega, fun H4 fac f w4 k4 ff bf f0 => ?_⟩
    have fr := fr.fw k3 w4
    have w4 := (w2.trans w3).trans w4
    have rd4 : ((r.den : Int)).natAbs < 2 ^ 20 := by rw [Int.natAbs_natCast]; exact br.2
    have fd4 : ((f.den : Int)).natAbs < 2 ^ 20 := by rw [Int.natAbs_natCast]; exact bf.2
    have rn0 := num_pos' r0
    have fn0 := num_pos' f0
    have rd0 := den_pos r
    have fd0 := den_pos f
    obtain ⟨pr1, rfl, hpr0⟩ := id fr
    obtain ⟨pf1, rfl, hpf0⟩ := id ff
    have hpr : Tp K H4 pr1 (frV r) := .inl hpr0
    have hpf : Tp K H4 pf1 (frV f) := .inl hpf0
    have p64 : ∀ {z : Int}, z.natAbs < 2 ^ 20 → z.natAbs < 2 ^ 64 := fun h => Nat.lt_of_lt_of_le h (pow_le (by decide))
    walk_at "r"
    rotate_left
    · exact cmul_small (p64 rd4) (p64 fd4)
    · exact cmul_small (p64 br.1) (p64 bf.1)
    refine ⟨_, _, rfl, Int.mul_pos rd0 fd0, Nat.lt_of_lt_of_le (mul_lt' rd4 fd4) (pow_le (by decide)), fun H5 one s5 h1 => ?_⟩
    rw [divInt_mul'] at h1
    have fr := fr.same s5
    have hpr := hpr.same s5
    have hpf := hpf.same s5
    walk_at "r"
    rotate_left
    · exact cmul_small (p64 rd4) (p64 bf.1)
    · exact cmul_small (p64 br.1) (p64 fd4)
    refine ⟨_, _, rfl, Int.mul_pos rd0 fn0, Nat.lt_of_lt_of_le (mul_lt' rd4 bf.1) (pow_le (by decide)), fun H6 other s6 h2 => ?_⟩
    walk_at "r"
    intro p7 n7
    have sm := same_upd (o := .tup [V.int (u : Nat), .int (v : Nat), one, other, .ref pr1]) n7
    refine q _ _ ⟨u, v, r * f, Rat.divInt (r.num * f.den) (r.den * f.num), r⟩ (w4.trans (Same.fw ((s5.trans s6).trans sm))) ((k4.same ((s5.trans s6).trans sm)).mono (by omega)) ⟨p7, one, other, .ref pr1, rfl, upd_same, (h1.same s6).same sm, h2.same sm, (fr.same s6).same sm⟩ ?_ ?_ ?_
    · exact ⟨hu, hv, huv, Rat.mul_pos r0 f0, divInt_pos (Int.mul_pos rn0 fd0) (Int.mul_pos rd0 fn0), r0, back_root r f f0⟩
    · exact ⟨br.mul bf, Bd.divInt (Int.ne_of_gt (Int.mul_pos rd0 fn0)) (mul_lt' br.1 fd4) (mul_lt' rd4 bf.1), br.mono (by decide)⟩
    · exact br
def sp_lstallsH (M : Nat) : Sp := fun vs H Q _ => ∃ (D C : Addr) (c n : Nat), vs = [.ref D, .int (n : Nat)] ∧ 1 ≤ n ∧ n ≤ 8 ∧ Deck M D C H c ∧ c ≤ 2 ^ 37 ∧
  ∀ H' S xs ss, Fw D H H' → Deck M D C H' (c + 200) → S ≠ D → H' S = some (.lst xs) → StsH H' xs ss → ss.length ≤ 16 → (∀ s ∈ ss, OkSt n s ∧ BdSt 40 s ∧ Bd 20 s.r) → Q (.ref S) H'
theorem ok_l_stallsH {M : Nat} (hM : 64 ≤ M) (hM2 : M ≤ 1048576) (T : Txt K mg f_is_integer f_is_row f_is_fraction f_is_some f_multiplied f_squared f_is_stall f_l_deck f_l_pick f_l_divisor f_l_made f_l_amount f_l_stall f_l_stalls f_l_deep f_l_odd f_l_changed f_l_is_some f_l_is_ware f_l_is_stall f_l_due f_l_answer f_l_is_told f_law f_BadStall_init f_Web_init f_Web_eq c_BadWares c_BadStall c_Web d_is_integer d_is_row d_is_fraction d_is_some d_multiplied d_squared d_is_stall d_l_deck d_l_pick d_l_divisor d_l_made d_l_amount d_l_stall d_l_stalls d_l_deep d_l_odd d_l_changed d_l_is_some d_l_is_ware d_l_is_stall d_l_due d_l_answer d_l_is_told d_law d_BadStall_init d_Web_init d_Web_eq) : FnOk P w K mg base CX0 5 f_l_stalls d_l_stalls ["_law_deck_here", "_law_wares"] (sp_lstallsH M) := by
  have G_l_pick : FnOk P w K mg base CX0 1 f_l_pick d_l_pick ["_law_deck_here", "_law_many"] (sp_pick M) := ok_pick hM hM2 T
  have G_l_stall : FnOk P w K mg base CX0 4 f_l_stall d_l_stall ["_law_deck_here", "_law_wares"] (sp_lstallH M 8 40 20) := ok_l_stallH hM hM2 T
  refine T.F_l_stalls.ok sc_l_stalls (fun vs H Q E h => ?_) (fun cdv A outer s H vs Q E hr h => ?_)
  · obtain ⟨D, C, c, n, rfl, _⟩ := h
    rfl
  · obtain ⟨D, C, c, n, rfl, n1, n8, dk, hc, q⟩ := h
    refine ⟨_, (pss_cons (ps_set (i := 2) sc_l_stalls.nd rfl (by first | exact Or.inl rfl | exact Or.inr rfl) (pe_lst pa_nil))
      (pss_cons (ps_if (pt_cmpR op_gt (pv 1) pe_int (nomark _))
        (pss_one (ps_for PassesOwn.never rfl (pi_range1 (by rfl) T.z_range (pa_cons (pe_call G_l_pick (hr.mono (by decide)) (by rfl) T.g_l_pick T.k_l_pick T.b_l_pick .nil pass0 (pa_cons (pv 0) (pa_cons (pe_ix ix_list (pe_lst (pa_cons pe_int (pa_cons pe_int pa_nil))) (pe_callTy call_intN (by rfl) T.z_int (by decide +kernel) (pa_cons (pe_cmpR op_eq (pe_call G_l_pick (hr.mono (by decide)) (by rfl) T.g_l_pick T.k_l_pick T.b_l_pick .nil pass0 (pa_cons (pv 0) (pa_cons pe_int pa_nil))) pe_int (nomark _)) pa_nil)) (fun _ _ => rfl)) pa_nil))) pa_nil)) (pg_name (i := 3) sc_l_stalls.nd rfl (by first | exact Or.inl rfl | exact Or.inr rfl))
            (pss_one (ps_if (PW.pt (pw_and (pt_cmpR op_gt (pe_callB call_lenN (by rfl) T.z_len (by decide +kernel) (pa_cons (pv 2) pa_nil)) pe_int (nomark _)) (pw_and1 (pt_cmpR op_eq (pe_call G_l_pick (hr.mono (by decide)) (by rfl) T.g_l_pick T.k_l_pick T.b_l_pick .nil pass0 (pa_cons (pv 0) (pa_cons pe_int pa_nil))) pe_int (nomark _)))))
                (pss_one (ps_expr (pe_bm PySem.F.plainAttrs_list PySem.F.slot_list_append PySem.F.type_list_append mt_append (pv 2) (pa_cons (pe_ix ix_list (pv 2) (pe_call G_l_pick (hr.mono (by decide)) (by rfl) T.g_l_pick T.k_l_pick T.b_l_pick .nil pass0 (pa_cons (pv 0) (pa_cons (pe_callB call_lenN (by rfl) T.z_len (by decide +kernel) (pa_cons (pv 2) pa_nil)) pa_nil))) (fun _ _ => rfl)) pa_nil))))
                (pss_one (ps_expr (pe_bm PySem.F.plainAttrs_list PySem.F.slot_list_append PySem.F.type_list_append mt_append (pv 2) (pa_cons (pe_call G_l_stall (hr.mono (by decide)) (by rfl) T.g_l_stall T.k_l_stall T.b_l_stall .nil pass0 (pa_cons (pv 0) (pa_cons (pv 1) pa_nil))) pa_nil))))))))
        pss_nil)
      (pss_one (ps_ret (pv 2))))), ?_⟩
    walk_at "r"
    intro S nS
    have hSD := dk.ne nS
    have hSC := dk.neC nS
    have s0 := same_upd (o := .lst ([] : List V)) nS
    have dk0 := dk.same s0
    have hS0 : upd H S (.lst []) S = some (.lst []) := upd_same
    generalize upd H S (.lst []) = H0 at *
    by_cases c1 : (n : Int) > 1
    · walk_at "r"
      intro l5 nl5
      have s7 := same_upd (o := .lst [V.int 4, V.int 17]) nl5
      have hl5 : upd H0 l5 (.lst [V.int 4, V.int 17]) l5 = some (.lst [V.int 4, V.int 17]) := upd_same
      have hl5D := dk0.ne nl5
      generalize upd H0 l5 (.lst [V.int 4, V.int 17]) = H7 at *
      have k7 := dk0.same s7
      have hS7 := s7 _ _ hS0
      walk_at "r"
      refine ⟨_, _, _, _, rfl, ⟨by decide, by decide⟩, k7, by omega, fun H8 r8 w8 k8 a8 b8 => ?_⟩
      walk_at "r"
      generalize decide (r8 = 3) = fl
      obtain ⟨z, hz, ez⟩ := flag_at fl
      refine rd_ixL (w8 _ _ hl5D hl5) ez ?_
      walk_at "r"
      refine ⟨_, _, z, _, rfl, ⟨by omega, by omega⟩, k8, by omega, fun H9 r9 w9 k9 a9 b9 => ?_⟩
      have f9 := (((Same.fw (D := D) s0).trans (Same.fw s7)).trans w8).trans w9
      have hS9 := w9 _ _ hSD (w8 _ _ hSD hS7)
      walk_at "r"
      refine ⟨by omega, by omega, ?_⟩
      refine for_range (lo := 0) (n := r9.toNat) (fun i σ H' => ∃ (t3 : Option V) (xs : List V) (ss : List Stl), σ = [some (.ref D), some (.int (n : Nat)), some (.ref S), t3] ∧ Fw D H H' ∧ Deck M D C H' (c + 2 + 10 * i) ∧ H' S = some (.lst xs) ∧ StsH H' xs ss ∧ ss.length = i ∧ ∀ s ∈ ss, OkSt n s ∧ BdSt 40 s ∧ Bd 20 s.r) ?_ ?_ ?_
      · exact ⟨_, [], [], rfl, f9, k9, hS9, .nil, rfl, by simp⟩
      · rintro i σ H2 hi ⟨t3, xs, ss, rfl, f2, k2, hS2, hst, hli, hok⟩
        have hi : i < 16 := by omega
        have hlx := hst.len
        walk_at "r"
        have more : ∀ (H3 : Hp) (c3 : Nat), Fw D H H3 → Deck M D C H3 c3 → c3 ≤ c + 9 + 10 * i → H3 S = some (.lst xs) → StsH H3 xs ss → ∀ (H4 : Hp) (v : V) (s : Stl), Fw D H3 H4 → Deck M D C H4 (c + 2 + 10 * (i + 1)) → IsStH H4 v s → OkSt n s → BdSt 40 s → Bd 20 s.r →
            ∃ xs', H4 S = some (.lst xs') ∧ xs'.length = i ∧ Fw D H (upd H4 S (.lst (xs' ++ [v]))) ∧ Deck M D C (upd H4 S (.lst (xs' ++ [v]))) (c + 2 + 10 * (i + 1)) ∧ StsH (upd H4 S (.lst (xs' ++ [v]))) (xs' ++ [v]) (ss ++ [s]) := by
          intro H3 c3 f3 k3 _ hS3 hst3 H4 v s w4 k4 iv _ _ _
          have hS4 := w4 _ _ hSD hS3
          have tp := tps_put (H1 := H4) (o := .lst (xs ++ [v])) hS4
          exact ⟨xs, hS4, by omega, fun b o hb h => (upd_ne (ne_of_none h nS)).trans (w4 _ _ hb (f3 _ _ hb h)), k4.put hSD hSC, ((hst3.ts (w4.ts k3)).snoc iv).ts tp⟩
        walk_at "if"
        · rename_i hp
          walk_at "r"
          refine ⟨_, _, _, _, rfl, ⟨by decide, by decide⟩, k2, by omega, fun H3 r3 w3 k3 a3 b3 => ?_⟩
          have f3 := f2.trans w3
          have hS3 := w3 _ _ hSD hS2
          have hst3 := hst.ts (w3.ts k2)
          walk_at "r"
          walk_at "if"
          · walk_at "r"
            refine ⟨Or.inl ⟨rfl, _, Or.inl (Or.inl hS3)⟩, ?_⟩
            walk_at "r"
            refine ⟨_, _, _, _, rfl, ⟨by omega, by omega⟩, k3, by omega, fun H4 r4 w4 k4 a4 b4 => ?_⟩
            have hS4 := w4 _ _ hSD hS3
            obtain ⟨j, rfl⟩ := Int.eq_ofNat_of_zero_le a4
            have hj : j < ss.length := by omega
            obtain ⟨s, hs⟩ : ∃ s, ss[j]? = some s := ⟨_, List.getElem?_eq_getElem hj⟩
            have hst4 := hst3.ts (w4.ts k3)
            obtain ⟨zz, hzz, izz⟩ := hst4.get hs
            obtain ⟨o1, o2, o3⟩ := hok s (List.mem_of_getElem? hs)
            refine rd_ixL hS4 (at_some hzz) ?_
            obtain ⟨xs', g1, g2, g3, g4, g5⟩ := more H4 _ (f3.trans w4) k4 (by omega) hS4 hst4 H4 zz s (Fw.refl _ _) (k4.mono (by omega)) izz o1 o2 o3
            walk_at "r"
            refine ⟨S, xs', _, rfl, rfl, g1, small1000 (by omega), ?_⟩
            refine ⟨_, _, ss ++ [s], rfl, g3, g4, upd_same, g5, by simp [hli], fun t ht => ?_⟩
            rcases List.mem_append.mp ht with h | h
            · exact hok t h
            · rw [List.mem_singleton.mp h]
              exact ⟨o1, o2, o3⟩
          · walk_at "r"
            refine ⟨Or.inl ⟨rfl, _, Or.inl (Or.inl hS3)⟩, ?_⟩
            walk_at "r"
            refine ⟨_, _, _, n, rfl, by omega, n8, k3, by omega, fun H4 v s w4 k4 iv o1 o2 o3 => ?_⟩
            obtain ⟨xs', g1, g2, g3, g4, g5⟩ := more H3 _ f3 k3 (by omega) hS3 hst3 H4 v s w4 (k4.mono (by omega)) iv o1 o2 o3
            refine ⟨S, xs', _, rfl, rfl, g1, small1000 (by omega), ?_⟩
            refine ⟨_, _, ss ++ [s], rfl, g3, g4, upd_same, g5, by simp [hli], fun t ht => ?_⟩
            rcases List.mem_append.mp ht with h | h
            · exact hok t h
            · rw [List.mem_singleton.mp h]
              exact ⟨o1, o2, o3⟩
        · walk_at "r"
          refine ⟨Or.inl ⟨rfl, _, Or.inl (Or.inl hS2)⟩, ?_⟩
          walk_at "r"
          refine ⟨_, _, _, n, rfl, by omega, n8, k2, by omega, fun H4 v s w4 k4 iv o1 o2 o3 => ?_⟩
          obtain ⟨xs', g1, g2, g3, g4, g5⟩ := more H2 _ f2 k2 (by omega) hS2 hst H4 v s w4 (k4.mono (by omega)) iv o1 o2 o3
          refine ⟨S, xs', _, rfl, rfl, g1, small1000 (by omega), ?_⟩
          refine ⟨_, _, ss ++ [s], rfl, g3, g4, upd_same, g5, by simp [hli], fun t ht => ?_⟩
          rcases List.mem_append.mp ht with h | h
          · exact hok t h
          · rw [List.mem_singleton.mp h]
            exact ⟨o1, o2, o3⟩
      · rintro σ H2 ⟨t3, xs, ss, rfl, f2, k2, hS2, hst, hli, hok⟩
        walk_at "r"
        exact q _ _ xs ss f2 (k2.mono (by omega)) hSD hS2 hst (by omega) hok
    · walk_at "r"
      exact q _ _ [] [] (Same.fw s0) (dk0.mono (by omega)) hSD hS0 .nil (by simp) (by simp)
end
end My
namespace My
open PySem PySem.Spec PyProof.Rows L2
variable {K : PySem.W.Frag}
theorem rd_ixAny {H : Hp} {Q : VK} {p : Addr} {xs : List V} {i : Int} {v : V} (h : H p = some (.lst xs) ∨ H p = some (.tup xs)) (e : atI xs i = some v) (q : Q v H) : rIxA K (.ref p) (.int i) H Q := ⟨p, xs, i, v, rfl, rfl, h.imp .of .of, e, q⟩
/-- a word and a place -/
def IsW (H : Hp) (v : V) (s : Str) (i : Int) : Prop := ∃ p, v = .ref p ∧ H p = some (.tup [.str s, .int i])
theorem eqvW (s t : Str) (i j : Int) : PyData.eqv (.tuple [.str s, .int i]) (.tuple [.str t, .int j]) = (decide (s = t) && decide (i = j)) := by
  simp [PyData.eqv, PyData.eqvAll, Bool.beq_eq_decide_eq]
theorem IsW.dp {H : Hp} {v : V} {s : Str} {i : Int} (h : IsW H v s i) : Dp K H v (.tuple [.str s, .int i]) := by
  obtain ⟨p, rfl, h⟩ := h
  exact .tup (.of h) (.cons (.str _) (.cons (.int _) .nil))
theorem IsW.same {H H' : Hp} {v : V} {s : Str} {i : Int} (h : IsW H v s i) (sm : Same H H') : IsW H' v s i := by
  obtain ⟨p, e, h⟩ := h
  exact ⟨p, e, sm _ _ h⟩
theorem shW {s : Str} {i : Int} (h : PyData.canLay0 (.str s) = true) : SeqAt.shaped (.tuple [.str s, .int i]) = true := by
  unfold SeqAt.shaped
  rw [Bool.and_eq_true]
  refine ⟨?_, decide_eq_true (show max (PyData.depth (.str s)) (max (PyData.depth (.int i)) 0) + 1 ≤ 64 from Nat.le_of_ble_eq_true rfl)⟩
  show (PyData.canLay0 (.str s) && (true && true)) = true
  rw [h]
  rfl
theorem told_ok : PyData.canLay0 (.str "told") = true := by decide +kernel
theorem deal_ok : PyData.canLay0 (.str "deal") = true := by decide +kernel
theorem neWd {H : Hp} {v u : V} {s t : Str} {i j : Int} {Q : VK} (h1 : IsW H v s i) (h2 : IsW H u t j) (o1 : PyData.canLay0 (.str s) = true) (o2 : PyData.canLay0 (.str t) = true) (q : Q (.bl (!(decide (s = t) && decide (i = j)))) H) : rNeD K v u H Q := by
  refine ⟨_, _, h1.dp, h2.dp, shW o1, shW o2, ?_⟩
  rw [eqvW]
  exact q
theorem eqWd {H : Hp} {v u : V} {s t : Str} {i j : Int} {Q : VK} (h1 : IsW H v s i) (h2 : IsW H u t j) (o1 : PyData.canLay0 (.str s) = true) (o2 : PyData.canLay0 (.str t) = true) (q : Q (.bl (decide (s = t) && decide (i = j))) H) : rEqD K v u H Q := by
  refine ⟨_, _, h1.dp, h2.dp, shW o1, shW o2, ?_⟩
  rw [eqvW]
  exact q
theorem eqST {H : Hp} {p p2 : Addr} {xs ys : List V} {ss : List Stl} {Q : VK} (h1 : H p = some (.tup xs)) (f1 : Sts K H xs ss) (h2 : H p2 = some (.tup ys)) (f2 : Sts K H ys ss) (q : Q (.bl true) H) : rEqD K (.ref p) (.ref p2) H Q := by
  refine ⟨_, _, f1.dp h1, f2.dp h2, sts_shaped _, sts_shaped _, ?_⟩
  rw [show PyData.eqv (.tuple (ss.map stD)) (.tuple (ss.map stD)) = true from (sts_eqv ss ss).trans (decide_eq_true rfl)]
  exact q
theorem stall_ok : PyData.canLay0 (.str "stall") = true := by decide +kernel
theorem wares_ok : PyData.canLay0 (.str "wares") = true := by decide +kernel
def dueS : Option Int → Str × Int
  | none => ("told", 0)
  | some i => ("stall", i)
theorem dueS_ok (o : Option Int) : PyData.canLay0 (.str (dueS o).1) = true := by
  cases o with
  | none => decide +kernel
  | some i =>
    show PyData.canLay0 (.str "stall") = true
    decide +kernel
theorem prod_iff (x y z : Rat) : (x.num * y.num * z.den * z.den = z.num * z.num * x.den * y.den) ↔ x * y = z * z := by
  have hx := den_pos x
  have hy := den_pos y
  have hz := den_pos z
  have e1 : x * y = Rat.divInt (x.num * y.num) ((x.den : Int) * y.den) := (divInt_mul' x y).symm
  have e2 : z * z = Rat.divInt (z.num * z.num) ((z.den : Int) * z.den) := (divInt_mul' z z).symm
  rw [e1, e2, Rat.divInt_eq_divInt_iff (Int.ne_of_gt (Int.mul_pos hx hy)) (Int.ne_of_gt (Int.mul_pos hz hz))]
  rw [← Int.mul_assoc, ← Int.mul_assoc]
/-- right stalls among things that are judged -/
theorem sts_good {n : Nat} {D : Addr} {H : Hp} : ∀ {xs : List V} {ts : List (Option T5)}, Paired (J5 K D H) xs ts → (∀ t ∈ ts, sOk n t = true) → ∃ ss, Sts K H xs ss ∧ ∀ s ∈ ss, OkSt n s ∧ BdSt 40 s := by
  intro xs ts hp
  induction hp with
  | nil => exact fun _ => ⟨[], .nil, by simp⟩
  | cons h t ih =>
    intro ha
    obtain ⟨ss, f, g⟩ := ih fun o ho => ha o (by simp [ho])
    obtain ⟨s, h1, h2, h3⟩ := j5_ok h (ha _ List.mem_cons_self)
    exact ⟨s :: ss, .cons h1 f, fun m hm => by
      rcases List.mem_cons.mp hm with rfl | hm
      · exact ⟨h2, h3⟩
      · exact g m hm⟩
theorem jsl_good {n : Nat} {D : Addr} {H : Hp} {y : V} (j : JSl K D H n y none) : ∃ L xs ss, y = .ref L ∧ SqAt H L xs ∧ Sts K H xs ss ∧ xs.length ≤ 16 ∧ ∀ s ∈ ss, OkSt n s ∧ BdSt 40 s := by
  rcases j with ⟨p, xs, ts, rfl, np, h, hj, l, e⟩ | ⟨_, e⟩
  · have hl := Paired.length hj
    unfold flt5 at e
    split at e
    · cases e
    · rename_i c16
      obtain ⟨ss, h1, h2⟩ := sts_good hj (badF_ok (Option.map_eq_none_iff.mp e.symm))
      exact ⟨p, xs, ss, rfl, h, h1, by omega, h2⟩
  · cases e
/-- what Web says of any number and any stalls -/
def ansW (o : Option Int) (f : Nat → Option Int) : Str × Int := match o with
  | some i => if wOk (some i) = true then dueS (f i.toNat) else ("wares", 0)
  | none => ("wares", 0)
theorem ansW_no {o : Option Int} {f : Nat → Option Int} (h : wOk o = false) : ansW o f = (("wares" : Str), (0 : Int)) := by
  cases o with
  | none => rfl
  | some i =>
    show (if wOk (some i) = true then dueS (f i.toNat) else ("wares", 0)) = _
    rw [h]
    rfl
theorem ansW_yes {n : Nat} {f : Nat → Option Int} (h : wOk (some (n : Int)) = true) : ansW (some (n : Int)) f = dueS (f n) := by
  show (if wOk (some (n : Int)) = true then dueS (f (n : Int).toNat) else ("wares", 0)) = _
  rw [h, Int.toNat_natCast]
  rfl
theorem ansW_ok (o : Option Int) (f : Nat → Option Int) : PyData.canLay0 (.str (ansW o f).1) = true := by
  cases h : wOk o with
  | false =>
    rw [ansW_no h]
    exact wares_ok
  | true =>
    cases o with
    | none => cases h
    | some i =>
      have e : ansW (some i) f = dueS (f i.toNat) := by
        show (if wOk (some i) = true then dueS (f i.toNat) else ("wares", 0)) = _
        rw [h]
        rfl
      rw [e]
      exact dueS_ok _
section
variable {P : Program} {w : World} {K : PySem.W.Frag} {mg : Str → Option Value} {base : Heap} {f_is_integer f_is_row f_is_fraction f_is_some f_multiplied f_squared f_is_stall f_l_deck f_l_pick f_l_divisor f_l_made f_l_amount f_l_stall f_l_stalls f_l_deep f_l_odd f_l_changed f_l_is_some f_l_is_ware f_l_is_stall f_l_due f_l_answer f_l_is_told f_law f_BadStall_init f_Web_init f_Web_eq c_BadWares c_BadStall c_Web : Addr} {d_is_integer d_is_row d_is_fraction d_is_some d_multiplied d_squared d_is_stall d_l_deck d_l_pick d_l_divisor d_l_made d_l_amount d_l_stall d_l_stalls d_l_deep d_l_odd d_l_changed d_l_is_some d_l_is_ware d_l_is_stall d_l_due d_l_answer d_l_is_told d_law d_BadStall_init d_Web_init d_Web_eq : FuncData}
/-- an integer from 0 on below this number -/
def sp_lbelow (K : PySem.W.Frag) : Sp := fun vs H Q _ => ∃ (y : V) (D : Addr) (m : Nat) (o : Option Int), vs = [y, .int (m : Nat)] ∧ JI K D H y o ∧ Q (.bl (ixOk m o)) H
theorem ok_l_is_ware (T : Txt K mg f_is_integer f_is_row f_is_fraction f_is_some f_multiplied f_squared f_is_stall f_l_deck f_l_pick f_l_divisor f_l_made f_l_amount f_l_stall f_l_stalls f_l_deep f_l_odd f_l_changed f_l_is_some f_l_is_ware f_l_is_stall f_l_due f_l_answer f_l_is_told f_law f_BadStall_init f_Web_init f_Web_eq c_BadWares c_BadStall c_Web d_is_integer d_is_row d_is_fraction d_is_some d_multiplied d_squared d_is_stall d_l_deck d_l_pick d_l_divisor d_l_made d_l_amount d_l_stall d_l_stalls d_l_deep d_l_odd d_l_changed d_l_is_some d_l_is_ware d_l_is_stall d_l_due d_l_answer d_l_is_told d_law d_BadStall_init d_Web_init d_Web_eq) : FnOk P w K mg base CX0 1 f_l_is_ware d_l_is_ware ["_law_thing", "_law_wares"] (sp_lbelow K) := by
  refine T.F_l_is_ware.ok sc_l_is_ware (fun vs H Q E h => ?_) (fun cdv A outer s H vs Q E hr h => ?_)
  · obtain ⟨y, D, m, o, rfl, _⟩ := h
    rfl
  · obtain ⟨y, D, m, o, rfl, hy, q⟩ := h
    refine ⟨_, (pss_one (ps_ret (pe_and (pe_callB call_isi (by rfl) T.z_isinstance (by decide +kernel) (pa_cons (pv 0) (pa_cons (pe_bltn (v := .ty "int") (u := .type "int") (by rfl) T.z_int (by decide +kernel) rfl) pa_nil))) (pe_and (pe_not (pe_callB call_isi (by rfl) T.z_isinstance (by decide +kernel) (pa_cons (pv 0) (pa_cons (pe_bltn (v := .ty "bool") (u := .type "bool") (by rfl) T.z_bool (by decide +kernel) rfl) pa_nil)))) (pe_one (pe_chain op_le op_lt pe_int (pv 0) (pv 1))))))), ?_⟩
    rcases hy with ⟨i, rfl, rfl⟩ | ⟨o, rfl⟩
    · walk_at "r"
      walk_at "if"
      · rename_i h0
        walk_at "r"
        have e : ixOk m (some i) = decide (i < (m : Nat)) := by
          show (decide (0 ≤ i) && decide (i < (m : Nat))) = _
          rw [decide_eq_true h0, Bool.true_and]
        rw [e] at q
        exact q
      · rename_i h0
        walk_at "r"
        have e : ixOk m (some i) = false := by
          show (decide (0 ≤ i) && decide (i < (m : Nat))) = _
          rw [decide_eq_false h0, Bool.false_and]
        rw [e] at q
        exact q
    · obtain ⟨b1, b2, b3, hb, h1, h2, -⟩ := o.isi
      walk_at "r"
      refine h1 _ ?_
      cases b1 with
      | false =>
        walk_at "r"
        exact q
      | true =>
        have e : b2 = true := by
          cases b2
          · cases hb
          · rfl
        subst e
        walk_at "r"
        refine h2 _ ?_
        walk_at "r"
        exact q
def sp_lsomeP (K : PySem.W.Frag) : Sp := fun vs H Q _ => ∃ (p : Addr) (i j : Int), vs = [.ref p] ∧ Tp K H p [.int i, .int j] ∧ j.natAbs < 2 ^ 20000 ∧ Q (.bl (decide (1 ≤ i) && (decide (1 ≤ j) && decide (Nat.gcd i.natAbs j.natAbs = 1)))) H
theorem ok_l_is_someP (T : Txt K mg f_is_integer f_is_row f_is_fraction f_is_some f_multiplied f_squared f_is_stall f_l_deck f_l_pick f_l_divisor f_l_made f_l_amount f_l_stall f_l_stalls f_l_deep f_l_odd f_l_changed f_l_is_some f_l_is_ware f_l_is_stall f_l_due f_l_answer f_l_is_told f_law f_BadStall_init f_Web_init f_Web_eq c_BadWares c_BadStall c_Web d_is_integer d_is_row d_is_fraction d_is_some d_multiplied d_squared d_is_stall d_l_deck d_l_pick d_l_divisor d_l_made d_l_amount d_l_stall d_l_stalls d_l_deep d_l_odd d_l_changed d_l_is_some d_l_is_ware d_l_is_stall d_l_due d_l_answer d_l_is_told d_law d_BadStall_init d_Web_init d_Web_eq) : FnOk P w K mg base CX0 2 f_l_is_some d_l_is_some ["_law_thing"] (sp_lsomeP K) := by
  have G_l_divisor : FnOk P w K mg base CX0 1 f_l_divisor d_l_divisor ["_law_one", "_law_other"] sp_divisor := ok_l_divisor T
  refine T.F_l_is_some.ok sc_l_is_some (fun vs H Q E h => ?_) (fun cdv A outer sh H vs Q E hr h => ?_)
  · obtain ⟨p, i, j, rfl, _⟩ := h
    rfl
  · obtain ⟨p, i, j, rfl, hp, hj, q⟩ := h
    refine ⟨_, (pss_cons (ps_if (PW.pt (pw_or (pt_not (pt_val (pe_callB call_isi (by rfl) T.z_isinstance (by decide +kernel) (pa_cons (pv 0) (pa_cons (pe_bltn (v := .ty "tuple") (u := .type "tuple") (by rfl) T.z_tuple (by decide +kernel) rfl) pa_nil))))) (pw_or1 (pt_cmpR op_ne (pe_callB call_lenN (by rfl) T.z_len (by decide +kernel) (pa_cons (pv 0) pa_nil)) pe_int (nomark _)))))
        (pss_one (ps_ret pe_bl))
        pss_nil)
      (pss_cons (ps_for PassesOwn.never rfl (pi_tup (pv 0)) (pg_name (i := 1) sc_l_is_some.nd rfl (by first | exact Or.inl rfl | exact Or.inr rfl))
        (pss_one (ps_if (PW.pt (pw_or (pt_not (pt_val (pe_callB call_isi (by rfl) T.z_isinstance (by decide +kernel) (pa_cons (pv 1) (pa_cons (pe_bltn (v := .ty "int") (u := .type "int") (by rfl) T.z_int (by decide +kernel) rfl) pa_nil))))) (pw_or (pt_val (pe_callB call_isi (by rfl) T.z_isinstance (by decide +kernel) (pa_cons (pv 1) (pa_cons (pe_bltn (v := .ty "bool") (u := .type "bool") (by rfl) T.z_bool (by decide +kernel) rfl) pa_nil)))) (pw_or1 (pt_cmpR op_lt (pv 1) pe_int (nomark _))))))
            (pss_one (ps_ret pe_bl))
            pss_nil)))
      (pss_one (ps_ret (pe_cmpR op_eq (pe_call G_l_divisor (hr.mono (by decide)) (by rfl) T.g_l_divisor T.k_l_divisor T.b_l_divisor .nil pass0 (pa_cons (pe_ix ix_tup (pv 0) pe_int (fun _ _ => rfl)) (pa_cons (pe_ix ix_tup (pv 0) pe_int (fun _ _ => rfl)) pa_nil))) pe_int (nomark _)))))), ?_⟩
    walk_at "r"
    refine ⟨⟨_, hp.sq⟩, ?_⟩
    refine for_tup (K := K) (a := p) (xs := [V.int i, .int j]) (fun k σ H' => ∃ (t1 : Option V), σ = [some (.ref p), t1] ∧ H' = H ∧ (0 < k → 1 ≤ i) ∧ (1 < k → 1 ≤ j)) ?_ ?_ ?_ ?_
    · exact ⟨_, rfl, rfl, fun h => absurd h (Nat.lt_irrefl 0), fun h => absurd h (by decide)⟩
    · rintro k σ H' _ ⟨t1, rfl, rfl, _⟩
      exact hp.sq
    · rintro k v σ H' hv ⟨t1, rfl, rfl, h1, h2⟩
      match k, hv with
      | 0, hv =>
        cases hv
        walk_at "r"
        walk_at "if"
        · rename_i h
          walk_at "r"
          rw [decide_eq_false (show ¬ 1 ≤ i by omega), Bool.false_and] at q
          exact q
        · rename_i h
          walk_at "r"
          exact ⟨rfl, fun _ => by omega, fun h => absurd h (by decide)⟩
      | 1, hv =>
        cases hv
        have i1 := h1 (by decide)
        walk_at "r"
        walk_at "if"
        · rename_i h
          walk_at "r"
          rw [decide_eq_false (show ¬ 1 ≤ j by omega), Bool.false_and, Bool.and_false] at q
          exact q
        · rename_i h
          walk_at "r"
          exact ⟨rfl, fun _ => i1, fun _ => by omega⟩
    rintro σ H' ⟨t1, rfl, rfl, h1, h2⟩
    have i1 := h1 (show 0 < 2 by decide)
    have j1 := h2 (show 1 < 2 by decide)
    walk_at "r"
    refine ⟨_, _, rfl, hj, ?_⟩
    walk_at "r"
    rw [decide_eq_true i1, decide_eq_true j1, Bool.true_and, Bool.true_and] at q
    rw [show decide (((Nat.gcd i.natAbs j.natAbs : Nat) : Int) = 1) = decide (Nat.gcd i.natAbs j.natAbs = 1) from decide_eq_decide.mpr (by omega)]
    exact q
def sp_lsomeN (K : PySem.W.Frag) : Sp := fun vs H Q _ => ∃ (v : V) (D : Addr), vs = [v] ∧ ((∃ i, v = .int i) ∨ (Od K D H v ∧ ∀ p xs, v = .ref p → H p = some (.tup xs) → xs.length ≠ 2) ∨ (∃ p x y, v = .ref p ∧ H p = some (.tup [x, y]) ∧ Od K D H x) ∨ (∃ p i y, v = .ref p ∧ H p = some (.tup [.int i, y]) ∧ Od K D H y)) ∧ Q (.bl false) H
theorem ok_l_is_someN (T : Txt K mg f_is_integer f_is_row f_is_fraction f_is_some f_multiplied f_squared f_is_stall f_l_deck f_l_pick f_l_divisor f_l_made f_l_amount f_l_stall f_l_stalls f_l_deep f_l_odd f_l_changed f_l_is_some f_l_is_ware f_l_is_stall f_l_due f_l_answer f_l_is_told f_law f_BadStall_init f_Web_init f_Web_eq c_BadWares c_BadStall c_Web d_is_integer d_is_row d_is_fraction d_is_some d_multiplied d_squared d_is_stall d_l_deck d_l_pick d_l_divisor d_l_made d_l_amount d_l_stall d_l_stalls d_l_deep d_l_odd d_l_changed d_l_is_some d_l_is_ware d_l_is_stall d_l_due d_l_answer d_l_is_told d_law d_BadStall_init d_Web_init d_Web_eq) : FnOk P w K mg base CX0 2 f_l_is_some d_l_is_some ["_law_thing"] (sp_lsomeN K) := by
  have G_l_divisor : FnOk P w K mg base CX0 1 f_l_divisor d_l_divisor ["_law_one", "_law_other"] sp_divisor := ok_l_divisor T
  refine T.F_l_is_some.ok sc_l_is_some (fun vs H Q E h => ?_) (fun cdv A outer sh H vs Q E hr h => ?_)
  · obtain ⟨v, D, rfl, _⟩ := h
    rfl
  · obtain ⟨v, D, rfl, ⟨i, rfl⟩ | ⟨o, hn⟩ | ⟨p, x, y, rfl, hp, o⟩ | ⟨p, i, y, rfl, hp, o⟩, q⟩ := h
    · refine ⟨_, (pss_cons (ps_if (PW.pt (pw_or (pt_not (pt_val (pe_callB call_isi (by rfl) T.z_isinstance (by decide +kernel) (pa_cons (pv 0) (pa_cons (pe_bltn (v := .ty "tuple") (u := .type "tuple") (by rfl) T.z_tuple (by decide +kernel) rfl) pa_nil))))) (pw_or1 (pt_cmpR op_ne (pe_callB call_lenN (by rfl) T.z_len (by decide +kernel) (pa_cons (pv 0) pa_nil)) pe_int (nomark _)))))
        (pss_one (ps_ret pe_bl))
        pss_nil)
      (pss_cons (ps_for PassesOwn.never rfl (pi_tup (pv 0)) (pg_name (i := 1) sc_l_is_some.nd rfl (by first | exact Or.inl rfl | exact Or.inr rfl))
        (pss_one (ps_if (PW.pt (pw_or (pt_not (pt_val (pe_callB call_isi (by rfl) T.z_isinstance (by decide +kernel) (pa_cons (pv 1) (pa_cons (pe_bltn (v := .ty "int") (u := .type "int") (by rfl) T.z_int (by decide +kernel) rfl) pa_nil))))) (pw_or (pt_val (pe_callB call_isi (by rfl) T.z_isinstance (by decide +kernel) (pa_cons (pv 1) (pa_cons (pe_bltn (v := .ty "bool") (u := .type "bool") (by rfl) T.z_bool (by decide +kernel) rfl) pa_nil)))) (pw_or1 (pt_cmpR op_lt (pv 1) pe_int (nomark _))))))
            (pss_one (ps_ret pe_bl))
            pss_nil)))
      (pss_one (ps_ret (pe_cmpR op_eq (pe_call G_l_divisor (hr.mono (by decide)) (by rfl) T.g_l_divisor T.k_l_divisor T.b_l_divisor .nil pass0 (pa_cons (pe_ix ix_tup (pv 0) pe_int (fun _ _ => rfl)) (pa_cons (pe_ix ix_tup (pv 0) pe_int (fun _ _ => rfl)) pa_nil))) pe_int (nomark _)))))), ?_⟩
      walk_at "r"
      exact q
    · refine ⟨_, (pss_cons (ps_if (PW.pt (pw_or (pt_not (pt_val (pe_callB call_isi (by rfl) T.z_isinstance (by decide +kernel) (pa_cons (pv 0) (pa_cons (pe_bltn (v := .ty "tuple") (u := .type "tuple") (by rfl) T.z_tuple (by decide +kernel) rfl) pa_nil))))) (pw_or1 (pt_cmpR op_ne (pe_callB call_lenN (by rfl) T.z_len (by decide +kernel) (pa_cons (pv 0) pa_nil)) pe_int (nomark _)))))
        (pss_one (ps_ret pe_bl))
        pss_nil)
      (pss_cons (ps_for PassesOwn.never rfl (pi_tup (pv 0)) (pg_name (i := 1) sc_l_is_some.nd rfl (by first | exact Or.inl rfl | exact Or.inr rfl))
        (pss_one (ps_if (PW.pt (pw_or (pt_not (pt_val (pe_callB call_isi (by rfl) T.z_isinstance (by decide +kernel) (pa_cons (pv 1) (pa_cons (pe_bltn (v := .ty "int") (u := .type "int") (by rfl) T.z_int (by decide +kernel) rfl) pa_nil))))) (pw_or (pt_val (pe_callB call_isi (by rfl) T.z_isinstance (by decide +kernel) (pa_cons (pv 1) (pa_cons (pe_bltn (v := .ty "bool") (u := .type "bool") (by rfl) T.z_bool (by decide +kernel) rfl) pa_nil)))) (pw_or1 (pt_cmpR op_lt (pv 1) pe_int (nomark _))))))
            (pss_one (ps_ret pe_bl))
            pss_nil)))
      (pss_one (ps_ret (pe_cmpR op_eq (pe_call G_l_divisor (hr.mono (by decide)) (by rfl) T.g_l_divisor T.k_l_divisor T.b_l_divisor .nil pass0 (pa_cons (pe_ix ix_tup (pv 0) pe_int (fun _ _ => rfl)) (pa_cons (pe_ix ix_tup (pv 0) pe_int (fun _ _ => rfl)) pa_nil))) pe_int (nomark _)))))), ?_⟩
      obtain ⟨b1, b2, b3, hb, -, -, h3, ht⟩ := o.isi
      walk_at "r"
      refine h3 _ ?_
      cases b3 with
      | false =>
        walk_at "r"
        exact q
      | true =>
        obtain ⟨p, xs, rfl, np, hp⟩ := ht rfl
        have hl : ¬ ((xs.length : Int) = 2) := by
          have := hn p xs rfl hp
          omega
        walk_at "r"
        exact q
    · refine ⟨_, (pss_cons (ps_if (PW.pt (pw_or (pt_not (pt_val (pe_callB call_isi (by rfl) T.z_isinstance (by decide +kernel) (pa_cons (pv 0) (pa_cons (pe_bltn (v := .ty "tuple") (u := .type "tuple") (by rfl) T.z_tuple (by decide +kernel) rfl) pa_nil))))) (pw_or1 (pt_cmpR op_ne (pe_callB call_lenN (by rfl) T.z_len (by decide +kernel) (pa_cons (pv 0) pa_nil)) pe_int (nomark _)))))
        (pss_one (ps_ret pe_bl))
        pss_nil)
      (pss_cons (ps_for PassesOwn.never rfl (pi_tup (pv 0)) (pg_name (i := 1) sc_l_is_some.nd rfl (by first | exact Or.inl rfl | exact Or.inr rfl))
        (pss_one (ps_if (PW.pt (pw_or (pt_not (pt_val (pe_callB call_isi (by rfl) T.z_isinstance (by decide +kernel) (pa_cons (pv 1) (pa_cons (pe_bltn (v := .ty "int") (u := .type "int") (by rfl) T.z_int (by decide +kernel) rfl) pa_nil))))) (pw_or (pt_val (pe_callB call_isi (by rfl) T.z_isinstance (by decide +kernel) (pa_cons (pv 1) (pa_cons (pe_bltn (v := .ty "bool") (u := .type "bool") (by rfl) T.z_bool (by decide +kernel) rfl) pa_nil)))) (pw_or1 (pt_cmpR op_lt (pv 1) pe_int (nomark _))))))
            (pss_one (ps_ret pe_bl))
            pss_nil)))
      (pss_one (ps_ret (pe_cmpR op_eq (pe_call G_l_divisor (hr.mono (by decide)) (by rfl) T.g_l_divisor T.k_l_divisor T.b_l_divisor .nil pass0 (pa_cons (pe_ix ix_tup (pv 0) pe_int (fun _ _ => rfl)) (pa_cons (pe_ix ix_tup (pv 0) pe_int (fun _ _ => rfl)) pa_nil))) pe_int (nomark _)))))), ?_⟩
      walk_at "r"
      refine ⟨⟨_, .of hp⟩, ?_⟩
      refine for_tup (K := K) (a := p) (xs := [x, y]) (fun k σ H' => ∃ (t1 : Option V), σ = [some (.ref p), t1] ∧ H' = H ∧ k = 0) ?_ ?_ ?_ ?_
      · exact ⟨_, rfl, rfl, rfl⟩
      · rintro k σ H' _ ⟨t1, rfl, rfl, _⟩
        exact .of hp
      · rintro k v σ H' hv ⟨t1, rfl, rfl, rfl⟩
        cases hv
        obtain ⟨b1, b2, b3, hb, h1, h2, -⟩ := o.isi
        walk_at "r"
        refine h1 _ ?_
        cases b1 with
        | false =>
          walk_at "r"
          exact q
        | true =>
          have e : b2 = true := by
            cases b2
            · cases hb
            · rfl
          subst e
          walk_at "r"
          refine h2 _ ?_
          walk_at "r"
          exact q
      · rintro σ H' ⟨t1, rfl, rfl, e⟩
        cases e
    · refine ⟨_, (pss_cons (ps_if (PW.pt (pw_or (pt_not (pt_val (pe_callB call_isi (by rfl) T.z_isinstance (by decide +kernel) (pa_cons (pv 0) (pa_cons (pe_bltn (v := .ty "tuple") (u := .type "tuple") (by rfl) T.z_tuple (by decide +kernel) rfl) pa_nil))))) (pw_or1 (pt_cmpR op_ne (pe_callB call_lenN (by rfl) T.z_len (by decide +kernel) (pa_cons (pv 0) pa_nil)) pe_int (nomark _)))))
        (pss_one (ps_ret pe_bl))
        pss_nil)
      (pss_cons (ps_for PassesOwn.never rfl (pi_tup (pv 0)) (pg_name (i := 1) sc_l_is_some.nd rfl (by first | exact Or.inl rfl | exact Or.inr rfl))
        (pss_one (ps_if (PW.pt (pw_or (pt_not (pt_val (pe_callB call_isi (by rfl) T.z_isinstance (by decide +kernel) (pa_cons (pv 1) (pa_cons (pe_bltn (v := .ty "int") (u := .type "int") (by rfl) T.z_int (by decide +kernel) rfl) pa_nil))))) (pw_or (pt_val (pe_callB call_isi (by rfl) T.z_isinstance (by decide +kernel) (pa_cons (pv 1) (pa_cons (pe_bltn (v := .ty "bool") (u := .type "bool") (by rfl) T.z_bool (by decide +kernel) rfl) pa_nil)))) (pw_or1 (pt_cmpR op_lt (pv 1) pe_int (nomark _))))))
            (pss_one (ps_ret pe_bl))
            pss_nil)))
      (pss_one (ps_ret (pe_cmpR op_eq (pe_call G_l_divisor (hr.mono (by decide)) (by rfl) T.g_l_divisor T.k_l_divisor T.b_l_divisor .nil pass0 (pa_cons (pe_ix ix_tup (pv 0) pe_int (fun _ _ => rfl)) (pa_cons (pe_ix ix_tup (pv 0) pe_int (fun _ _ => rfl)) pa_nil))) pe_int (nomark _)))))), ?_⟩
      walk_at "r"
      refine ⟨⟨_, .of hp⟩, ?_⟩
      refine for_tup (K := K) (a := p) (xs := [V.int i, y]) (fun k σ H' => ∃ (t1 : Option V), σ = [some (.ref p), t1] ∧ H' = H ∧ k ≤ 1) ?_ ?_ ?_ ?_
      · exact ⟨_, rfl, rfl, by decide⟩
      · rintro k σ H' _ ⟨t1, rfl, rfl, _⟩
        exact .of hp
      · rintro k v σ H' hv ⟨t1, rfl, rfl, hk⟩
        match k, hv with
        | 0, hv =>
          cases hv
          walk_at "r"
          walk_at "if"
          · walk_at "r"
            exact q
          · walk_at "r"
            exact ⟨rfl, Nat.le_refl 1⟩
        | 1, hv =>
          cases hv
          obtain ⟨b1, b2, b3, hb, h1, h2, -⟩ := o.isi
          walk_at "r"
          refine h1 _ ?_
          cases b1 with
          | false =>
            walk_at "r"
            exact q
          | true =>
            have e : b2 = true := by
              cases b2
              · cases hb
              · rfl
            subst e
            walk_at "r"
            refine h2 _ ?_
            walk_at "r"
            exact q
      · rintro σ H' ⟨t1, rfl, rfl, e⟩
        exact absurd e (show ¬ 2 ≤ 1 by decide)
def sp_lsomeJ (K : PySem.W.Frag) : Sp := fun vs H Q _ => ∃ v D o, vs = [v] ∧ JF K D H v o ∧ Q (.bl (sa o)) H
theorem ok_l_is_some (T : Txt K mg f_is_integer f_is_row f_is_fraction f_is_some f_multiplied f_squared f_is_stall f_l_deck f_l_pick f_l_divisor f_l_made f_l_amount f_l_stall f_l_stalls f_l_deep f_l_odd f_l_changed f_l_is_some f_l_is_ware f_l_is_stall f_l_due f_l_answer f_l_is_told f_law f_BadStall_init f_Web_init f_Web_eq c_BadWares c_BadStall c_Web d_is_integer d_is_row d_is_fraction d_is_some d_multiplied d_squared d_is_stall d_l_deck d_l_pick d_l_divisor d_l_made d_l_amount d_l_stall d_l_stalls d_l_deep d_l_odd d_l_changed d_l_is_some d_l_is_ware d_l_is_stall d_l_due d_l_answer d_l_is_told d_law d_BadStall_init d_Web_init d_Web_eq) : FnOk P w K mg base CX0 2 f_l_is_some d_l_is_some ["_law_thing"] (sp_lsomeJ K) :=
  (fn_or (ok_l_is_someP T) (ok_l_is_someN T)).imp fun vs H Q E h => by
    obtain ⟨v, D, o, rfl, j, q⟩ := h
    rcases j with ⟨r, ⟨p, rfl, hp⟩, bd, rfl⟩ | ⟨nf, rfl⟩
    · refine .inl ⟨p, r.num, r.den, rfl, hp, Nat.lt_of_lt_of_le (show ((r.den : Int)).natAbs < 2 ^ 40 by rw [Int.natAbs_natCast]; exact bd.2) (pow_le (by decide)), ?_⟩
      have d := den_pos r
      have g : decide (Nat.gcd r.num.natAbs ((r.den : Int)).natAbs = 1) = true := decide_eq_true (by rw [Int.natAbs_natCast]; exact gcd_den r)
      have e : (decide (1 ≤ r.num) && (decide (1 ≤ (r.den : Int)) && decide (Nat.gcd r.num.natAbs ((r.den : Int)).natAbs = 1))) = sa (some r) := by
        rw [g, decide_eq_true (show 1 ≤ (r.den : Int) by omega), Bool.and_true, Bool.and_true]
        show decide (1 ≤ r.num) = decide (0 < r)
        rw [Bool.eq_iff_iff, decide_eq_true_eq, decide_eq_true_eq, Rat.lt_iff]
        simp
        omega
      rw [e]
      exact q
    · cases nf with
      | int i => exact .inr ⟨_, D, rfl, .inl ⟨i, rfl⟩, q⟩
      | not o h => exact .inr ⟨_, D, rfl, .inr (.inl ⟨o, h⟩), q⟩
      | fst n h o => exact .inr ⟨_, D, rfl, .inr (.inr (.inl ⟨_, _, _, rfl, h, o⟩)), q⟩
      | snd n h o => exact .inr ⟨_, D, rfl, .inr (.inr (.inr ⟨_, _, _, rfl, h, o⟩)), q⟩
      | @low p i j n h z b =>
        refine .inl ⟨p, i, j, rfl, .inl h, Nat.lt_of_lt_of_le b (pow_le (by decide)), ?_⟩
        have e : (decide (1 ≤ i) && (decide (1 ≤ j) && decide (Nat.gcd i.natAbs j.natAbs = 1))) = false := by
          rw [Bool.eq_false_iff]
          intro hb
          simp only [Bool.and_eq_true, decide_eq_true_eq] at hb
          exact z ⟨by omega, hb.2.2⟩
        rw [e]
        exact q
def sp_lis_stall (K : PySem.W.Frag) : Sp := fun vs H Q _ => ∃ (n : Nat) (y : V) (D : Addr) (t : Option T5), vs = [y, .int (n : Nat)] ∧ J5 K D H y t ∧ Q (.bl (sOk n t)) H
theorem ok_l_is_stall (T : Txt K mg f_is_integer f_is_row f_is_fraction f_is_some f_multiplied f_squared f_is_stall f_l_deck f_l_pick f_l_divisor f_l_made f_l_amount f_l_stall f_l_stalls f_l_deep f_l_odd f_l_changed f_l_is_some f_l_is_ware f_l_is_stall f_l_due f_l_answer f_l_is_told f_law f_BadStall_init f_Web_init f_Web_eq c_BadWares c_BadStall c_Web d_is_integer d_is_row d_is_fraction d_is_some d_multiplied d_squared d_is_stall d_l_deck d_l_pick d_l_divisor d_l_made d_l_amount d_l_stall d_l_stalls d_l_deep d_l_odd d_l_changed d_l_is_some d_l_is_ware d_l_is_stall d_l_due d_l_answer d_l_is_told d_law d_BadStall_init d_Web_init d_Web_eq) : FnOk P w K mg base CX0 3 f_l_is_stall d_l_is_stall ["_law_thing", "_law_wares"] (sp_lis_stall K) := by
  have G_l_is_ware : FnOk P w K mg base CX0 1 f_l_is_ware d_l_is_ware ["_law_thing", "_law_wares"] (sp_lbelow K) := ok_l_is_ware T
  have G_l_is_some : FnOk P w K mg base CX0 2 f_l_is_some d_l_is_some ["_law_thing"] (sp_lsomeJ K) := ok_l_is_some T
  refine T.F_l_is_stall.ok sc_l_is_stall (fun vs H Q E h => ?_) (fun cdv A outer sh H vs Q E hr h => ?_)
  · obtain ⟨n, y, D, t, rfl, _⟩ := h
    rfl
  · obtain ⟨n, y, D, t, rfl, hy, q⟩ := h
    refine ⟨_, (pss_cons (ps_if (PW.pt (pw_or (pt_not (pt_val (pe_callB call_isi (by rfl) T.z_isinstance (by decide +kernel) (pa_cons (pv 0) (pa_cons (pe_bltn (v := .ty "tuple") (u := .type "tuple") (by rfl) T.z_tuple (by decide +kernel) rfl) pa_nil))))) (pw_or1 (pt_cmpR op_ne (pe_callB call_lenN (by rfl) T.z_len (by decide +kernel) (pa_cons (pv 0) pa_nil)) pe_int (nomark _)))))
        (pss_one (ps_ret pe_bl))
        pss_nil)
      (pss_cons (ps_if (PW.pt (pw_or (pt_not (pt_val (pe_call G_l_is_ware (hr.mono (by decide)) (by rfl) T.g_l_is_ware T.k_l_is_ware T.b_l_is_ware .nil pass0 (pa_cons (pe_ix ix_tup (pv 0) pe_int (fun _ _ => rfl)) (pa_cons (pv 1) pa_nil))))) (pw_or (pt_not (pt_val (pe_call G_l_is_ware (hr.mono (by decide)) (by rfl) T.g_l_is_ware T.k_l_is_ware T.b_l_is_ware .nil pass0 (pa_cons (pe_ix ix_tup (pv 0) pe_int (fun _ _ => rfl)) (pa_cons (pv 1) pa_nil))))) (pw_or1 (pt_cmpR op_eq (pe_ix ix_tup (pv 0) pe_int (fun _ _ => rfl)) (pe_ix ix_tup (pv 0) pe_int (fun _ _ => rfl)) (nomark _))))))
        (pss_one (ps_ret pe_bl))
        pss_nil)
      (pss_cons (ps_if (PW.pt (pw_or (pt_not (pt_val (pe_call G_l_is_some (hr.mono (by decide)) (by rfl) T.g_l_is_some T.k_l_is_some T.b_l_is_some .nil pass0 (pa_cons (pe_ix ix_tup (pv 0) pe_int (fun _ _ => rfl)) pa_nil)))) (pw_or (pt_not (pt_val (pe_call G_l_is_some (hr.mono (by decide)) (by rfl) T.g_l_is_some T.k_l_is_some T.b_l_is_some .nil pass0 (pa_cons (pe_ix ix_tup (pv 0) pe_int (fun _ _ => rfl)) pa_nil)))) (pw_or1 (pt_not (pt_val (pe_call G_l_is_some (hr.mono (by decide)) (by rfl) T.g_l_is_some T.k_l_is_some T.b_l_is_some .nil pass0 (pa_cons (pe_ix ix_tup (pv 0) pe_int (fun _ _ => rfl)) pa_nil))))))))
        (pss_one (ps_ret pe_bl))
        pss_nil)
      (pss_cons (ps_set (i := 2) sc_l_is_stall.nd rfl (by first | exact Or.inl rfl | exact Or.inr rfl) (pe_op op_mulX (pe_op op_mulX (pe_op op_mulX (pe_ix ix_tup (pe_ix ix_tup (pv 0) pe_int (fun _ _ => rfl)) pe_int (fun _ _ => rfl)) (pe_ix ix_tup (pe_ix ix_tup (pv 0) pe_int (fun _ _ => rfl)) pe_int (fun _ _ => rfl))) (pe_ix ix_tup (pe_ix ix_tup (pv 0) pe_int (fun _ _ => rfl)) pe_int (fun _ _ => rfl))) (pe_ix ix_tup (pe_ix ix_tup (pv 0) pe_int (fun _ _ => rfl)) pe_int (fun _ _ => rfl))))
      (pss_one (ps_ret (pe_cmpR op_eq (pv 2) (pe_op op_mulX (pe_op op_mulX (pe_op op_mulX (pe_ix ix_tup (pe_ix ix_tup (pv 0) pe_int (fun _ _ => rfl)) pe_int (fun _ _ => rfl)) (pe_ix ix_tup (pe_ix ix_tup (pv 0) pe_int (fun _ _ => rfl)) pe_int (fun _ _ => rfl))) (pe_ix ix_tup (pe_ix ix_tup (pv 0) pe_int (fun _ _ => rfl)) pe_int (fun _ _ => rfl))) (pe_ix ix_tup (pe_ix ix_tup (pv 0) pe_int (fun _ _ => rfl)) pe_int (fun _ _ => rfl))) (nomark _)))))))), ?_⟩
    rcases hy with ⟨p, va, vb, vc, vd, ve, ⟨⟨ta1, ta2⟩, ⟨tb1, tb2⟩, ⟨tc1, tc2⟩, ⟨td1, td2⟩, ⟨te1, te2⟩⟩, rfl, np, hp, ja, jb, jc, jd, je, rfl⟩ | ⟨⟨i, rfl⟩ | ⟨o, hn⟩, rfl⟩
    · have iA : JI K D H va ta1 := ja.1
      have iB : JI K D H vb tb1 := jb.1
      have fC : JF K D H vc tc2 := jc.2
      have fD : JF K D H vd td2 := jd.2
      have fE : JF K D H ve te2 := je.2
      clear ja jb jc jd je
      have q : Q (.bl (ixOk n ta1 && (ixOk n tb1 && (decide (ta1 ≠ tb1) && (sa tc2 && (sa td2 && (sa te2 && prodOk tc2 td2 te2))))))) H := q
      walk_at "r"
      refine ⟨_, D, n, ta1, rfl, iA, ?_⟩
      cases a1 : ixOk n ta1 with
      | false =>
        rw [a1, Bool.false_and] at q
        walk_at "r"
        exact q
      | true =>
        rw [a1, Bool.true_and] at q
        walk_at "r"
        refine ⟨_, D, n, tb1, rfl, iB, ?_⟩
        cases a2 : ixOk n tb1 with
        | false =>
          rw [a2, Bool.false_and] at q
          walk_at "r"
          exact q
        | true =>
          rw [a2, Bool.true_and] at q
          obtain ⟨i, rfl, _⟩ := ix_some a1
          obtain ⟨k, rfl, _⟩ := ix_some a2
          have ea := ji_int iA
          have eb := ji_int iB
          subst ea eb
          walk_at "r"
          walk_at "if"
          · rename_i h0
            rw [decide_eq_false (show ¬ (some (i : Int) ≠ some (k : Int)) from fun z => z (by rw [h0])), Bool.false_and] at q
            walk_at "r"
            exact q
          · rename_i h0
            rw [decide_eq_true (show some (i : Int) ≠ some (k : Int) from fun z => h0 (by injection z)), Bool.true_and] at q
            walk_at "r"
            refine ⟨_, D, tc2, rfl, fC, ?_⟩
            cases c1 : sa tc2 with
            | false =>
              rw [c1, Bool.false_and] at q
              walk_at "r"
              exact q
            | true =>
              rw [c1, Bool.true_and] at q
              walk_at "r"
              refine ⟨_, D, td2, rfl, fD, ?_⟩
              cases c2 : sa td2 with
              | false =>
                rw [c2, Bool.false_and] at q
                walk_at "r"
                exact q
              | true =>
                rw [c2, Bool.true_and] at q
                walk_at "r"
                refine ⟨_, D, te2, rfl, fE, ?_⟩
                cases c3 : sa te2 with
                | false =>
                  rw [c3, Bool.false_and] at q
                  walk_at "r"
                  exact q
                | true =>
                  rw [c3, Bool.true_and] at q
                  obtain ⟨x, rfl, x0⟩ := sa_some c1
                  obtain ⟨y, rfl, y0⟩ := sa_some c2
                  obtain ⟨z, rfl, z0⟩ := sa_some c3
                  obtain ⟨⟨px, rfl, hx⟩, bx⟩ := fC.isF
                  obtain ⟨⟨py, rfl, hy⟩, by'⟩ := fD.isF
                  obtain ⟨⟨pz, rfl, hz⟩, bz⟩ := fE.isF
                  have dn : ∀ {u : Rat}, Bd 40 u → ((u.den : Int)).natAbs < 2 ^ 40 := fun h => by
                    rw [Int.natAbs_natCast]
                    exact h.2
                  have w64 : ∀ {u : Int}, u.natAbs < 2 ^ 40 → u.natAbs < 2 ^ 64 := fun h => Nat.lt_of_lt_of_le h (pow_le (by decide))
                  have q : Q (.bl (decide (x * y = z * z))) H := q
                  rw [← decide_eq_decide.mpr (prod_iff x y z)] at q
                  walk_at "r"
                  · exact q
                  · exact cmul_big (mul_lt' (mul_lt' bz.1 bz.1) (dn bx)) (w64 (dn by')) (by decide)
                  · exact cmul_big (mul_lt' bz.1 bz.1) (w64 (dn bx)) (by decide)
                  · exact cmul_small (w64 bz.1) (w64 bz.1)
                  · exact cmul_big (mul_lt' (mul_lt' bx.1 by'.1) (dn bz)) (w64 (dn bz)) (by decide)
                  · exact cmul_big (mul_lt' bx.1 by'.1) (w64 (dn bz)) (by decide)
                  · exact cmul_small (w64 bx.1) (w64 by'.1)
    · walk_at "r"
      exact q
    · obtain ⟨b1, b2, b3, hb, -, -, h3, ht⟩ := o.isi
      walk_at "r"
      refine h3 _ ?_
      cases b3 with
      | false =>
        walk_at "r"
        exact q
      | true =>
        obtain ⟨p, xs, rfl, np, hp⟩ := ht rfl
        have hl : ¬ ((xs.length : Int) = 5) := by
          have := hn p xs rfl hp
          omega
        walk_at "r"
        exact q
def sp_ldue5 (K : PySem.W.Frag) : Sp := fun vs H Q _ => ∃ (n : Nat) (y : V) (D : Addr) (o : Option Int), vs = [.int (n : Nat), y] ∧ 1 ≤ n ∧ n ≤ 8 ∧ JSl K D H n y o ∧ ∀ H' v, Same H H' → IsW H' v (dueS o).1 (dueS o).2 → Q v H'
theorem ok_l_due (T : Txt K mg f_is_integer f_is_row f_is_fraction f_is_some f_multiplied f_squared f_is_stall f_l_deck f_l_pick f_l_divisor f_l_made f_l_amount f_l_stall f_l_stalls f_l_deep f_l_odd f_l_changed f_l_is_some f_l_is_ware f_l_is_stall f_l_due f_l_answer f_l_is_told f_law f_BadStall_init f_Web_init f_Web_eq c_BadWares c_BadStall c_Web d_is_integer d_is_row d_is_fraction d_is_some d_multiplied d_squared d_is_stall d_l_deck d_l_pick d_l_divisor d_l_made d_l_amount d_l_stall d_l_stalls d_l_deep d_l_odd d_l_changed d_l_is_some d_l_is_ware d_l_is_stall d_l_due d_l_answer d_l_is_told d_law d_BadStall_init d_Web_init d_Web_eq) : FnOk P w K mg base CX0 4 f_l_due d_l_due ["_law_wares", "_law_stalls_here"] (sp_ldue5 K) := by
  have G_l_is_ware : FnOk P w K mg base CX0 1 f_l_is_ware d_l_is_ware ["_law_thing", "_law_wares"] (sp_lbelow K) := ok_l_is_ware T
  have G_l_is_stall : FnOk P w K mg base CX0 3 f_l_is_stall d_l_is_stall ["_law_thing", "_law_wares"] (sp_lis_stall K) := ok_l_is_stall T
  refine T.F_l_due.ok sc_l_due (fun vs H Q E h => ?_) (fun cdv A outer sh H vs Q E hr h => ?_)
  · obtain ⟨n, y, D, o, rfl, _⟩ := h
    rfl
  · obtain ⟨n, y, D, o, rfl, n1, n8, hy, q⟩ := h
    refine ⟨_, (pss_cons (ps_if (PW.pt (pw_or (pt_not (pt_val (pe_call G_l_is_ware (hr.mono (by decide)) (by rfl) T.g_l_is_ware T.k_l_is_ware T.b_l_is_ware .nil pass0 (pa_cons (pv 0) (pa_cons pe_int pa_nil))))) (pw_or1 (pt_cmpR op_lt (pv 0) pe_int (nomark _)))))
        (pss_one (ps_ret (pe_tup (pa_cons pe_str (pa_cons pe_int pa_nil)))))
        pss_nil)
      (pss_cons (ps_if (PW.pt (pw_or (pt_not (pt_val (pe_callB call_isiT (by rfl) T.z_isinstance (by decide +kernel) (pa_cons (pv 1) (pa_cons (pe_tup (pa_cons (pe_bltn (v := .ty "list") (u := .type "list") (by rfl) T.z_list (by decide +kernel) rfl) (pa_cons (pe_bltn (v := .ty "tuple") (u := .type "tuple") (by rfl) T.z_tuple (by decide +kernel) rfl) pa_nil))) pa_nil))))) (pw_or1 (pt_cmpR op_gt (pe_callB call_lenN (by rfl) T.z_len (by decide +kernel) (pa_cons (pv 1) pa_nil)) pe_int (nomark _)))))
        (pss_one (ps_ret (pe_tup (pa_cons pe_str (pa_cons (pe_un un_neg pe_int) pa_nil)))))
        pss_nil)
      (pss_cons (ps_for PassesOwn.never rfl (pi_range1 (by rfl) T.z_range (pa_cons (pe_callB call_lenN (by rfl) T.z_len (by decide +kernel) (pa_cons (pv 1) pa_nil)) pa_nil)) (pg_name (i := 2) sc_l_due.nd rfl (by first | exact Or.inl rfl | exact Or.inr rfl))
        (pss_one (ps_if (pt_not (pt_val (pe_call G_l_is_stall (hr.mono (by decide)) (by rfl) T.g_l_is_stall T.k_l_is_stall T.b_l_is_stall .nil pass0 (pa_cons (pe_ix My.ix_any (pv 1) (pv 2) (fun _ _ => rfl)) (pa_cons (pv 0) pa_nil)))))
            (pss_one (ps_ret (pe_tup (pa_cons pe_str (pa_cons (pv 2) pa_nil)))))
            pss_nil)))
      (pss_one (ps_ret (pe_tup (pa_cons pe_str (pa_cons pe_int pa_nil)))))))), ?_⟩
    walk_at "r"
    refine ⟨_, D, 9, some (n : Int), rfl, .inl ⟨_, rfl, rfl⟩, ?_⟩
    have e9 : ixOk 9 (some (n : Int)) = true := by
      rw [ix_eq, decide_eq_true (show 0 ≤ (n : Int) by omega), decide_eq_true (show (n : Int) < ((9 : Nat) : Int) by omega)]
      rfl
    rw [e9]
    have n1' : ¬ ((n : Int) < 1) := by omega
    walk_at "r"
    intro tp ntp
    have s2 := same_upd (o := .tup [V.ty "list", .ty "tuple"]) ntp
    have htp : upd H tp (.tup [V.ty "list", .ty "tuple"]) tp = some (.tup [V.ty "list", .ty "tuple"]) := upd_same
    have hy := hy.same s2
    generalize upd H tp (.tup [V.ty "list", .ty "tuple"]) = H2 at *
    walk_at "r"
    rcases hy with ⟨L, ys, ts, rfl, np, hL, hms, l9, rfl⟩ | ⟨o', rfl⟩
    · have hl := Paired.length hms
      refine sq_isiT hL htp ?_
      walk_at "r"
      refine ⟨L, ys, rfl, hL.sq, ?_⟩
      unfold flt5 at q
      by_cases c16 : 16 < ts.length
      · rw [if_pos c16] at q
        have c' : (ys.length : Int) > 16 := by omega
        walk_at "r"
        intro pr npr
        exact q _ _ (s2.trans (same_upd npr)) ⟨pr, rfl, upd_same⟩
      · rw [if_neg c16] at q
        have c' : ¬ (ys.length : Int) > 16 := by omega
        walk_at "r"
        refine ⟨L, ys, rfl, hL.sq, ?_⟩
        walk_at "r"
        refine ⟨by omega, by omega, ?_⟩
        refine for_range (lo := 0) (n := ys.length) (fun i σ H' => ∃ (t3 : Option V), σ = [some (.int (n : Nat)), some (.ref L), t3] ∧ Same H2 H' ∧ ∀ (j : Nat) (u : Option T5), j < i → ts[j]? = some u → sOk n u = true) ?_ ?_ ?_
        · exact ⟨_, rfl, Same.refl _, fun j u hj => absurd hj (Nat.not_lt_zero _)⟩
        · rintro i σ H' hi ⟨t3, rfl, s3, hb⟩
          obtain ⟨y, hy⟩ : ∃ y, ys[i]? = some y := ⟨_, List.getElem?_eq_getElem hi⟩
          obtain ⟨t, ht, jm⟩ := Paired.at hms hy
          walk_at "r"
          refine rd_ixAny (hL.same s3) (at_some (by rw [Nat.zero_add]; exact hy)) ?_
          walk_at "r"
          refine ⟨n, y, D, t, rfl, jm.same s3, ?_⟩
          cases cm : sOk n t with
          | true =>
            walk_at "r"
            refine ⟨s3, fun j u hj hu => ?_⟩
            by_cases e2 : j = i
            · subst e2
              rw [ht] at hu
              cases hu
              exact cm
            · exact hb j u (by omega) hu
          | false =>
            walk_at "r"
            intro pr npr
            refine q _ _ ((s2.trans s3).trans (same_upd npr)) ?_
            rw [badF_at ht cm hb, Int.zero_add]
            exact ⟨pr, rfl, upd_same⟩
        · rintro σ H' ⟨t3, rfl, s3, hb⟩
          walk_at "r"
          intro pr npr
          refine q _ _ ((s2.trans s3).trans (same_upd npr)) ?_
          rw [badF_none fun j u hu => hb j u (by have := (List.getElem?_eq_some_iff.mp hu).1; omega) hu]
          exact ⟨pr, rfl, upd_same⟩
    · refine nosq_isiT o' htp ?_
      walk_at "r"
      intro pr npr
      exact q _ _ (s2.trans (same_upd npr)) ⟨pr, rfl, upd_same⟩
end
end My
namespace My
open PySem PySem.Spec PyProof.Rows L2
variable {K : PySem.W.Frag}
def Jp (K : PySem.W.Frag) (D : Addr) (H : Hp) (v : V) : Prop := ∃ p, JP K D H v p
theorem Jp.fw {M c : Nat} {D C : Addr} {H H' : Hp} {v : V} (j : Jp K D H v) (dk : Deck M D C H c) (f : Fw D H H') : Jp K D H' v := j.elim fun p h => ⟨p, h.fw dk f⟩
theorem oj_jp {D : Addr} {H : Hp} {v : V} (h : Oj K D H v) : Jp K D H v := by
  obtain ⟨oi, r, _, h1, h2, _⟩ := h
  exact ⟨(oi, r), h1, h2⟩
theorem jp_int {D : Addr} {H : Hp} (i : Int) : Jp K D H (.int i) := oj_jp (oj_int i)
theorem IsH.jp {M c : Nat} {D C : Addr} {H : Hp} {v : V} {r : Rat} (h : IsH H v r) (dk : Deck M D C H c) (b : Bd 40 r) : Jp K D H v := by
  obtain ⟨p, rfl, h⟩ := h
  have n := tup_ne dk h
  exact ⟨(none, some r), .inr ⟨.tup n h, rfl⟩, .inl ⟨r, ⟨p, rfl, .inl h⟩, b, rfl⟩⟩
def Js (K : PySem.W.Frag) (D : Addr) (H : Hp) (v : V) : Prop := ∃ t, J5 K D H v t
theorem Js.fw {M c : Nat} {D C : Addr} {H H' : Hp} {v : V} (j : Js K D H v) (dk : Deck M D C H c) (f : Fw D H H') : Js K D H' v := j.elim fun p h => ⟨p, h.fw dk f⟩
theorem js_five {D p : Addr} {H : Hp} {va vb vc vd ve : V} (np : p ≠ D) (h : H p = some (.tup [va, vb, vc, vd, ve])) (h1 : Jp K D H va) (h2 : Jp K D H vb) (h3 : Jp K D H vc) (h4 : Jp K D H vd) (h5 : Jp K D H ve) : Js K D H (.ref p) := by
  obtain ⟨a, h1⟩ := h1
  obtain ⟨b, h2⟩ := h2
  obtain ⟨c, h3⟩ := h3
  obtain ⟨d, h4⟩ := h4
  obtain ⟨e, h5⟩ := h5
  exact ⟨_, .inl ⟨p, va, vb, vc, vd, ve, ⟨a, b, c, d, e⟩, rfl, np, h, h1, h2, h3, h4, h5, rfl⟩⟩
theorem js_no {D : Addr} {H : Hp} {v : V} (h : NT5 K D H v) : Js K D H v := ⟨_, .inr ⟨h, rfl⟩⟩
theorem IsStH.js {M c : Nat} {D C : Addr} {H : Hp} {v : V} {s : Stl} (h : IsStH H v s) (dk : Deck M D C H c) (b : BdSt 40 s) : Js K D H v := by
  obtain ⟨p, va, vb, vr, rfl, h, a1, a2, a3⟩ := h
  exact js_five (tup_ne dk h) h (jp_int _) (jp_int _) (a1.jp dk b.a) (a2.jp dk b.b) (a3.jp dk b.r)
theorem nt5_tup {D p : Addr} {H : Hp} {xs : List V} (n : p ≠ D) (h : H p = some (.tup xs)) (l : xs.length ≠ 5) : NT5 K D H (.ref p) := .inr ⟨.tup n h, fun q ys e z => by
  cases e
  rw [h] at z
  cases z
  exact l⟩
theorem nt5_lst {D p : Addr} {H : Hp} {xs : List V} (n : p ≠ D) (h : H p = some (.lst xs)) : NT5 K D H (.ref p) := .inr ⟨.lst n h, fun q ys e z => by
  cases e
  rw [h] at z
  cases z⟩
theorem nt5_dK {D p : Addr} {H : Hp} {xs : List (Key × V)} (n : p ≠ D) (h : H p = some (.dK xs)) : NT5 K D H (.ref p) := .inr ⟨.dK n h, fun q ys e z => by
  cases e
  rw [h] at z
  cases z⟩
theorem nt5_ins {D p C dx : Addr} {H : Hp} {fs : List (Str × V)} (n : p ≠ D) (h : H p = some (.ins C dx fs)) (c : InsT K C) : NT5 K D H (.ref p) := .inr ⟨.ins n h c, fun q ys e z => by
  cases e
  rw [h] at z
  cases z⟩
theorem nt5_int {D : Addr} {H : Hp} (i : Int) : NT5 K D H (.int i) := .inl ⟨i, rfl⟩
theorem nt5_non {D : Addr} {H : Hp} : NT5 K D H .non := .inr ⟨.non, fun q ys e z => by cases e⟩
theorem nt5_bl {D : Addr} {H : Hp} {b : Bool} : NT5 K D H (.bl b) := .inr ⟨.bl b, fun q ys e z => by cases e⟩
theorem nt5_str {D : Addr} {H : Hp} {s : Str} : NT5 K D H (.str s) := .inr ⟨.str s, fun q ys e z => by cases e⟩
theorem nt5_one {D : Addr} {H : Hp} {v : V} (b : B1 D H v) : NT5 K D H v := by
  obtain ⟨p, x, rfl, n, h | h⟩ := b
  · exact nt5_lst n h
  · exact nt5_tup n h (show (1 : Nat) ≠ 5 by decide)
/-- an odd thing: in a stall, or in the place of one -/
structure O5 (K : PySem.W.Frag) (D : Addr) (H : Hp) (v : V) : Prop where
  oj : Oj K D H v
  nt : NT5 K D H v
theorem O5.fw {M c : Nat} {D C : Addr} {H H' : Hp} {v : V} (j : O5 K D H v) (dk : Deck M D C H c) (f : Fw D H H') : O5 K D H' v := ⟨j.oj.fw dk f, j.nt.fw f⟩
def O5s (K : PySem.W.Frag) (D : Addr) (H : Hp) (us : List V) : Prop := ∀ v ∈ us, O5 K D H v
theorem O5s.fw {M c : Nat} {D C : Addr} {H H' : Hp} {us : List V} (j : O5s K D H us) (dk : Deck M D C H c) (f : Fw D H H') : O5s K D H' us := fun v m => (j v m).fw dk f
theorem O5s.snoc {D : Addr} {H : Hp} {us : List V} {v : V} (h : O5s K D H us) (g : O5 K D H v) : O5s K D H (us ++ [v]) := fun u m => (List.mem_append.mp m).elim (h u) fun m => by
  rw [List.mem_singleton.mp m]
  exact g
theorem oj_strint {D p : Addr} {H : Hp} {s : Str} {i : Int} (n : p ≠ D) (h : H p = some (.tup [.str s, .int i])) : Oj K D H (.ref p) :=
  ⟨none, none, none, .inr ⟨.tup n h, rfl⟩, .inr ⟨.fst n h (.str s), rfl⟩, .inr ⟨.inr ⟨.tup n h, fun q xs e z => by
    cases e
    rw [h] at z
    cases z
    exact (by decide : (2 : Nat) ≠ 3)⟩, rfl⟩⟩
section
variable {P : Program} {w : World} {K : PySem.W.Frag} {mg : Str → Option Value} {base : Heap} {f_is_integer f_is_row f_is_fraction f_is_some f_multiplied f_squared f_is_stall f_l_deck f_l_pick f_l_divisor f_l_made f_l_amount f_l_stall f_l_stalls f_l_deep f_l_odd f_l_changed f_l_is_some f_l_is_ware f_l_is_stall f_l_due f_l_answer f_l_is_told f_law f_BadStall_init f_Web_init f_Web_eq c_BadWares c_BadStall c_Web : Addr} {d_is_integer d_is_row d_is_fraction d_is_some d_multiplied d_squared d_is_stall d_l_deck d_l_pick d_l_divisor d_l_made d_l_amount d_l_stall d_l_stalls d_l_deep d_l_odd d_l_changed d_l_is_some d_l_is_ware d_l_is_stall d_l_due d_l_answer d_l_is_told d_law d_BadStall_init d_Web_init d_Web_eq : FuncData}
def sp_lodd5 (K : PySem.W.Frag) (M : Nat) : Sp := fun vs H Q _ => ∃ (D Cd : Addr) (c n : Nat), vs = [.ref D, .int (n : Nat)] ∧ Deck M D Cd H c ∧ c ≤ 2 ^ 38 ∧ ∀ H' v, Fw D H H' → Deck M D Cd H' (c + 4) → O5 K D H' v → Q v H'
theorem ok_l_odd5 {M : Nat} (hM : 64 ≤ M) (hM2 : M ≤ 1048576) (T : Txt K mg f_is_integer f_is_row f_is_fraction f_is_some f_multiplied f_squared f_is_stall f_l_deck f_l_pick f_l_divisor f_l_made f_l_amount f_l_stall f_l_stalls f_l_deep f_l_odd f_l_changed f_l_is_some f_l_is_ware f_l_is_stall f_l_due f_l_answer f_l_is_told f_law f_BadStall_init f_Web_init f_Web_eq c_BadWares c_BadStall c_Web d_is_integer d_is_row d_is_fraction d_is_some d_multiplied d_squared d_is_stall d_l_deck d_l_pick d_l_divisor d_l_made d_l_amount d_l_stall d_l_stalls d_l_deep d_l_odd d_l_changed d_l_is_some d_l_is_ware d_l_is_stall d_l_due d_l_answer d_l_is_told d_law d_BadStall_init d_Web_init d_Web_eq) : FnOk P w K mg base CX0 7 f_l_odd d_l_odd ["_law_deck_here", "_law_wares"] (sp_lodd5 K M) := by
  have G_l_pick : FnOk P w K mg base CX0 1 f_l_pick d_l_pick ["_law_deck_here", "_law_many"] (sp_pick M) := ok_pick hM hM2 T
  have G_l_deep : FnOk P w K mg base CX0 2 f_l_deep d_l_deep ["_law_deck_here"] (sp_ldeep2 M) := ok_l_deep2 hM hM2 T
  have G_Web_init : FnOk P w K mg base CX0 5 f_Web_init d_Web_init ["self", "wares", "stalls"] (sp_web K c_Web) := ok_Web_init T
  refine T.F_l_odd.ok sc_l_odd (fun vs H Q E h => ?_) (fun cdv A outer s H vs Q E hr h => ?_)
  · obtain ⟨D, Cd, c, n, rfl, _⟩ := h
    rfl
  · obtain ⟨D, Cd, c, n, rfl, dk, hc, q⟩ := h
    refine ⟨_, (pss_cons (ps_set (i := 2) sc_l_odd.nd rfl (by first | exact Or.inl rfl | exact Or.inr rfl) (pe_lst (pa_cons pe_non (pa_cons pe_bl (pa_cons pe_bl (pa_cons pe_str (pa_cons pe_str (pa_cons (pe_un un_neg pe_int) (pa_cons pe_int (pa_cons pe_int (pa_cons (pv 1) (pa_cons (pe_op op_pow pe_int pe_int) (pa_cons (pe_tup pa_nil) (pa_cons (pe_lst pa_nil) (pa_cons pe_dnewK (pa_cons (pe_tup (pa_cons pe_int (pa_cons pe_int pa_nil))) (pa_cons (pe_tup (pa_cons pe_int (pa_cons pe_int pa_nil))) (pa_cons (pe_tup (pa_cons pe_int (pa_cons pe_int pa_nil))) (pa_cons (pe_tup (pa_cons pe_int (pa_cons pe_int pa_nil))) (pa_cons (pe_tup (pa_cons pe_int (pa_cons pe_int pa_nil))) (pa_cons (pe_tup (pa_cons (pe_un un_neg pe_int) (pa_cons pe_int pa_nil))) (pa_cons (pe_tup (pa_cons pe_int (pa_cons (pe_un un_neg pe_int) pa_nil))) (pa_cons (pe_lst (pa_cons pe_int (pa_cons pe_int pa_nil))) (pa_cons (pe_tup (pa_cons pe_int (pa_cons pe_int (pa_cons pe_int pa_nil)))) (pa_cons (pe_tup (pa_cons pe_int (pa_cons pe_bl pa_nil))) (pa_cons (pe_tup (pa_cons pe_str (pa_cons pe_int pa_nil))) (pa_cons (pe_call G_l_deep (hr.mono (by decide)) (by rfl) T.g_l_deep T.k_l_deep T.b_l_deep .nil pass0 (pa_cons (pv 0) pa_nil)) (pa_cons (pe_make T.w_Web.mks G_Web_init (hr.mono (by decide)) (by rfl) T.w_Web.g T.b_Web_init .nil pass0 (pa_cons pe_int (pa_cons (pe_lst pa_nil) pa_nil))) pa_nil))))))))))))))))))))))))))))
      (pss_one (ps_ret (pe_ix ix_list (pv 2) (pe_call G_l_pick (hr.mono (by decide)) (by rfl) T.g_l_pick T.k_l_pick T.b_l_pick .nil pass0 (pa_cons (pv 0) (pa_cons pe_int pa_nil))) (fun _ _ => rfl))))), ?_⟩
    have J : O5s K D H [V.non, .bl true, .bl false, .str "0", .str "", .int (-1), .int 0, .int 1, .int (n : Nat), .int (10 ^ (11 : Int).toNat)] := by
      intro v hv
      simp only [List.mem_cons, List.not_mem_nil, or_false] at hv
      rcases hv with rfl | rfl | rfl | rfl | rfl | rfl | rfl | rfl | rfl | rfl
      · exact ⟨oj_non, nt5_non⟩
      · exact ⟨oj_bl, nt5_bl⟩
      · exact ⟨oj_bl, nt5_bl⟩
      · exact ⟨oj_str, nt5_str⟩
      · exact ⟨oj_str, nt5_str⟩
      · exact ⟨oj_int _, nt5_int _⟩
      · exact ⟨oj_int _, nt5_int _⟩
      · exact ⟨oj_int _, nt5_int _⟩
      · exact ⟨oj_int _, nt5_int _⟩
      · exact ⟨oj_int _, nt5_int _⟩
    walk_at "r"
    intro p0 np
    have s := same_upd (o := .tup []) np
    have h : upd H p0 (.tup []) p0 = some (.tup []) := upd_same
    have nD := dk.ne np
    have J := J.fw dk (Same.fw s)
    have dk := dk.same s
    have f0 := Same.fw (D := D) s
    generalize upd H p0 (.tup []) = Ha0 at *
    have J := J.snoc (⟨oj_tup nD h (by decide), nt5_tup nD h (show (0 : Nat) ≠ 5 by decide)⟩)
    clear s h np nD
    walk_at "r"
    intro p1 np
    have s := same_upd (o := .lst []) np
    have h : upd Ha0 p1 (.lst []) p1 = some (.lst []) := upd_same
    have nD := dk.ne np
    have J := J.fw dk (Same.fw s)
    have dk := dk.same s
    have f0 := f0.trans (Same.fw (D := D) s)
    generalize upd Ha0 p1 (.lst []) = Ha1 at *
    have J := J.snoc (⟨oj_lst nD h, nt5_lst nD h⟩)
    clear s h np nD
    walk_at "r"
    intro p2 np
    have s := same_upd (o := .dK []) np
    have h : upd Ha1 p2 (.dK []) p2 = some (.dK []) := upd_same
    have nD := dk.ne np
    have J := J.fw dk (Same.fw s)
    have dk := dk.same s
    have f0 := f0.trans (Same.fw (D := D) s)
    generalize upd Ha1 p2 (.dK []) = Ha2 at *
    have J := J.snoc (⟨oj_dK nD h, nt5_dK nD h⟩)
    clear s h np nD
    walk_at "r"
    intro p3 np
    have s := same_upd (o := .tup [V.int 0, .int 1]) np
    have h : upd Ha2 p3 (.tup [V.int 0, .int 1]) p3 = some (.tup [V.int 0, .int 1]) := upd_same
    have nD := dk.ne np
    have J := J.fw dk (Same.fw s)
    have dk := dk.same s
    have f0 := f0.trans (Same.fw (D := D) s)
    generalize upd Ha2 p3 (.tup [V.int 0, .int 1]) = Ha3 at *
    have J := J.snoc (⟨oj_pair nD h (by decide) (by decide), nt5_tup nD h (show (2 : Nat) ≠ 5 by decide)⟩)
    clear s h np nD
    walk_at "r"
    intro p4 np
    have s := same_upd (o := .tup [V.int 2, .int 1]) np
    have h : upd Ha3 p4 (.tup [V.int 2, .int 1]) p4 = some (.tup [V.int 2, .int 1]) := upd_same
    have nD := dk.ne np
    have J := J.fw dk (Same.fw s)
    have dk := dk.same s
    have f0 := f0.trans (Same.fw (D := D) s)
    generalize upd Ha3 p4 (.tup [V.int 2, .int 1]) = Ha4 at *
    have J := J.snoc (⟨oj_pair nD h (by decide) (by decide), nt5_tup nD h (show (2 : Nat) ≠ 5 by decide)⟩)
    clear s h np nD
    walk_at "r"
    intro p5 np
    have s := same_upd (o := .tup [V.int 1, .int 1]) np
    have h : upd Ha4 p5 (.tup [V.int 1, .int 1]) p5 = some (.tup [V.int 1, .int 1]) := upd_same
    have nD := dk.ne np
    have J := J.fw dk (Same.fw s)
    have dk := dk.same s
    have f0 := f0.trans (Same.fw (D := D) s)
    generalize upd Ha4 p5 (.tup [V.int 1, .int 1]) = Ha5 at *
    have J := J.snoc (⟨oj_pair nD h (by decide) (by decide), nt5_tup nD h (show (2 : Nat) ≠ 5 by decide)⟩)
    clear s h np nD
    walk_at "r"
    intro p6 np
    have s := same_upd (o := .tup [V.int 2, .int 2]) np
    have h : upd Ha5 p6 (.tup [V.int 2, .int 2]) p6 = some (.tup [V.int 2, .int 2]) := upd_same
    have nD := dk.ne np
    have J := J.fw dk (Same.fw s)
    have dk := dk.same s
    have f0 := f0.trans (Same.fw (D := D) s)
    generalize upd Ha5 p6 (.tup [V.int 2, .int 2]) = Ha6 at *
    have J := J.snoc (⟨oj_pair nD h (by decide) (by decide), nt5_tup nD h (show (2 : Nat) ≠ 5 by decide)⟩)
    clear s h np nD
    walk_at "r"
    intro p7 np
    have s := same_upd (o := .tup [V.int 1, .int 0]) np
    have h : upd Ha6 p7 (.tup [V.int 1, .int 0]) p7 = some (.tup [V.int 1, .int 0]) := upd_same
    have nD := dk.ne np
    have J := J.fw dk (Same.fw s)
    have dk := dk.same s
    have f0 := f0.trans (Same.fw (D := D) s)
    generalize upd Ha6 p7 (.tup [V.int 1, .int 0]) = Ha7 at *
    have J := J.snoc (⟨oj_pair nD h (by decide) (by decide), nt5_tup nD h (show (2 : Nat) ≠ 5 by decide)⟩)
    clear s h np nD
    walk_at "r"
    intro p8 np
    have s := same_upd (o := .tup [V.int (-1), .int 1]) np
    have h : upd Ha7 p8 (.tup [V.int (-1), .int 1]) p8 = some (.tup [V.int (-1), .int 1]) := upd_same
    have nD := dk.ne np
    have J := J.fw dk (Same.fw s)
    have dk := dk.same s
    have f0 := f0.trans (Same.fw (D := D) s)
    generalize upd Ha7 p8 (.tup [V.int (-1), .int 1]) = Ha8 at *
    have J := J.snoc (⟨oj_pair nD h (by decide) (by decide), nt5_tup nD h (show (2 : Nat) ≠ 5 by decide)⟩)
    clear s h np nD
    walk_at "r"
    intro p9 np
    have s := same_upd (o := .tup [V.int 1, .int (-1)]) np
    have h : upd Ha8 p9 (.tup [V.int 1, .int (-1)]) p9 = some (.tup [V.int 1, .int (-1)]) := upd_same
    have nD := dk.ne np
    have J := J.fw dk (Same.fw s)
    have dk := dk.same s
    have f0 := f0.trans (Same.fw (D := D) s)
    generalize upd Ha8 p9 (.tup [V.int 1, .int (-1)]) = Ha9 at *
    have J := J.snoc (⟨oj_pair nD h (by decide) (by decide), nt5_tup nD h (show (2 : Nat) ≠ 5 by decide)⟩)
    clear s h np nD
    walk_at "r"
    intro p10 np
    have s := same_upd (o := .lst [V.int 1, .int 1]) np
    have h : upd Ha9 p10 (.lst [V.int 1, .int 1]) p10 = some (.lst [V.int 1, .int 1]) := upd_same
    have nD := dk.ne np
    have J := J.fw dk (Same.fw s)
    have dk := dk.same s
    have f0 := f0.trans (Same.fw (D := D) s)
    generalize upd Ha9 p10 (.lst [V.int 1, .int 1]) = Ha10 at *
    have J := J.snoc (⟨oj_lst nD h, nt5_lst nD h⟩)
    clear s h np nD
    walk_at "r"
    intro p11 np
    have s := same_upd (o := .tup [V.int 1, .int 1, .int 1]) np
    have h : upd Ha10 p11 (.tup [V.int 1, .int 1, .int 1]) p11 = some (.tup [V.int 1, .int 1, .int 1]) := upd_same
    have nD := dk.ne np
    have J := J.fw dk (Same.fw s)
    have dk := dk.same s
    have f0 := f0.trans (Same.fw (D := D) s)
    generalize upd Ha10 p11 (.tup [V.int 1, .int 1, .int 1]) = Ha11 at *
    have J := J.snoc (⟨oj_three nD h (.inl ⟨1, rfl, rfl⟩) (.inl ⟨1, rfl, rfl⟩) (.inr ⟨.int 1, rfl⟩), nt5_tup nD h (show (3 : Nat) ≠ 5 by decide)⟩)
    clear s h np nD
    walk_at "r"
    intro p12 np
    have s := same_upd (o := .tup [V.int 1, .bl true]) np
    have h : upd Ha11 p12 (.tup [V.int 1, .bl true]) p12 = some (.tup [V.int 1, .bl true]) := upd_same
    have nD := dk.ne np
    have J := J.fw dk (Same.fw s)
    have dk := dk.same s
    have f0 := f0.trans (Same.fw (D := D) s)
    generalize upd Ha11 p12 (.tup [V.int 1, .bl true]) = Ha12 at *
    have J := J.snoc (⟨oj_pairB nD h (.bl true), nt5_tup nD h (show (2 : Nat) ≠ 5 by decide)⟩)
    clear s h np nD
    walk_at "r"
    intro p13 np
    have s := same_upd (o := .tup [V.str "1", .int 1]) np
    have h : upd Ha12 p13 (.tup [V.str "1", .int 1]) p13 = some (.tup [V.str "1", .int 1]) := upd_same
    have nD := dk.ne np
    have J := J.fw dk (Same.fw s)
    have dk := dk.same s
    have f0 := f0.trans (Same.fw (D := D) s)
    generalize upd Ha12 p13 (.tup [V.str "1", .int 1]) = Ha13 at *
    have J := J.snoc (⟨oj_strint nD h, nt5_tup nD h (show (2 : Nat) ≠ 5 by decide)⟩)
    clear s h np nD
    walk_at "r"
    refine ⟨D, Cd, _, rfl, dk, by omega, fun Hd vd wd kd hd => ?_⟩
    have J := J.fw dk wd
    have f0 := f0.trans wd
    have J := J.snoc ⟨(by obtain ⟨p, x, e, np, h, _⟩ := hd; exact B1.oj ⟨p, x, e, np, h⟩), nt5_one (by obtain ⟨p, x, e, np, h, _⟩ := hd; exact ⟨p, x, e, np, h⟩)⟩
    walk_at "r"
    intro Lw nLw
    have s := same_upd (o := .lst []) nLw
    have hLw : upd Hd Lw (.lst []) Lw = some (.lst []) := upd_same
    have J := J.fw kd (Same.fw s)
    have kd := kd.same s
    have f0 := f0.trans (Same.fw (D := D) s)
    generalize upd Hd Lw (.lst []) = Hd2 at *
    clear s
    walk_at "r"
    intro xw dw nx nd ne
    have xS := ne_of_none hLw nx
    have dS := ne_of_none hLw nd
    refine ⟨xw, dw, Lw, 2, [], [], rfl, upd_same, .inl ((upd_ne xS).trans ((upd_ne dS).trans hLw)), by decide, by decide, by decide, .nil, (fun s hs => by cases hs), fun H6 hweb kp => ⟨rfl, ?_⟩⟩
    have s6 : Same Hd2 H6 := Same.made nx nd kp
    have J := J.fw kd (Same.fw s6)
    have kd := kd.same s6
    have f0 := f0.trans (Same.fw (D := D) s6)
    have pD := web_ne kd hweb
    obtain ⟨_, dx2, t2, xs2, e2, hpx2, _⟩ := id hweb
    cases e2
    have J := J.snoc ⟨oj_ins pD hpx2 T.w_Web.it, nt5_ins pD hpx2 T.w_Web.it⟩
    have J : O5s K D H6 [V.non, .bl true, .bl false, .str "0", .str "", .int (-1), .int 0, .int 1, .int (n : Nat), .int (10 ^ (11 : Int).toNat), .ref p0, .ref p1, .ref p2, .ref p3, .ref p4, .ref p5, .ref p6, .ref p7, .ref p8, .ref p9, .ref p10, .ref p11, .ref p12, .ref p13, vd, .ref xw] := J
    have hlen : ([V.non, .bl true, .bl false, .str "0", .str "", .int (-1), .int 0, .int 1, .int (n : Nat), .int (10 ^ (11 : Int).toNat), .ref p0, .ref p1, .ref p2, .ref p3, .ref p4, .ref p5, .ref p6, .ref p7, .ref p8, .ref p9, .ref p10, .ref p11, .ref p12, .ref p13, vd, .ref xw]).length = 26 := rfl
    walk_at "r"
    generalize [V.non, .bl true, .bl false, .str "0", .str "", .int (-1), .int 0, .int 1, .int (n : Nat), .int (10 ^ (11 : Int).toNat), .ref p0, .ref p1, .ref p2, .ref p3, .ref p4, .ref p5, .ref p6, .ref p7, .ref p8, .ref p9, .ref p10, .ref p11, .ref p12, .ref p13, vd, .ref xw] = us at *
    intro L nL
    have s := same_upd (o := .lst us) nL
    have nD := kd.ne nL
    have hL : upd H6 L (.lst us) L = some (.lst us) := upd_same
    have J := J.fw kd (Same.fw s)
    have kd := kd.same s
    have f0 := f0.trans (Same.fw (D := D) s)
    generalize upd H6 L (.lst us) = He at *
    walk_at "r"
    refine ⟨D, Cd, _, _, rfl, ⟨by decide, by decide⟩, kd, by omega, fun Hf r wf kf a0 b0 => ?_⟩
    obtain ⟨z, hz, ez⟩ := at_in (m := 26) hlen a0 b0
    refine rd_ixL (wf _ _ nD hL) ez ?_
    exact q _ _ (f0.trans wf) kf ((J z hz).fw kd wf)
def sp_webO (K : PySem.W.Frag) (C CW CS : Addr) : Sp := fun vs H Q E => sp_web K C vs H Q E ∨ sp_webX K CW CS vs H Q E
def sp_lans5 (K : PySem.W.Frag) : Sp := fun vs H Q _ => ∃ (x y : V) (D : Addr) (o : Option Int) (f : Nat → Option Int), vs = [x, y] ∧ JI K D H x o ∧ (∀ n : Nat, o = some (n : Int) → 1 ≤ n → JSl K D H n y (f n)) ∧ ∀ H' v, Same H H' → IsW H' v (ansW o f).1 (ansW o f).2 → Q v H'
theorem ok_l_answer (T : Txt K mg f_is_integer f_is_row f_is_fraction f_is_some f_multiplied f_squared f_is_stall f_l_deck f_l_pick f_l_divisor f_l_made f_l_amount f_l_stall f_l_stalls f_l_deep f_l_odd f_l_changed f_l_is_some f_l_is_ware f_l_is_stall f_l_due f_l_answer f_l_is_told f_law f_BadStall_init f_Web_init f_Web_eq c_BadWares c_BadStall c_Web d_is_integer d_is_row d_is_fraction d_is_some d_multiplied d_squared d_is_stall d_l_deck d_l_pick d_l_divisor d_l_made d_l_amount d_l_stall d_l_stalls d_l_deep d_l_odd d_l_changed d_l_is_some d_l_is_ware d_l_is_stall d_l_due d_l_answer d_l_is_told d_law d_BadStall_init d_Web_init d_Web_eq) : FnOk P w K mg base CX0 7 f_l_answer d_l_answer ["_law_wares", "_law_stalls_here"] (sp_lans5 K) := by
  have G_Web_init : FnOk P w K mg base (L2.CX P w) 5 f_Web_init d_Web_init ["self", "wares", "stalls"] (sp_webO K c_Web c_BadWares c_BadStall) := fn_or (fn_calm (ok_Web_init T)) (ok_Web_initB T)
  refine T.F_l_answer.ok sc_l_answer (fun vs H Q E h => ?_) (fun cdv A outer sh H vs Q E hr h => ?_)
  · obtain ⟨x, y, D, o, f, rfl, _⟩ := h
    rfl
  · obtain ⟨x, y, D, o, f, rfl, jx, jy, q⟩ := h
    refine ⟨_, (pss_cons (ps_set (i := 2) sc_l_answer.nd rfl (by first | exact Or.inl rfl | exact Or.inr rfl) (pe_tup (pa_cons pe_str (pa_cons pe_int pa_nil))))
      (pss_cons (My.ps_try_mix (Wo := fun _ _ _ _ => False) rfl rfl sc_l_answer.nd takes0 (fun W pn xe tk _ =>
        (pss_one (ps_expr (My.pe_makeS T.w_Web.mks G_Web_init (hr.mono (by decide)) (by rfl) T.w_Web.g T.b_Web_init (fun σ => passAt tk σ) (pa_cons (pv 0) (pa_cons (pv 1) pa_nil))))))
        (My.HdsX.bare ⟨rfl, by decide, .inl T.c_BadWares.g⟩ (fun a oe cls d pn hz hf =>
        (pss_one (ps_set (i := 2) sc_l_answer.nd rfl (by first | exact Or.inl rfl | exact Or.inr rfl) (pe_tup (pa_cons pe_str (pa_cons pe_int pa_nil))))))
        (My.HdsX.as_ (j := 3) ⟨rfl, by decide, .inl T.c_BadStall.g⟩ rfl rfl (fun a oe cls d pn hz hf =>
        (pss_one (ps_set (i := 2) sc_l_answer.nd rfl (by first | exact Or.inl rfl | exact Or.inr rfl) (pe_tup (pa_cons pe_str (pa_cons (pe_xf T.c_BadStall.xf T.c_BadStall.no hz hf (pv 3)) pa_nil))))))
        My.HdsX.nil)))
      (pss_one (ps_ret (pv 2))))), ?_⟩
    walk_at "r"
    intro p0 np0
    have s0 := same_upd (o := .tup [V.str "told", .int 0]) np0
    have h0 : upd H p0 (.tup [V.str "told", .int 0]) p0 = some (.tup [V.str "told", .int 0]) := upd_same
    have jx := jx.fw (Same.fw s0)
    have jy : ∀ n : Nat, o = some (n : Int) → 1 ≤ n → JSl K D _ n y (f n) := fun n e n1 => (jy n e n1).same s0
    generalize upd H p0 (.tup [V.str "told", .int 0]) = H0 at *
    walk_at "r"
    refine rd_makeS ?_
    walk_at "r"
    intro wx wd nx nd ne
    have sw : Same H0 (upd (upd H0 wd (.own wx)) wx (.ins c_Web wd [])) := fun b ob hb => by
      rw [upd_ne (ne_of_none hb nx), upd_ne (ne_of_none hb nd)]
      exact hb
    by_cases c : wOk o = true ∧ ∃ n : Nat, o = some (n : Int) ∧ f n = none
    · obtain ⟨cw, n, rfl, fn⟩ := c
      have cw' : (decide (1 ≤ (n : Int)) && decide ((n : Int) ≤ 8)) = true := cw
      rw [Bool.and_eq_true, decide_eq_true_eq, decide_eq_true_eq] at cw'
      have ex := ji_int jx
      subst ex
      have j := jy n rfl (by omega)
      rw [fn] at j
      obtain ⟨L, xs, ss, rfl, hL, hst, l16, hok⟩ := jsl_good j
      refine .inl ⟨wx, wd, L, n, xs, ss, rfl, upd_same, hL.imp (fun h => sw _ _ h) (fun h => sw _ _ h), by omega, by omega, l16, hst.same sw, fun s hs => ⟨(hok s hs).1, (hok s hs).2.mono (by decide)⟩, fun H6 hweb kp => ⟨rfl, ?_⟩⟩
      have s6 : Same H0 H6 := Same.made nx nd kp
      walk_at "r"
      refine q _ _ (s0.trans s6) ?_
      rw [ansW_yes cw, fn]
      exact ⟨p0, rfl, s6 _ _ h0⟩
    · refine .inr ⟨.ref wx, x, y, D, o, f, rfl, jx.fw (Same.fw sw), fun n e n1 => (jy n e n1).same sw, fun n e cw z => c ⟨cw, n, e, z⟩, fun cw H2 s2 => ?_, fun n e cw i ci H2 dd s2 nd2 => ?_⟩
      · refine ⟨true, T.c_BadWares.te, fun _ a _ => ?_, fun z => Bool.noConfusion z⟩
        walk_at "r"
        intro p1 np1
        walk_at "r"
        refine q _ _ (((s0.trans sw).trans s2).trans (same_upd np1)) ?_
        rw [ansW_no cw]
        exact ⟨p1, rfl, upd_same⟩
      · subst e
        refine ⟨false, exm_sub T.c_BadWares.be T.c_BadWares.ic T.c_BadWares.ty T.x_BadStall_BadWares, fun z => Bool.noConfusion z, fun _ => ⟨true, T.c_BadStall.te, fun _ a _ => ?_, fun z => Bool.noConfusion z⟩⟩
        walk_at "r"
        refine ⟨rfl, rfl, dd, _, .int i, rfl, upd_same, lk1, ?_⟩
        walk_at "r"
        intro p1 np1
        walk_at "r"
        refine q _ _ ((((s0.trans sw).trans s2).trans (same_upd nd2)).trans (same_upd np1)) ?_
        rw [ansW_yes cw, ci]
        exact ⟨p1, rfl, upd_same⟩
def sp_ltold5 (K : PySem.W.Frag) : Sp := fun vs H Q _ => ∃ (n : Nat) (L : Addr) (xs : List V) (ss : List Stl), vs = [.int (n : Nat), .ref L] ∧ 1 ≤ n ∧ n ≤ 8 ∧ SqAt H L xs ∧ Sts K H xs ss ∧ xs.length ≤ 16 ∧ (∀ s ∈ ss, OkSt n s ∧ BdSt 40 s) ∧ ∀ H', Same H H' → Q (.bl true) H'
theorem ok_l_is_told (T : Txt K mg f_is_integer f_is_row f_is_fraction f_is_some f_multiplied f_squared f_is_stall f_l_deck f_l_pick f_l_divisor f_l_made f_l_amount f_l_stall f_l_stalls f_l_deep f_l_odd f_l_changed f_l_is_some f_l_is_ware f_l_is_stall f_l_due f_l_answer f_l_is_told f_law f_BadStall_init f_Web_init f_Web_eq c_BadWares c_BadStall c_Web d_is_integer d_is_row d_is_fraction d_is_some d_multiplied d_squared d_is_stall d_l_deck d_l_pick d_l_divisor d_l_made d_l_amount d_l_stall d_l_stalls d_l_deep d_l_odd d_l_changed d_l_is_some d_l_is_ware d_l_is_stall d_l_due d_l_answer d_l_is_told d_law d_BadStall_init d_Web_init d_Web_eq) : FnOk P w K mg base CX0 7 f_l_is_told d_l_is_told ["_law_wares", "_law_stalls_here"] (sp_ltold5 K) := by
  have G_Web_init : FnOk P w K mg base CX0 5 f_Web_init d_Web_init ["self", "wares", "stalls"] (sp_web K c_Web) := ok_Web_init T
  refine T.F_l_is_told.ok sc_l_is_told (fun vs H Q E h => ?_) (fun cdv A outer sh H vs Q E hr h => ?_)
  · obtain ⟨n, L, xs, ss, rfl, _⟩ := h
    rfl
  · obtain ⟨n, L, xs, ss, rfl, n1, n8, hL, hst, l16, hok, q⟩ := h
    refine ⟨_, (pss_cons (ps_set (i := 2) sc_l_is_told.nd rfl (by first | exact Or.inl rfl | exact Or.inr rfl) (pe_make T.w_Web.mks G_Web_init (hr.mono (by decide)) (by rfl) T.w_Web.g T.b_Web_init .nil pass0 (pa_cons (pv 0) (pa_cons (pv 1) pa_nil))))
      (pss_cons (ps_if (PW.pt (pw_or (pt_not (pt_val (pe_callB call_isi (by rfl) T.z_isinstance (by decide +kernel) (pa_cons (pe_fld (pv 2) rfl) (pa_cons (pe_bltn (v := .ty "int") (u := .type "int") (by rfl) T.z_int (by decide +kernel) rfl) pa_nil))))) (pw_or (pt_val (pe_callB call_isi (by rfl) T.z_isinstance (by decide +kernel) (pa_cons (pe_fld (pv 2) rfl) (pa_cons (pe_bltn (v := .ty "bool") (u := .type "bool") (by rfl) T.z_bool (by decide +kernel) rfl) pa_nil)))) (pw_or1 (pt_cmpR op_ne (pe_fld (pv 2) rfl) (pv 0) (nomark _))))))
        (pss_one (ps_ret pe_bl))
        pss_nil)
      (pss_one (ps_ret (pe_and (pe_callB call_isi (by rfl) T.z_isinstance (by decide +kernel) (pa_cons (pe_fld (pv 2) rfl) (pa_cons (pe_bltn (v := .ty "tuple") (u := .type "tuple") (by rfl) T.z_tuple (by decide +kernel) rfl) pa_nil))) (pe_one (pe_cmpR (op_eqD hr.units) (pe_fld (pv 2) rfl) (pe_callTy call_tuple_of (by rfl) T.z_tuple (by decide +kernel) (pa_cons (pv 1) pa_nil)) (nomark _)))))))), ?_⟩
    walk_at "r"
    intro wx wd nx nd ne
    have sw : Same H (upd (upd H wd (.own wx)) wx (.ins c_Web wd [])) := fun b ob hb => by
      rw [upd_ne (ne_of_none hb nx), upd_ne (ne_of_none hb nd)]
      exact hb
    refine ⟨wx, wd, L, n, xs, ss, rfl, upd_same, hL.imp (fun h => sw _ _ h) (fun h => sw _ _ h), n1, n8, l16, hst.same sw, fun s hs => ⟨(hok s hs).1, (hok s hs).2.mono (by decide)⟩, fun H6 hweb kp => ⟨rfl, ?_⟩⟩
    have s6 : Same H H6 := Same.made nx nd kp
    obtain ⟨_, dx2, t2, zs, e2, hpx, ht2, hz⟩ := id hweb
    cases e2
    have hL6 := hL.same s6
    have hst6 := hst.same s6
    walk_at "r"
    refine ⟨_, _, _, _, _, rfl, hpx, T.w_Web.it.cl, T.n_Web_wares, wF_wares _ _, ?_⟩
    walk_at "r"
    refine ⟨_, _, _, _, _, rfl, hpx, T.w_Web.it.cl, T.n_Web_wares, wF_wares _ _, ?_⟩
    walk_at "r"
    refine ⟨_, _, _, _, _, rfl, hpx, T.w_Web.it.cl, T.n_Web_wares, wF_wares _ _, ?_⟩
    walk_at "r"
    refine ⟨_, _, _, _, _, rfl, hpx, T.w_Web.it.cl, T.n_Web_stalls, wF_stalls _ _, ?_⟩
    walk_at "r"
    refine ⟨_, _, _, _, _, rfl, hpx, T.w_Web.it.cl, T.n_Web_stalls, wF_stalls _ _, ?_⟩
    walk_at "r"
    rcases hL6 with h | h
    · refine ⟨L, xs, rfl, .inl ⟨.of h, fun l nl => ?_⟩⟩
      have s7 := same_upd (o := .tup xs) nl
      refine eqST (s7 _ _ ht2) (hz.same s7) upd_same (hst6.same s7) ?_
      exact q _ (s6.trans s7)
    · refine ⟨L, xs, rfl, .inr ⟨.of h, ?_⟩⟩
      refine eqST ht2 hz h hst6 ?_
      exact q _ s6
end
end My
namespace My
open PySem PySem.Spec PyProof.Rows L2
variable {K : PySem.W.Frag}
theorem mem_snoc {P : V → Prop} {us : List V} {v : V} (h : ∀ u ∈ us, P u) (g : P v) : ∀ u ∈ us ++ [v], P u := fun u m => (List.mem_append.mp m).elim (h u) fun m => by
  rw [List.mem_singleton.mp m]
  exact g
/-- a list of things that are judged as stalls, and an odd thing -/
structure C05 (K : PySem.W.Frag) (M : Nat) (D Cd : Addr) (c : Nat) (H0 H : Hp) (S : Addr) (xs : List V) (odd : V) (us : List V) : Prop where
  dk : Deck M D Cd H c
  f : Fw D H0 H
  hS : H S = some (.lst xs)
  SD : S ≠ D
  js : ∀ x ∈ xs, Js K D H x
  oj : O5 K D H odd
  J : ∀ u ∈ us, Js K D H u
theorem C05.fw {M : Nat} {D Cd S : Addr} {c c' : Nat} {H0 H H' : Hp} {xs us : List V} {odd : V} (g : C05 K M D Cd c H0 H S xs odd us) (f : Fw D H H') (k : Deck M D Cd H' c') : C05 K M D Cd c' H0 H' S xs odd us :=
  ⟨k, g.f.trans f, f _ _ g.SD g.hS, g.SD, fun x m => (g.js x m).fw g.dk f, g.oj.fw g.dk f, fun x m => (g.J x m).fw g.dk f⟩
theorem C05.same {M : Nat} {D Cd S : Addr} {c : Nat} {H0 H H' : Hp} {xs us : List V} {odd : V} (g : C05 K M D Cd c H0 H S xs odd us) (s : Same H H') : C05 K M D Cd c H0 H' S xs odd us := g.fw (Same.fw s) (g.dk.same s)
theorem C05.add {M : Nat} {D Cd S : Addr} {c : Nat} {H0 H : Hp} {xs us : List V} {odd v : V} (g : C05 K M D Cd c H0 H S xs odd us) (h : Js K D H v) : C05 K M D Cd c H0 H S xs odd (us ++ [v]) := ⟨g.dk, g.f, g.hS, g.SD, g.js, g.oj, mem_snoc g.J h⟩
/-- a tuple of five that is looked at -/
structure M05 (K : PySem.W.Frag) (D : Addr) (H : Hp) (pm : Addr) (va vb vc vd ve : V) : Prop where
  n : pm ≠ D
  h : H pm = some (.tup [va, vb, vc, vd, ve])
  a : Jp K D H va
  b : Jp K D H vb
  c : Jp K D H vc
  d : Jp K D H vd
  e : Jp K D H ve
theorem M05.fw {M c : Nat} {D Cd pm : Addr} {H H' : Hp} {va vb vc vd ve : V} (m : M05 K D H pm va vb vc vd ve) (dk : Deck M D Cd H c) (f : Fw D H H') : M05 K D H' pm va vb vc vd ve :=
  ⟨m.n, f _ _ m.n m.h, m.a.fw dk f, m.b.fw dk f, m.c.fw dk f, m.d.fw dk f, m.e.fw dk f⟩
theorem set_five {D p : Addr} {H : Hp} {odd va vb vc vd ve : V} {pm : Addr} {j : Nat} (m : M05 K D H pm va vb vc vd ve) (o : Jp K D H odd) (hj : j < 5) (np : p ≠ D) (h : H p = some (.tup (List.take j [va, vb, vc, vd, ve] ++ [odd] ++ List.drop (j + 1) [va, vb, vc, vd, ve]))) : Js K D H (.ref p) := by
  match j, hj with
  | 0, _ => exact js_five np h o m.b m.c m.d m.e
  | 1, _ => exact js_five np h m.a o m.c m.d m.e
  | 2, _ => exact js_five np h m.a m.b o m.d m.e
  | 3, _ => exact js_five np h m.a m.b m.c o m.e
  | 4, _ => exact js_five np h m.a m.b m.c m.d o
section
variable {P : Program} {w : World} {K : PySem.W.Frag} {mg : Str → Option Value} {base : Heap} {f_is_integer f_is_row f_is_fraction f_is_some f_multiplied f_squared f_is_stall f_l_deck f_l_pick f_l_divisor f_l_made f_l_amount f_l_stall f_l_stalls f_l_deep f_l_odd f_l_changed f_l_is_some f_l_is_ware f_l_is_stall f_l_due f_l_answer f_l_is_told f_law f_BadStall_init f_Web_init f_Web_eq c_BadWares c_BadStall c_Web : Addr} {d_is_integer d_is_row d_is_fraction d_is_some d_multiplied d_squared d_is_stall d_l_deck d_l_pick d_l_divisor d_l_made d_l_amount d_l_stall d_l_stalls d_l_deep d_l_odd d_l_changed d_l_is_some d_l_is_ware d_l_is_stall d_l_due d_l_answer d_l_is_told d_law d_BadStall_init d_Web_init d_Web_eq : FuncData}
def sp_lchanged (K : PySem.W.Frag) (M : Nat) : Sp := fun vs H Q _ => ∃ (D Cd S : Addr) (c n : Nat) (xs : List V), vs = [.ref D, .ref S, .int (n : Nat)] ∧ Deck M D Cd H c ∧ c ≤ 2 ^ 37 ∧ S ≠ D ∧ H S = some (.lst xs) ∧ 1 ≤ xs.length ∧ xs.length ≤ 16 ∧ (∀ x ∈ xs, Js K D H x) ∧
  ∀ H' S' ys, Fw D H H' → Deck M D Cd H' (c + 10) → S' ≠ D → H' S' = some (.lst ys) → ys.length = xs.length → (∀ y ∈ ys, Js K D H' y) → Q (.ref S') H'
theorem ok_l_changed {M : Nat} (hM : 64 ≤ M) (hM2 : M ≤ 1048576) (T : Txt K mg f_is_integer f_is_row f_is_fraction f_is_some f_multiplied f_squared f_is_stall f_l_deck f_l_pick f_l_divisor f_l_made f_l_amount f_l_stall f_l_stalls f_l_deep f_l_odd f_l_changed f_l_is_some f_l_is_ware f_l_is_stall f_l_due f_l_answer f_l_is_told f_law f_BadStall_init f_Web_init f_Web_eq c_BadWares c_BadStall c_Web d_is_integer d_is_row d_is_fraction d_is_some d_multiplied d_squared d_is_stall d_l_deck d_l_pick d_l_divisor d_l_made d_l_amount d_l_stall d_l_stalls d_l_deep d_l_odd d_l_changed d_l_is_some d_l_is_ware d_l_is_stall d_l_due d_l_answer d_l_is_told d_law d_BadStall_init d_Web_init d_Web_eq) : FnOk P w K mg base CX0 8 f_l_changed d_l_changed ["_law_deck_here", "_law_stalls_here", "_law_wares"] (sp_lchanged K M) := by
  have G_l_pick : FnOk P w K mg base CX0 1 f_l_pick d_l_pick ["_law_deck_here", "_law_many"] (sp_pick M) := ok_pick hM hM2 T
  have G_l_odd : FnOk P w K mg base CX0 7 f_l_odd d_l_odd ["_law_deck_here", "_law_wares"] (sp_lodd5 K M) := ok_l_odd5 hM hM2 T
  refine T.F_l_changed.ok sc_l_changed (fun vs H Q E h => ?_) (fun cdv A outer s H vs Q E hr h => ?_)
  · obtain ⟨D, Cd, S, c, n, xs, rfl, _⟩ := h
    rfl
  · obtain ⟨D, Cd, S, c, n, xs, rfl, dk, hc, SD, hS, l1, l16, js, q⟩ := h
    refine ⟨_, (pss_cons (ps_set (i := 3) sc_l_changed.nd rfl (by first | exact Or.inl rfl | exact Or.inr rfl) (pe_call G_l_pick (hr.mono (by decide)) (by rfl) T.g_l_pick T.k_l_pick T.b_l_pick .nil pass0 (pa_cons (pv 0) (pa_cons (pe_callB call_lenN (by rfl) T.z_len (by decide +kernel) (pa_cons (pv 1) pa_nil)) pa_nil))))
      (pss_cons (ps_set (i := 4) sc_l_changed.nd rfl (by first | exact Or.inl rfl | exact Or.inr rfl) (pe_ix ix_list (pv 1) (pv 3) (fun _ _ => rfl)))
      (pss_cons (ps_set (i := 5) sc_l_changed.nd rfl (by first | exact Or.inl rfl | exact Or.inr rfl) (pe_call G_l_odd (hr.mono (by decide)) (by rfl) T.g_l_odd T.k_l_odd T.b_l_odd .nil pass0 (pa_cons (pv 0) (pa_cons (pv 2) pa_nil))))
      (pss_cons (ps_if (PW.pt (pw_or (pt_not (pt_val (pe_callB call_isi (by rfl) T.z_isinstance (by decide +kernel) (pa_cons (pv 4) (pa_cons (pe_bltn (v := .ty "tuple") (u := .type "tuple") (by rfl) T.z_tuple (by decide +kernel) rfl) pa_nil))))) (pw_or1 (pt_cmpR op_ne (pe_callB call_lenN (by rfl) T.z_len (by decide +kernel) (pa_cons (pv 4) pa_nil)) pe_int (nomark _)))))
        (pss_one (ps_ret (pe_op op_cat (pe_op op_cat (pe_slice sl_list (pv 1) po_none (po_some (pv 3))) (pe_lst (pa_cons (pv 5) pa_nil))) (pe_slice sl_list (pv 1) (po_some (pe_op op_add (pv 3) pe_int)) po_none))))
        pss_nil)
      (pss_cons (ps_set (i := 6) sc_l_changed.nd rfl (by first | exact Or.inl rfl | exact Or.inr rfl) (pe_call G_l_pick (hr.mono (by decide)) (by rfl) T.g_l_pick T.k_l_pick T.b_l_pick .nil pass0 (pa_cons (pv 0) (pa_cons pe_int pa_nil))))
      (pss_cons (ps_set (i := 7) sc_l_changed.nd rfl (by first | exact Or.inl rfl | exact Or.inr rfl) (pe_lst (pa_cons (pv 5) (pa_cons (pe_callTy call_list_of (by rfl) T.z_list (by decide +kernel) (pa_cons (pv 4) pa_nil)) (pa_cons (pe_op op_catA (pv 4) (pe_tup (pa_cons (pe_ix ix_tup (pv 4) pe_int (fun _ _ => rfl)) pa_nil))) (pa_cons (pe_slice sl_tupA (pv 4) po_none (po_some pe_int)) (pa_cons (pe_op op_catA (pe_tup (pa_cons (pe_ix ix_tup (pv 4) pe_int (fun _ _ => rfl)) pa_nil)) (pe_slice sl_tupA (pv 4) (po_some pe_int) po_none)) (pa_cons (My.pe_revT (pv 4)) (pa_cons (pe_op op_catA (pe_tup (pa_cons (pe_ix ix_tup (pv 4) pe_int (fun _ _ => rfl)) (pa_cons (pe_ix ix_tup (pv 4) pe_int (fun _ _ => rfl)) pa_nil))) (pe_slice sl_tupA (pv 4) (po_some pe_int) po_none)) (pa_cons (pe_op op_catA (pe_slice sl_tupA (pv 4) po_none (po_some pe_int)) (pe_tup (pa_cons (pe_ix ix_tup (pv 4) pe_int (fun _ _ => rfl)) (pa_cons (pe_ix ix_tup (pv 4) pe_int (fun _ _ => rfl)) (pa_cons (pe_ix ix_tup (pv 4) pe_int (fun _ _ => rfl)) pa_nil))))) (pa_cons (pe_op op_catA (pe_slice sl_tupA (pv 4) po_none (po_some pe_int)) (pe_tup (pa_cons (pe_ix ix_tup (pv 4) pe_int (fun _ _ => rfl)) (pa_cons (pe_ix ix_tup (pv 4) pe_int (fun _ _ => rfl)) pa_nil)))) pa_nil)))))))))))
      (pss_cons (ps_set (i := 7) sc_l_changed.nd rfl (by first | exact Or.inl rfl | exact Or.inr rfl) (pe_op op_cat (pv 7) (pe_op op_rep (pe_lst (pa_cons (pe_op op_catA (pe_op op_catA (pe_slice sl_tupA (pv 4) po_none (po_some (pv 6))) (pe_tup (pa_cons (pv 5) pa_nil))) (pe_slice sl_tupA (pv 4) (po_some (pe_op op_add (pv 6) pe_int)) po_none)) pa_nil)) pe_int)))
      (pss_one (ps_ret (pe_op op_cat (pe_op op_cat (pe_slice sl_list (pv 1) po_none (po_some (pv 3))) (pe_lst (pa_cons (pe_ix ix_list (pv 7) (pe_call G_l_pick (hr.mono (by decide)) (by rfl) T.g_l_pick T.k_l_pick T.b_l_pick .nil pass0 (pa_cons (pv 0) (pa_cons pe_int pa_nil))) (fun _ _ => rfl)) pa_nil))) (pe_slice sl_list (pv 1) (po_some (pe_op op_add (pv 3) pe_int)) po_none))))))))))), ?_⟩
    walk_at "r"
    refine ⟨D, Cd, _, _, rfl, ⟨by omega, by omega⟩, dk, by omega, fun H1 r1 w1 k1 a1 b1 => ?_⟩
    obtain ⟨i, rfl⟩ := Int.eq_ofNat_of_zero_le a1
    have hi : i < xs.length := by omega
    obtain ⟨y, hy⟩ : ∃ y, xs[i]? = some y := ⟨_, List.getElem?_eq_getElem hi⟩
    have hS1 := w1 _ _ SD hS
    walk_at "r"
    refine rd_ixL hS1 (at_some hy) ?_
    walk_at "r"
    refine ⟨D, Cd, _, n, rfl, k1, by omega, fun H2 odd w2 k2 jo => ?_⟩
    have g : C05 K M D Cd (c + 1 + 4) H H2 S xs odd [] := ⟨k2, w1.trans w2, w2 _ _ SD hS1, SD, fun x m => ((js x m).fw dk w1).fw k1 w2, jo, fun x m => by cases m⟩
    have jy : Js K D H2 y := g.js y (List.mem_of_getElem? hy)
    clear dk k1 k2 w1 w2 js jo hS hS1
    walk_at "r"
    -- what is no tuple of five is exchanged
    obtain ⟨t, ⟨pm, va, vb, vc, vd, ve, ⟨ta, tb, tc, td, te⟩, rfl, np, hp, ja, jb, jc, jd, je, rfl⟩ | ⟨nt, rfl⟩⟩ := jy
    · have m : M05 K D H2 pm va vb vc vd ve := ⟨np, hp, ⟨_, ja⟩, ⟨_, jb⟩, ⟨_, jc⟩, ⟨_, jd⟩, ⟨_, je⟩⟩
      clear ja jb jc jd je np
      walk_at "r"
      refine ⟨D, Cd, _, _, rfl, ⟨by decide, by decide⟩, g.dk, by omega, fun H3 r3 w3 k3 a3 b3 => ?_⟩
      obtain ⟨j, rfl⟩ := Int.eq_ofNat_of_zero_le a3
      have hj : j < 5 := by omega
      have m := m.fw g.dk w3
      have g := g.fw w3 k3
      clear w3 k3 hp
      have g := g.add (js_no g.oj.nt)
      have hm := m.h
      walk_at "r"
      clear hm
      refine ⟨pm, _, rfl, .inr (.of m.h), fun p1 np1 => ?_⟩
      have s1 := same_upd (o := .lst [va, vb, vc, vd, ve]) np1
      have h1 : upd H3 p1 (.lst [va, vb, vc, vd, ve]) p1 = some (.lst [va, vb, vc, vd, ve]) := upd_same
      have n1 := g.dk.ne np1
      have m := m.fw g.dk (Same.fw s1)
      have g := g.same s1
      generalize upd H3 p1 (.lst [va, vb, vc, vd, ve]) = K1 at *
      have g := g.add (js_no (nt5_lst n1 h1))
      have hm := m.h
      walk_at "r"
      clear hm
      intro p2 np2
      have s2 := same_upd (o := .tup [ve]) np2
      have h2 : upd K1 p2 (.tup [ve]) p2 = some (.tup [ve]) := upd_same
      have n2 := g.dk.ne np2
      have m := m.fw g.dk (Same.fw s2)
      have g := g.same s2
      generalize upd K1 p2 (.tup [ve]) = K2 at *
      refine rd_catA m.h h2 (by rw [sizeLine_eq]; show 5 + 1 ≤ 16777216; decide) fun p3 K3 s3 h3 => ?_
      have m := m.fw g.dk (Same.fw s3)
      have g := g.same s3
      have g := g.add (js_no (nt5_tup (tup_ne g.dk h3) h3 (show (6 : Nat) ≠ 5 by decide)))
      have hm := m.h
      walk_at "r"
      clear hm
      refine rd_slA m.h fun p4 K4 s4 h4 => ?_
      have h4 : K4 p4 = some (.tup [va, vb, vc, vd]) := h4
      have m := m.fw g.dk (Same.fw s4)
      have g := g.same s4
      have g := g.add (js_no (nt5_tup (tup_ne g.dk h4) h4 (show (4 : Nat) ≠ 5 by decide)))
      have hm := m.h
      walk_at "r"
      clear hm
      intro p5 np5
      have s5 := same_upd (o := .tup [vb]) np5
      have h5 : upd K4 p5 (.tup [vb]) p5 = some (.tup [vb]) := upd_same
      have n5 := g.dk.ne np5
      have m := m.fw g.dk (Same.fw s5)
      have g := g.same s5
      generalize upd K4 p5 (.tup [vb]) = K5 at *
      walk_at "r"
      refine rd_slA m.h fun p6 K6 s6 h6 => ?_
      have h6 : K6 p6 = some (.tup [vb, vc, vd, ve]) := h6
      have m := m.fw g.dk (Same.fw s6)
      have g := g.same s6
      have h5 := s6 _ _ h5
      refine rd_catA h5 h6 (by rw [sizeLine_eq]; show 1 + 4 ≤ 16777216; decide) fun p7 K7 s7 h7 => ?_
      have h7 : K7 p7 = some (.tup [vb, vb, vc, vd, ve]) := h7
      have m := m.fw g.dk (Same.fw s7)
      have g := g.same s7
      have g := g.add (js_five (tup_ne g.dk h7) h7 m.b m.b m.c m.d m.e)
      walk_at "r"
      refine rd_revT ?_
      walk_at "r"
      refine ⟨pm, _, rfl, .of m.h, fun p8 np8 => ?_⟩
      have s8 := same_upd (o := .tup [va, vb, vc, vd, ve].reverse) np8
      have h8 : upd K7 p8 (.tup [va, vb, vc, vd, ve].reverse) p8 = some (.tup [ve, vd, vc, vb, va]) := upd_same
      have n8 := g.dk.ne np8
      have m := m.fw g.dk (Same.fw s8)
      have g := g.same s8
      generalize upd K7 p8 (.tup [va, vb, vc, vd, ve].reverse) = K8 at *
      have g := g.add (js_five (tup_ne g.dk h8) h8 m.e m.d m.c m.b m.a)
      have hm := m.h
      walk_at "r"
      clear hm
      intro p9 np9
      have s9 := same_upd (o := .tup [vb, va]) np9
      have h9 : upd K8 p9 (.tup [vb, va]) p9 = some (.tup [vb, va]) := upd_same
      have n9 := g.dk.ne np9
      have m := m.fw g.dk (Same.fw s9)
      have g := g.same s9
      generalize upd K8 p9 (.tup [vb, va]) = K9 at *
      walk_at "r"
      refine rd_slA m.h fun p10 K10 s10 h10 => ?_
      have h10 : K10 p10 = some (.tup [vc, vd, ve]) := h10
      have m := m.fw g.dk (Same.fw s10)
      have g := g.same s10
      have h9 := s10 _ _ h9
      refine rd_catA h9 h10 (by rw [sizeLine_eq]; show 2 + 3 ≤ 16777216; decide) fun p11 K11 s11 h11 => ?_
      have h11 : K11 p11 = some (.tup [vb, va, vc, vd, ve]) := h11
      have m := m.fw g.dk (Same.fw s11)
      have g := g.same s11
      have g := g.add (js_five (tup_ne g.dk h11) h11 m.b m.a m.c m.d m.e)
      walk_at "r"
      refine rd_slA m.h fun p12 K12 s12 h12 => ?_
      have h12 : K12 p12 = some (.tup [va, vb]) := h12
      have m := m.fw g.dk (Same.fw s12)
      have g := g.same s12
      have hm := m.h
      walk_at "r"
      clear hm
      intro p13 np13
      have s13 := same_upd (o := .tup [vd, vc, ve]) np13
      have h13 : upd K12 p13 (.tup [vd, vc, ve]) p13 = some (.tup [vd, vc, ve]) := upd_same
      have n13 := g.dk.ne np13
      have m := m.fw g.dk (Same.fw s13)
      have g := g.same s13
      have h12 := s13 _ _ h12
      generalize upd K12 p13 (.tup [vd, vc, ve]) = K13 at *
      refine rd_catA h12 h13 (by rw [sizeLine_eq]; show 2 + 3 ≤ 16777216; decide) fun p14 K14 s14 h14 => ?_
      have h14 : K14 p14 = some (.tup [va, vb, vd, vc, ve]) := h14
      have m := m.fw g.dk (Same.fw s14)
      have g := g.same s14
      have g := g.add (js_five (tup_ne g.dk h14) h14 m.a m.b m.d m.c m.e)
      walk_at "r"
      refine rd_slA m.h fun p15 K15 s15 h15 => ?_
      have h15 : K15 p15 = some (.tup [va, vb, vc]) := h15
      have m := m.fw g.dk (Same.fw s15)
      have g := g.same s15
      have hm := m.h
      walk_at "r"
      clear hm
      intro p16 np16
      have s16 := same_upd (o := .tup [vc, vc]) np16
      have h16 : upd K15 p16 (.tup [vc, vc]) p16 = some (.tup [vc, vc]) := upd_same
      have n16 := g.dk.ne np16
      have m := m.fw g.dk (Same.fw s16)
      have g := g.same s16
      have h15 := s16 _ _ h15
      generalize upd K15 p16 (.tup [vc, vc]) = K16 at *
      refine rd_catA h15 h16 (by rw [sizeLine_eq]; show 3 + 2 ≤ 16777216; decide) fun p17 K17 s17 h17 => ?_
      have h17 : K17 p17 = some (.tup [va, vb, vc, vc, vc]) := h17
      have m := m.fw g.dk (Same.fw s17)
      have g := g.same s17
      have g := g.add (js_five (tup_ne g.dk h17) h17 m.a m.b m.c m.c m.c)
      walk_at "r"
      have g : C05 K M D Cd (c + 1 + 4 + 1) H K17 S xs odd [odd, .ref p1, .ref p3, .ref p4, .ref p7, .ref p8, .ref p11, .ref p14, .ref p17] := g
      generalize hus : [odd, .ref p1, .ref p3, .ref p4, .ref p7, .ref p8, .ref p11, .ref p14, .ref p17] = us at *
      have hlen : us.length = 9 := by rw [← hus]; rfl
      clear hus
      intro p18 np18
      have s18 := same_upd (o := .lst us) np18
      have h18 : upd K17 p18 (.lst us) p18 = some (.lst us) := upd_same
      have n18 := g.dk.ne np18
      have m := m.fw g.dk (Same.fw s18)
      have g := g.same s18
      generalize upd K17 p18 (.lst us) = K18 at *
      walk_at "r"
      refine rd_slA m.h fun p19 K19 s19 h19 => ?_
      rw [cut_take] at h19
      have m := m.fw g.dk (Same.fw s19)
      have g := g.same s19
      have h18 := s19 _ _ h18
      walk_at "r"
      intro p20 np20
      have s20 := same_upd (o := .tup [odd]) np20
      have h20 : upd K19 p20 (.tup [odd]) p20 = some (.tup [odd]) := upd_same
      have n20 := g.dk.ne np20
      have m := m.fw g.dk (Same.fw s20)
      have g := g.same s20
      have h18 := s20 _ _ h18
      have h19 := s20 _ _ h19
      generalize upd K19 p20 (.tup [odd]) = K20 at *
      refine rd_catA h19 h20 (by rw [sizeLine_eq, List.length_take]; show min j 5 + 1 ≤ _; omega) fun p21 K21 s21 h21 => ?_
      have m := m.fw g.dk (Same.fw s21)
      have g := g.same s21
      have h18 := s21 _ _ h18
      walk_at "r"
      refine rd_slA m.h fun p22 K22 s22 h22 => ?_
      rw [show ((j : Int) + 1) = ((j + 1 : Nat) : Int) by omega, cut_drop] at h22
      have m := m.fw g.dk (Same.fw s22)
      have g := g.same s22
      have h18 := s22 _ _ h18
      have h21 := s22 _ _ h21
      refine rd_catA h21 h22 (by rw [sizeLine_eq, List.length_append, List.length_take, List.length_drop]; show min j 5 + 1 + (5 - (j + 1)) ≤ _; omega) fun p23 K23 s23 h23 => ?_
      have m := m.fw g.dk (Same.fw s23)
      have g := g.same s23
      have h18 := s23 _ _ h18
      have je : Js K D K23 (.ref p23) := set_five m (oj_jp g.oj.oj) hj (tup_ne g.dk h23) h23
      walk_at "r"
      intro p24 np24
      have s24 := same_upd (o := .lst [V.ref p23]) np24
      have h24 : upd K23 p24 (.lst [V.ref p23]) p24 = some (.lst [V.ref p23]) := upd_same
      have n24 := g.dk.ne np24
      have je := je.fw g.dk (Same.fw s24)
      have m := m.fw g.dk (Same.fw s24)
      have g := g.same s24
      have h18 := s24 _ _ h18
      generalize upd K23 p24 (.lst [V.ref p23]) = K24 at *
      refine ⟨p24, 6, _, rfl, rfl, h24, by decide, by decide, by rw [sizeLine_eq]; show 1 * 6 ≤ 16777216; decide, fun p25 np25 => ?_⟩
      have s25 := same_upd (o := .lst (List.replicate (6 : Int).toNat [V.ref p23]).flatten) np25
      have h25 : upd K24 p25 (.lst (List.replicate (6 : Int).toNat [V.ref p23]).flatten) p25 = some (.lst [V.ref p23, .ref p23, .ref p23, .ref p23, .ref p23, .ref p23]) := upd_same
      have je := je.fw g.dk (Same.fw s25)
      have m := m.fw g.dk (Same.fw s25)
      have g := g.same s25
      have h18 := s25 _ _ h18
      generalize upd K24 p25 (.lst (List.replicate (6 : Int).toNat [V.ref p23]).flatten) = K25 at *
      have g := (((((g.add je).add je).add je).add je).add je).add je
      have g : C05 K M D Cd (c + 1 + 4 + 1) H K25 S xs odd (us ++ [V.ref p23, .ref p23, .ref p23, .ref p23, .ref p23, .ref p23]) := by
        simpa only [List.append_assoc, List.cons_append, List.nil_append] using g
      have hlen : (us ++ [V.ref p23, .ref p23, .ref p23, .ref p23, .ref p23, .ref p23]).length = 15 := by rw [List.length_append, hlen]; rfl
      refine rd_catn h18 h25 (by rw [← List.length_append, hlen]; decide) fun p26 K26 np26 s26 h26 => ?_
      have n26 := g.dk.ne np26
      have g := g.same s26
      generalize us ++ [V.ref p23, .ref p23, .ref p23, .ref p23, .ref p23, .ref p23] = ws at *
      clear je m
      walk_at "r"
      refine rd_slLs g.hS fun p27 K27 np27 s27 h27 => ?_
      rw [cut_take] at h27
      have n27 := g.dk.ne np27
      have g := g.same s27
      have h26 := s27 _ _ h26
      walk_at "r"
      refine ⟨D, Cd, _, _, rfl, ⟨by decide, by decide⟩, g.dk, by omega, fun H7 r7 w7 k7 a7 b7 => ?_⟩
      obtain ⟨z, hz, ez⟩ := at_in (m := 15) hlen a7 b7
      refine rd_ixL (w7 _ _ n26 h26) ez ?_
      have h27 := w7 _ _ n27 h27
      have g := g.fw w7 k7
      have jz := g.J z hz
      clear w7 k7
      walk_at "r"
      intro p28 np28
      have s28 := same_upd (o := .lst [z]) np28
      have h28 : upd H7 p28 (.lst [z]) p28 = some (.lst [z]) := upd_same
      have n28 := g.dk.ne np28
      have jz := jz.fw g.dk (Same.fw s28)
      have g := g.same s28
      have h27 := s28 _ _ h27
      generalize upd H7 p28 (.lst [z]) = K28 at *
      refine rd_catn h27 h28 (by simp; omega) fun p29 K29 np29 s29 h29 => ?_
      have n29 := g.dk.ne np29
      have jz := jz.fw g.dk (Same.fw s29)
      have g := g.same s29
      walk_at "r"
      refine rd_slLs g.hS fun p30 K30 np30 s30 h30 => ?_
      rw [cut_drop1] at h30
      have n30 := g.dk.ne np30
      have jz := jz.fw g.dk (Same.fw s30)
      have g := g.same s30
      have h29 := s30 _ _ h29
      refine rd_catn h29 h30 (by simp; omega) fun p31 K31 np31 s31 h31 => ?_
      have n31 := g.dk.ne np31
      have jz := jz.fw g.dk (Same.fw s31)
      have g := g.same s31
      try walk_at "r"
      refine q _ _ _ g.f (g.dk.mono (by omega)) n31 h31 (by simp; omega) fun u hu => ?_
      rcases List.mem_append.mp hu with h1 | h1
      · rcases List.mem_append.mp h1 with h2 | h2
        · exact g.js u (List.mem_of_mem_take h2)
        · rw [List.mem_singleton.mp h2]
          exact jz
      · exact g.js u (List.mem_of_mem_drop h1)
    · rcases nt with ⟨ii, rfl⟩ | ⟨od, hn⟩
      · skip
        walk_at "r"
        refine rd_slLs g.hS fun p32 K32 np32 s32 h32 => ?_
        rw [cut_take] at h32
        have n32 := g.dk.ne np32
        have g := g.same s32
        walk_at "r"
        intro p33 np33
        have s33 := same_upd (o := .lst [odd]) np33
        have h33 : upd K32 p33 (.lst [odd]) p33 = some (.lst [odd]) := upd_same
        have n33 := g.dk.ne np33
        have g := g.same s33
        have h32 := s33 _ _ h32
        generalize upd K32 p33 (.lst [odd]) = K33 at *
        refine rd_catn h32 h33 (by simp; omega) fun p34 K34 np34 s34 h34 => ?_
        have n34 := g.dk.ne np34
        have g := g.same s34
        walk_at "r"
        refine rd_slLs g.hS fun p35 K35 np35 s35 h35 => ?_
        rw [cut_drop1] at h35
        have n35 := g.dk.ne np35
        have g := g.same s35
        have h34 := s35 _ _ h34
        refine rd_catn h34 h35 (by simp; omega) fun p36 K36 np36 s36 h36 => ?_
        have n36 := g.dk.ne np36
        have g := g.same s36
        try walk_at "r"
        refine q _ _ _ g.f (g.dk.mono (by omega)) n36 h36 (by simp; omega) fun u hu => ?_
        rcases List.mem_append.mp hu with h1 | h1
        · rcases List.mem_append.mp h1 with h2 | h2
          · exact g.js u (List.mem_of_mem_take h2)
          · rw [List.mem_singleton.mp h2]
            exact js_no g.oj.nt
        · exact g.js u (List.mem_of_mem_drop h1)
      · obtain ⟨b1, b2, b3, hb, -, -, h3, ht⟩ := od.isi
        refine h3 _ ?_
        cases b3 with
        | false =>
          walk_at "r"
          refine rd_slLs g.hS fun p37 K37 np37 s37 h37 => ?_
          rw [cut_take] at h37
          have n37 := g.dk.ne np37
          have g := g.same s37
          walk_at "r"
          intro p38 np38
          have s38 := same_upd (o := .lst [odd]) np38
          have h38 : upd K37 p38 (.lst [odd]) p38 = some (.lst [odd]) := upd_same
          have n38 := g.dk.ne np38
          have g := g.same s38
          have h37 := s38 _ _ h37
          generalize upd K37 p38 (.lst [odd]) = K38 at *
          refine rd_catn h37 h38 (by simp; omega) fun p39 K39 np39 s39 h39 => ?_
          have n39 := g.dk.ne np39
          have g := g.same s39
          walk_at "r"
          refine rd_slLs g.hS fun p40 K40 np40 s40 h40 => ?_
          rw [cut_drop1] at h40
          have n40 := g.dk.ne np40
          have g := g.same s40
          have h39 := s40 _ _ h39
          refine rd_catn h39 h40 (by simp; omega) fun p41 K41 np41 s41 h41 => ?_
          have n41 := g.dk.ne np41
          have g := g.same s41
          try walk_at "r"
          refine q _ _ _ g.f (g.dk.mono (by omega)) n41 h41 (by simp; omega) fun u hu => ?_
          rcases List.mem_append.mp hu with h1 | h1
          · rcases List.mem_append.mp h1 with h2 | h2
            · exact g.js u (List.mem_of_mem_take h2)
            · rw [List.mem_singleton.mp h2]
              exact js_no g.oj.nt
          · exact g.js u (List.mem_of_mem_drop h1)
        | true =>
          obtain ⟨p, zs, rfl, np, hp⟩ := ht rfl
          have hl : ¬ ((zs.length : Int) = 5) := by
            have := hn p zs rfl hp
            omega
          walk_at "r"
          refine rd_slLs g.hS fun p42 K42 np42 s42 h42 => ?_
          rw [cut_take] at h42
          have n42 := g.dk.ne np42
          have g := g.same s42
          walk_at "r"
          intro p43 np43
          have s43 := same_upd (o := .lst [odd]) np43
          have h43 : upd K42 p43 (.lst [odd]) p43 = some (.lst [odd]) := upd_same
          have n43 := g.dk.ne np43
          have g := g.same s43
          have h42 := s43 _ _ h42
          generalize upd K42 p43 (.lst [odd]) = K43 at *
          refine rd_catn h42 h43 (by simp; omega) fun p44 K44 np44 s44 h44 => ?_
          have n44 := g.dk.ne np44
          have g := g.same s44
          walk_at "r"
          refine rd_slLs g.hS fun p45 K45 np45 s45 h45 => ?_
          rw [cut_drop1] at h45
          have n45 := g.dk.ne np45
          have g := g.same s45
          have h44 := s45 _ _ h44
          refine rd_catn h44 h45 (by simp; omega) fun p46 K46 np46 s46 h46 => ?_
          have n46 := g.dk.ne np46
          have g := g.same s46
          try walk_at "r"
          refine q _ _ _ g.f (g.dk.mono (by omega)) n46 h46 (by simp; omega) fun u hu => ?_
          rcases List.mem_append.mp hu with h1 | h1
          · rcases List.mem_append.mp h1 with h2 | h2
            · exact g.js u (List.mem_of_mem_take h2)
            · rw [List.mem_singleton.mp h2]
              exact js_no g.oj.nt
          · exact g.js u (List.mem_of_mem_drop h1)
end
end My
namespace My
open PySem PySem.Spec PyProof.Rows L2
theorem rd_disp {trs : List (TE × TE)} {σ : L2.St} {H : Hp} {Q : VK} (h : ∀ p, H p = none → tPairs trs σ (upd H p (.dK [])) fun ps H2 => H2 p = some (.dK []) ∧ ∃ kvs : List (Key × V), ps = kvs.map (fun kv => (kV kv.1, kv.2)) ∧ kvs.length ≤ 15 ∧ Q (.ref p) (upd H2 p (.dK (mergeK [] kvs)))) : tDisp trs σ H Q := h
theorem rd_pairs {tk tv : TE} {r : List (TE × TE)} {σ : L2.St} {H : Hp} {Q : List (V × V) → Hp → Prop} (h : tk σ H fun x H1 => tv σ H1 fun y H2 => tPairs r σ H2 fun ps H3 => Q ((x, y) :: ps) H3) : tPairs ((tk, tv) :: r) σ H Q := h
theorem rd_pairs0 {σ : L2.St} {H : Hp} {Q : List (V × V) → Hp → Prop} (h : Q [] H) : tPairs [] σ H Q := h
end My
namespace My
open PySem PySem.Spec PyProof.Rows L2
variable {K : PySem.W.Frag}
theorem IsStH.right {M c n : Nat} {D C : Addr} {H : Hp} {v : V} {s : Stl} (h : IsStH H v s) (dk : Deck M D C H c) (b : BdSt 40 s) (ok : OkSt n s) : ∃ t, J5 K D H v t ∧ sOk n t = true := by
  obtain ⟨p, va, vb, vr, rfl, h, ⟨pa, rfl, ha⟩, ⟨pb, rfl, hb⟩, ⟨pr, rfl, hr⟩⟩ := h
  have fr : ∀ {q : Addr} {r : Rat}, H q = some (.tup (frV r)) → Bd 40 r → JP K D H (.ref q) (none, some r) := fun h b => ⟨.inr ⟨.tup (tup_ne dk h) h, rfl⟩, .inl ⟨_, ⟨_, rfl, .inl h⟩, b, rfl⟩⟩
  have it : ∀ i : Int, JP K D H (.int i) (some i, none) := fun i => ⟨.inl ⟨i, rfl, rfl⟩, .inr ⟨.int i, rfl⟩⟩
  refine ⟨_, .inl ⟨p, _, _, _, _, _, ⟨(some (s.u : Int), none), (some (s.v : Int), none), (none, some s.a), (none, some s.b), (none, some s.r)⟩, rfl, tup_ne dk h, h, it _, it _, fr ha b.a, fr hb b.b, fr hr b.r, rfl⟩, ?_⟩
  show (ixOk n (some (s.u : Int)) && (ixOk n (some (s.v : Int)) && (decide (some (s.u : Int) ≠ some (s.v : Int)) && (decide (0 < s.a) && (decide (0 < s.b) && (decide (0 < s.r) && decide (s.a * s.b = s.r * s.r))))))) = true
  have hu := ok.u
  have hv := ok.v
  rw [ix_eq, ix_eq, decide_eq_true (show (0 : Int) ≤ (s.u : Int) by omega), decide_eq_true (show (s.u : Int) < (n : Int) by omega), decide_eq_true (show (0 : Int) ≤ (s.v : Int) by omega), decide_eq_true (show (s.v : Int) < (n : Int) by omega),
    decide_eq_true (show some (s.u : Int) ≠ some (s.v : Int) from fun z => ok.ne (by injection z with z; omega)), decide_eq_true ok.a, decide_eq_true ok.b, decide_eq_true ok.r, decide_eq_true ok.e]
  rfl
theorem jsl_right {M c n : Nat} {D C S : Addr} {H : Hp} {xs : List V} {ss : List Stl} (dk : Deck M D C H c) (SD : S ≠ D) (hS : SqAt H S xs) (st : StsH H xs ss) (ok : ∀ s ∈ ss, OkSt n s ∧ BdSt 40 s) (l : ss.length ≤ 16) : JSl K D H n (.ref S) none := by
  have hl := st.len
  have key : ∀ {xs : List V} {ss : List Stl}, StsH H xs ss → (∀ s ∈ ss, OkSt n s ∧ BdSt 40 s) → ∃ ts, Paired (J5 K D H) xs ts ∧ ∀ t ∈ ts, sOk n t = true := by
    intro xs ss hp
    unfold StsH at hp
    induction hp with
    | nil => exact fun _ => ⟨[], .nil, by simp⟩
    | cons h t ih =>
      intro g
      obtain ⟨ts, f1, f2⟩ := ih fun s hs => g s (by simp [hs])
      obtain ⟨o, b⟩ := g _ List.mem_cons_self
      obtain ⟨t1, h1, h2⟩ := h.right (K := K) dk b o
      exact ⟨t1 :: ts, .cons h1 f1, fun u hu => by
        rcases List.mem_cons.mp hu with rfl | hu
        · exact h2
        · exact f2 u hu⟩
  obtain ⟨ts, f1, f2⟩ := key st ok
  have l2 := Paired.length f1
  refine .inl ⟨S, xs, ts, rfl, SD, hS, f1, by omega, ?_⟩
  unfold flt5
  rw [if_neg (by omega), badF_none fun j u hu => f2 u (List.mem_of_getElem? hu)]
  rfl
structure L05 (K : PySem.W.Frag) (D C S : Addr) (n c : Nat) (xs : List V) (H : Hp) : Prop where
  dk : Deck 1048576 D C H c
  hS : H S = some (.lst xs)
  SD : S ≠ D
  rt : JSl K D H n (.ref S) none
  js : ∀ x ∈ xs, Js K D H x
section
variable {D C S : Addr} {H H' : Hp} {n c : Nat} {xs : List V}
theorem L05.fw {c' : Nat} (g : L05 K D C S n c xs H) (f : Fw D H H') (k : Deck 1048576 D C H' c') : L05 K D C S n c' xs H' := ⟨k, f _ _ g.SD g.hS, g.SD, g.rt.fw g.dk f, fun x m => (g.js x m).fw g.dk f⟩
theorem L05.same (g : L05 K D C S n c xs H) (s : Same H H') : L05 K D C S n c xs H' := g.fw (Same.fw s) (g.dk.same s)
theorem L05.mono {c' : Nat} (g : L05 K D C S n c xs H) (h : c ≤ c') : L05 K D C S n c' xs H := ⟨g.dk.mono h, g.hS, g.SD, g.rt, g.js⟩
theorem L05.sts (g : L05 K D C S n c xs H) : ∃ ss, Sts K H xs ss ∧ xs.length ≤ 16 ∧ ∀ s ∈ ss, OkSt n s ∧ BdSt 40 s := by
  obtain ⟨L, ys, ss, e, h, st, l, ok⟩ := jsl_good g.rt
  cases e
  rcases h with h | h
  · rw [g.hS] at h
    cases h
    exact ⟨ss, st, l, ok⟩
  · rw [g.hS] at h
    cases h
end
theorem jsl_of {n : Nat} {D p : Addr} {H : Hp} {ys : List V} {ts : List (Option T5)} (np : p ≠ D) (h : SqAt H p ys) (hp : Paired (J5 K D H) ys ts) (l : ys.length ≤ 900) : JSl K D H n (.ref p) (flt5 n ts) := .inl ⟨p, ys, ts, rfl, np, h, hp, l, rfl⟩
theorem cut_last {xs : List V} (h : 17 ≤ xs.length) : (cutV xs (some (-17)) none).length = 17 ∧ ∀ v ∈ cutV xs (some (-17)) none, v ∈ xs := by
  unfold cutV
  have e : HT.sIx xs.length 0 (some (-17)) = xs.length - 17 := by
    show (if (-17 : Int) < 0 then (-17 + (xs.length : Int)).toNat else min ((-17 : Int).toNat) xs.length) = _
    rw [if_pos (by decide)]
    omega
  rw [e, HT.sIx_none]
  refine ⟨by simp; omega, fun v hv => ?_⟩
  exact List.mem_of_mem_drop (List.mem_of_mem_take hv)
theorem wok_int {i : Int} (h : ¬ (1 ≤ i ∧ i ≤ 8)) : wOk (some i) = false := by
  show (decide (1 ≤ i) && decide (i ≤ 8)) = false
  rw [Bool.and_eq_false_iff, decide_eq_false_iff_not, decide_eq_false_iff_not]
  omega
/-- a thing that is no number of wares -/
def NoW (K : PySem.W.Frag) (D : Addr) (H : Hp) (v : V) : Prop := ∃ o, JI K D H v o ∧ wOk o = false
theorem NoW.fw {D : Addr} {H H' : Hp} {v : V} (h : NoW K D H v) (f : Fw D H H') : NoW K D H' v := h.elim fun o g => ⟨o, g.1.fw f, g.2⟩
theorem now_od {D : Addr} {H : Hp} {v : V} (o : Od K D H v) : NoW K D H v := ⟨none, .inr ⟨o, rfl⟩, rfl⟩
theorem now_int {D : Addr} {H : Hp} {i : Int} (h : ¬ (1 ≤ i ∧ i ≤ 8)) : NoW K D H (.int i) := ⟨some i, .inl ⟨i, rfl, rfl⟩, wok_int h⟩
theorem b1_od {D : Addr} {H : Hp} {v : V} (b : B1 D H v) : Od K D H v := by
  obtain ⟨p, x, rfl, n, h | h⟩ := b
  · exact .lst n h
  · exact .tup n h
/-- a thing that is no row of stalls -/
def BadS (K : PySem.W.Frag) (D : Addr) (H : Hp) (v : V) : Prop := ∀ n, JSl K D H n v (some (-1))
theorem BadS.fw {M c : Nat} {D C : Addr} {H H' : Hp} {v : V} (h : BadS K D H v) (dk : Deck M D C H c) (f : Fw D H H') : BadS K D H' v := fun n => (h n).fw dk f
theorem bads_no {D : Addr} {H : Hp} {v : V} (h : NoSq K D H v) : BadS K D H v := fun n => .inr ⟨h, rfl⟩
section
variable {P : Program} {w : World} {K : PySem.W.Frag} {mg : Str → Option Value} {base : Heap} {f_is_integer f_is_row f_is_fraction f_is_some f_multiplied f_squared f_is_stall f_l_deck f_l_pick f_l_divisor f_l_made f_l_amount f_l_stall f_l_stalls f_l_deep f_l_odd f_l_changed f_l_is_some f_l_is_ware f_l_is_stall f_l_due f_l_answer f_l_is_told f_law f_BadStall_init f_Web_init f_Web_eq c_BadWares c_BadStall c_Web : Addr} {d_is_integer d_is_row d_is_fraction d_is_some d_multiplied d_squared d_is_stall d_l_deck d_l_pick d_l_divisor d_l_made d_l_amount d_l_stall d_l_stalls d_l_deep d_l_odd d_l_changed d_l_is_some d_l_is_ware d_l_is_stall d_l_due d_l_answer d_l_is_told d_law d_BadStall_init d_Web_init d_Web_eq : FuncData}
def sp_law (K : PySem.W.Frag) : Sp := fun vs H Q _ => ∃ (a : Addr) (ns : List Int), vs = [.ref a] ∧ SqL K H a (ns.map V.int) ∧ ns.length ≤ 63 ∧ (∀ z ∈ ns, Builtin.Int.intBits z ≤ 1048576) ∧ ∀ H', Q (.bl true) H'
theorem ok_law (T : Txt K mg f_is_integer f_is_row f_is_fraction f_is_some f_multiplied f_squared f_is_stall f_l_deck f_l_pick f_l_divisor f_l_made f_l_amount f_l_stall f_l_stalls f_l_deep f_l_odd f_l_changed f_l_is_some f_l_is_ware f_l_is_stall f_l_due f_l_answer f_l_is_told f_law f_BadStall_init f_Web_init f_Web_eq c_BadWares c_BadStall c_Web d_is_integer d_is_row d_is_fraction d_is_some d_multiplied d_squared d_is_stall d_l_deck d_l_pick d_l_divisor d_l_made d_l_amount d_l_stall d_l_stalls d_l_deep d_l_odd d_l_changed d_l_is_some d_l_is_ware d_l_is_stall d_l_due d_l_answer d_l_is_told d_law d_BadStall_init d_Web_init d_Web_eq) : FnOk P w K mg base CX0 9 f_law d_law ["_law_script"] (sp_law K) := by
  have G_l_deck : FnOk P w K mg base CX0 1 f_l_deck d_l_deck ["_law_script"] (sp_deck K) := ok_l_deck T
  have G_l_pick : FnOk P w K mg base CX0 1 f_l_pick d_l_pick ["_law_deck_here", "_law_many"] (sp_pick 1048576) := ok_pick (by decide) (by decide) T
  have G_l_stalls : FnOk P w K mg base CX0 5 f_l_stalls d_l_stalls ["_law_deck_here", "_law_wares"] (sp_lstallsH 1048576) := ok_l_stallsH (by decide) (by decide) T
  have G_l_deep : FnOk P w K mg base CX0 2 f_l_deep d_l_deep ["_law_deck_here"] (sp_ldeep2 1048576) := ok_l_deep2 (by decide) (by decide) T
  have G_l_changed : FnOk P w K mg base CX0 8 f_l_changed d_l_changed ["_law_deck_here", "_law_stalls_here", "_law_wares"] (sp_lchanged K 1048576) := ok_l_changed (by decide) (by decide) T
  have G_l_due : FnOk P w K mg base CX0 4 f_l_due d_l_due ["_law_wares", "_law_stalls_here"] (sp_ldue5 K) := ok_l_due T
  have G_l_answer : FnOk P w K mg base CX0 7 f_l_answer d_l_answer ["_law_wares", "_law_stalls_here"] (sp_lans5 K) := ok_l_answer T
  have G_l_is_told : FnOk P w K mg base CX0 7 f_l_is_told d_l_is_told ["_law_wares", "_law_stalls_here"] (sp_ltold5 K) := ok_l_is_told T
  have G_Web_init : FnOk P w K mg base CX0 5 f_Web_init d_Web_init ["self", "wares", "stalls"] (sp_web K c_Web) := ok_Web_init T
  refine T.F_law.ok sc_law (fun vs H Q E h => ?_) (fun cdv A outer sh H vs Q E hr h => ?_)
  · obtain ⟨a, ns, rfl, _⟩ := h
    rfl
  · obtain ⟨a, ns, rfl, hS, hl, hb, q⟩ := h
    refine ⟨_, (pss_cons (ps_set (i := 1) sc_law.nd rfl (by first | exact Or.inl rfl | exact Or.inr rfl) (pe_call G_l_deck (hr.mono (by decide)) (by rfl) T.g_l_deck T.k_l_deck T.b_l_deck .nil pass0 (pa_cons (pv 0) pa_nil)))
      (pss_cons (ps_set (i := 2) sc_law.nd rfl (by first | exact Or.inl rfl | exact Or.inr rfl) (pe_op op_add pe_int (pe_call G_l_pick (hr.mono (by decide)) (by rfl) T.g_l_pick T.k_l_pick T.b_l_pick .nil pass0 (pa_cons (pv 1) (pa_cons pe_int pa_nil)))))
      (pss_cons (ps_set (i := 3) sc_law.nd rfl (by first | exact Or.inl rfl | exact Or.inr rfl) (pe_call G_l_stalls (hr.mono (by decide)) (by rfl) T.g_l_stalls T.k_l_stalls T.b_l_stalls .nil pass0 (pa_cons (pv 1) (pa_cons (pv 2) pa_nil))))
      (pss_cons (ps_if (PW.pt (pw_or (pt_cmpR (op_neD hr.units) (pe_call G_l_answer (hr.mono (by decide)) (by rfl) T.g_l_answer T.k_l_answer T.b_l_answer .nil pass0 (pa_cons (pv 2) (pa_cons (pv 3) pa_nil))) (pe_tup (pa_cons pe_str (pa_cons pe_int pa_nil))) (nomark _)) (pw_or1 (pt_not (pt_val (pe_call G_l_is_told (hr.mono (by decide)) (by rfl) T.g_l_is_told T.k_l_is_told T.b_l_is_told .nil pass0 (pa_cons (pv 2) (pa_cons (pv 3) pa_nil))))))))
        (pss_one (ps_ret pe_bl))
        pss_nil)
      (pss_cons (ps_for PassesOwn.never rfl (pi_range1 (by rfl) T.z_range (pa_cons pe_int pa_nil)) (pg_name (i := 4) sc_law.nd rfl (by first | exact Or.inl rfl | exact Or.inr rfl))
        (pss_cons (ps_set (i := 5) sc_law.nd rfl (by first | exact Or.inl rfl | exact Or.inr rfl) (pe_callTy call_list_of (by rfl) T.z_list (by decide +kernel) (pa_cons (pv 3) pa_nil)))
          (pss_cons (ps_for PassesOwn.never rfl (pi_range1 (by rfl) T.z_range (pa_cons (pe_op op_add pe_int (pe_call G_l_pick (hr.mono (by decide)) (by rfl) T.g_l_pick T.k_l_pick T.b_l_pick .nil pass0 (pa_cons (pv 1) (pa_cons pe_int pa_nil)))) pa_nil)) (pg_name (i := 6) sc_law.nd rfl (by first | exact Or.inl rfl | exact Or.inr rfl))
            (pss_one (ps_if (pt_cmpR op_gt (pe_callB call_lenN (by rfl) T.z_len (by decide +kernel) (pa_cons (pv 5) pa_nil)) pe_int (nomark _))
                (pss_one (ps_set (i := 5) sc_law.nd rfl (by first | exact Or.inl rfl | exact Or.inr rfl) (pe_call G_l_changed (hr.mono (by decide)) (by rfl) T.g_l_changed T.k_l_changed T.b_l_changed .nil pass0 (pa_cons (pv 1) (pa_cons (pv 5) (pa_cons (pv 2) pa_nil))))))
                pss_nil)))
          (pss_cons (ps_set (i := 7) sc_law.nd rfl (by first | exact Or.inl rfl | exact Or.inr rfl) (pe_ix ix_list (pe_lst (pa_cons (pv 5) (pa_cons (pe_callTy call_tuple_of (by rfl) T.z_tuple (by decide +kernel) (pa_cons (pv 5) pa_nil)) pa_nil))) (pe_call G_l_pick (hr.mono (by decide)) (by rfl) T.g_l_pick T.k_l_pick T.b_l_pick .nil pass0 (pa_cons (pv 1) (pa_cons pe_int pa_nil))) (fun _ _ => rfl)))
          (pss_cons (ps_set (i := 8) sc_law.nd rfl (by first | exact Or.inl rfl | exact Or.inr rfl) (pe_call G_l_due (hr.mono (by decide)) (by rfl) T.g_l_due T.k_l_due T.b_l_due .nil pass0 (pa_cons (pv 2) (pa_cons (pv 5) pa_nil))))
          (pss_cons (ps_if (PW.pt (pw_or (pt_cmpR (op_neD hr.units) (pe_call G_l_answer (hr.mono (by decide)) (by rfl) T.g_l_answer T.k_l_answer T.b_l_answer .nil pass0 (pa_cons (pv 2) (pa_cons (pv 7) pa_nil))) (pv 8) (nomark _)) (pw_or1 (pt_cmpR (My.op_neL hr.units) (pe_callTy call_list_of (by rfl) T.z_list (by decide +kernel) (pa_cons (pv 7) pa_nil)) (pv 5) (nomark _)))))
            (pss_one (ps_ret pe_bl))
            pss_nil)
          (C8.pss_cut (ps_if (PW.pt (pw_and (pt_cmpR op_eq (pe_ix ix_tup (pv 8) pe_int (fun _ _ => rfl)) pe_str (nomark _)) (pw_and1 (pt_not (pt_val (pe_call G_l_is_told (hr.mono (by decide)) (by rfl) T.g_l_is_told T.k_l_is_told T.b_l_is_told .nil pass0 (pa_cons (pv 2) (pa_cons (pv 7) pa_nil))))))))
            (pss_one (ps_ret pe_bl))
            pss_nil)
          (pss_cons (ps_set (i := 9) sc_law.nd rfl (by first | exact Or.inl rfl | exact Or.inr rfl) (pe_ix ix_list (pe_lst (pa_cons pe_int (pa_cons pe_int (pa_cons (pe_un un_neg pe_int) (pa_cons (pe_op op_pow pe_int pe_int) (pa_cons pe_bl (pa_cons pe_non (pa_cons pe_str (pa_cons (pe_tup (pa_cons pe_int pa_nil)) (pa_cons (pe_lst (pa_cons pe_int pa_nil)) (pa_cons pe_dnewK (pa_cons (pe_call G_l_deep (hr.mono (by decide)) (by rfl) T.g_l_deep T.k_l_deep T.b_l_deep .nil pass0 (pa_cons (pv 1) pa_nil)) (pa_cons (pe_make T.w_Web.mks G_Web_init (hr.mono (by decide)) (by rfl) T.w_Web.g T.b_Web_init .nil pass0 (pa_cons pe_int (pa_cons (pe_lst pa_nil) pa_nil))) pa_nil))))))))))))) (pe_call G_l_pick (hr.mono (by decide)) (by rfl) T.g_l_pick T.k_l_pick T.b_l_pick .nil pass0 (pa_cons (pv 1) (pa_cons pe_int pa_nil))) (fun _ _ => rfl)))
          (pss_one (ps_if (PW.pt (pw_or (pt_cmpR (op_neD hr.units) (pe_call G_l_answer (hr.mono (by decide)) (by rfl) T.g_l_answer T.k_l_answer T.b_l_answer .nil pass0 (pa_cons (pv 9) (pa_cons (pv 7) pa_nil))) (pe_tup (pa_cons pe_str (pa_cons pe_int pa_nil))) (nomark _)) (pw_or1 (pt_cmpR (op_neD hr.units) (pe_call G_l_answer (hr.mono (by decide)) (by rfl) T.g_l_answer T.k_l_answer T.b_l_answer .nil pass0 (pa_cons (pv 9) (pa_cons pe_non pa_nil))) (pe_tup (pa_cons pe_str (pa_cons pe_int pa_nil))) (nomark _)))))
            (pss_one (ps_ret pe_bl))
            pss_nil))))))))))
      (pss_cons (ps_for PassesOwn.never rfl (pi_list (pe_lst (pa_cons pe_non (pa_cons pe_str (pa_cons pe_str (pa_cons pe_int (pa_cons pe_bl (pa_cons pe_dnewK (pa_cons (pe_disp (pps_cons pe_int pe_int pps_nil) (by rfl) (by rfl) (fun z => by cases z) (by decide)) (pa_cons (pe_slice sl_list (pe_op op_cat (pv 3) (pe_op op_rep (pe_lst (pa_cons pe_non pa_nil)) pe_int)) (po_some (pe_un un_neg pe_int)) po_none) (pa_cons (pe_make T.w_Web.mks G_Web_init (hr.mono (by decide)) (by rfl) T.w_Web.g T.b_Web_init .nil pass0 (pa_cons pe_int (pa_cons (pe_lst pa_nil) pa_nil))) pa_nil))))))))))) (pg_name (i := 10) sc_law.nd rfl (by first | exact Or.inl rfl | exact Or.inr rfl))
        (pss_one (ps_if (pt_cmpR (op_neD hr.units) (pe_call G_l_answer (hr.mono (by decide)) (by rfl) T.g_l_answer T.k_l_answer T.b_l_answer .nil pass0 (pa_cons (pv 2) (pa_cons (pv 10) pa_nil))) (pe_tup (pa_cons pe_str (pa_cons (pe_un un_neg pe_int) pa_nil))) (nomark _))
            (pss_one (ps_ret pe_bl))
            pss_nil)))
      (pss_one (ps_ret (pe_call G_l_is_told (hr.mono (by decide)) (by rfl) T.g_l_is_told T.k_l_is_told T.b_l_is_told .nil pass0 (pa_cons (pv 2) (pa_cons (pe_callTy call_tuple_of (by rfl) T.z_tuple (by decide +kernel) (pa_cons (pv 3) pa_nil)) pa_nil))))))))))), ?_⟩
    walk_at "r"
    refine ⟨_, _, rfl, hS, hl, hb, fun H1 D C s1 k1 => ?_⟩
    walk_at "r"
    refine ⟨_, _, _, _, rfl, ⟨by decide, by decide⟩, k1, by decide, fun H2 r1 w2 k2 a1 b1 => ?_⟩
    obtain ⟨n, hn⟩ := Int.eq_ofNat_of_zero_le (show 0 ≤ 1 + r1 by omega)
    have n1 : 1 ≤ n := by omega
    have n8 : n ≤ 8 := by omega
    have wn : wOk (some (n : Int)) = true := by
      show (decide (1 ≤ (n : Int)) && decide ((n : Int) ≤ 8)) = true
      rw [decide_eq_true (by omega), decide_eq_true (by omega)]
      rfl
    walk_at "r"
    rw [hn]
    refine ⟨D, C, _, n, rfl, n1, n8, k2, by decide, fun H3 S xs ss w3 k3 SD hS3 hst l16 hok => ?_⟩
    have hlx := hst.len
    have g : L05 K D C S n 300 xs H3 := ⟨k3.mono (by decide), hS3, SD, jsl_right k3 SD (.inl hS3) hst (fun s hs => ⟨(hok s hs).1, (hok s hs).2.1⟩) l16, fun x m => by
      obtain ⟨j, hj⟩ := List.getElem?_of_mem m
      obtain ⟨s, hs, h'⟩ := Paired.at hst hj
      exact h'.js k3 (hok s (List.mem_of_getElem? hs)).2.1⟩
    clear hS s1 k1 w2 k2 w3 k3 hS3 hst hok a1 b1 hn
    have told : ∀ {H' : Hp} {y : V}, JSl K D H' n y none → ∀ m : Nat, some (n : Int) = some (m : Int) → 1 ≤ m → JSl K D H' m y none := fun j m e _ => by
      have e : n = m := by injection e with e; omega
      subst e
      exact j
    walk_at "r"
    refine ⟨_, _, D, some (n : Int), fun _ => none, rfl, .inl ⟨_, rfl, rfl⟩, told g.rt, fun H4 v4 s4 h4 => ?_⟩
    have g := g.same s4
    rw [ansW_yes wn] at h4
    walk_at "r"
    intro pr npr
    have s5 := same_upd (o := .tup [V.str "told", .int 0]) npr
    refine neWd (h4.same s5) ⟨pr, rfl, upd_same⟩ (dueS_ok _) told_ok ?_
    rw [show (decide ((dueS none).1 = ("told" : Str)) && decide ((dueS none).2 = 0)) = true from by decide +kernel]
    have g := g.same s5
    generalize upd H4 pr (.tup [V.str "told", .int 0]) = H5 at *
    clear s5 npr h4 s4
    walk_at "r"
    obtain ⟨ss, hst, -, hok⟩ := g.sts
    refine ⟨n, S, xs, ss, rfl, n1, n8, .inl g.hS, hst, by omega, hok, fun H6 s6 => ?_⟩
    have g := g.same s6
    clear s6 hst hok
    walk_at "r"
    refine ⟨by decide, by decide, ?_⟩
    refine for_range (lo := 0) (n := 5) (fun i σ H' => ∃ (t4 t5 t6 t7 t8 t9 : Option V), σ = [some (.ref a), some (.ref D), some (.int (n : Nat)), some (.ref S), t4, t5, t6, t7, t8, t9, none] ∧ L05 K D C S n (300 + 60 * i) xs H') ?_ ?_ ?_
    · exact ⟨_, _, _, _, _, _, rfl, g⟩
    · rintro i σ H7 hi ⟨t4, t5, t6, t7, t8, t9, rfl, g⟩
      have hSg := g.hS
      walk_at "r"
      refine ⟨S, xs, rfl, .inl (.of g.hS), fun N nN => ?_⟩
      have s8 := same_upd (o := .lst xs) nN
      have hN : upd H7 N (.lst xs) N = some (.lst xs) := upd_same
      have ND := g.dk.ne nN
      have g := g.same s8
      generalize upd H7 N (.lst xs) = H8 at *
      clear s8 nN hSg
      walk_at "r"
      refine ⟨D, C, _, _, rfl, ⟨by decide, by decide⟩, g.dk, by omega, fun H9 r9 w9 k9 a9 b9 => ?_⟩
      have hN := w9 _ _ ND hN
      have g := g.fw w9 k9
      clear w9 k9
      walk_at "r"
      refine ⟨by omega, by omega, ?_⟩
      refine for_range (lo := 0) (n := (1 + r9).toNat) (fun k σ H' => ∃ (t6 : Option V) (S' : Addr) (ys : List V), σ = [some (.ref a), some (.ref D), some (.int (n : Nat)), some (.ref S), some (.int (0 + (i : Nat))), some (.ref S'), t6, t7, t8, t9, none] ∧ L05 K D C S n (300 + 60 * i + 1 + 10 * k) xs H' ∧ S' ≠ D ∧ H' S' = some (.lst ys) ∧ ys.length = xs.length ∧ ∀ y ∈ ys, Js K D H' y) ?_ ?_ ?_
      · exact ⟨_, N, xs, rfl, g, ND, hN, rfl, g.js⟩
      · rintro k σ Ha hk ⟨t6, S', ys, rfl, g, SD', hS', hly, js⟩
        walk_at "r"
        walk_at "if"
        · rename_i hpos
          walk_at "r"
          refine ⟨D, C, S', _, n, ys, rfl, g.dk, by omega, SD', hS', by omega, by omega, js, fun Hb S2 zs wb kb SD2 hS2 hlz jz => ?_⟩
          exact ⟨_, S2, zs, rfl, (g.fw wb kb).mono (by omega), SD2, hS2, by omega, jz⟩
        · walk_at "r"
          exact ⟨_, S', ys, rfl, g.mono (by omega), SD', hS', hly, js⟩
      rintro σ Ha ⟨t6, S', ys, rfl, g, SD', hS', hly, js⟩
      have g : L05 K D C S n (300 + 60 * i + 21) xs Ha := g.mono (by omega)
      obtain ⟨ts, hts⟩ := paired_of js
      have l17 : ys.length ≤ 16 := by omega
      have nofl : ∀ v ∈ ys, noFl v = true := fun v m => by
        obtain ⟨t, h⟩ := js v m
        exact h.noFl
      clear js
      walk_at "r"
      refine ⟨S', ys, rfl, .inl ⟨.of hS', fun T' nT' => ?_⟩⟩
      have s8 := same_upd (o := .tup ys) nT'
      have hT : upd Ha T' (.tup ys) T' = some (.tup ys) := upd_same
      have TD := g.dk.ne nT'
      have g := g.same s8
      have hS' := s8 _ _ hS'
      have hts : Paired (J5 K D _) ys ts := prd_mp (fun _ _ h => h.same s8) hts
      generalize upd Ha T' (.tup ys) = Hb at *
      clear s8 nT'
      walk_at "r"
      intro Lp nLp
      have s8 := same_upd (o := .lst [V.ref S', .ref T']) nLp
      have hLp : upd Hb Lp (.lst [V.ref S', .ref T']) Lp = some (.lst [V.ref S', .ref T']) := upd_same
      have LpD := g.dk.ne nLp
      have g := g.same s8
      have hS' := s8 _ _ hS'
      have hT := s8 _ _ hT
      have hts : Paired (J5 K D _) ys ts := prd_mp (fun _ _ h => h.same s8) hts
      generalize upd Hb Lp (.lst [V.ref S', .ref T']) = Hc at *
      clear s8 nLp
      walk_at "r"
      refine ⟨D, C, _, _, rfl, ⟨by decide, by decide⟩, g.dk, by omega, fun Hd rd wd kd ad bd => ?_⟩
      have hLp := wd _ _ LpD hLp
      have hS' := wd _ _ SD' hS'
      have hT := wd _ _ TD hT
      have hts : Paired (J5 K D _) ys ts := prd_mp (fun _ _ h => h.fw g.dk wd) hts
      have g := g.fw wd kd
      clear wd kd
      obtain ⟨Pp, epp, hPp, PpD⟩ : ∃ Pp, atI [V.ref S', .ref T'] rd = some (.ref Pp) ∧ SqAt Hd Pp ys ∧ Pp ≠ D := by
        rcases (show rd = 0 ∨ rd = 1 by omega) with rfl | rfl
        · exact ⟨S', rfl, .inl hS', SD'⟩
        · exact ⟨T', rfl, .inr hT, TD⟩
      refine rd_ixL hLp epp ?_
      clear hLp epp hT
      walk_at "r"
      refine ⟨n, _, D, flt5 n ts, rfl, n1, n8, jsl_of SD' (.inl hS') hts (by omega), fun He ve se hve => ?_⟩
      have hS' := se _ _ hS'
      have hPp := hPp.same se
      have hts : Paired (J5 K D _) ys ts := prd_mp (fun _ _ h => h.same se) hts
      have g := g.same se
      clear se
      walk_at "r"
      refine ⟨_, _, D, some (n : Int), fun m => flt5 m ts, rfl, .inl ⟨_, rfl, rfl⟩, fun m e m1 => jsl_of PpD hPp hts (by omega), fun Hf vf sf hvf => ?_⟩
      rw [ansW_yes wn] at hvf
      have hve := hve.same sf
      have hS' := sf _ _ hS'
      have hPp := hPp.same sf
      have hts : Paired (J5 K D _) ys ts := prd_mp (fun _ _ h => h.same sf) hts
      have g := g.same sf
      clear sf
      walk_at "r"
      refine neWd hvf hve (dueS_ok _) (dueS_ok _) ?_
      rw [decide_eq_true rfl, decide_eq_true rfl, Bool.and_self]
      walk_at "r"
      refine ⟨Pp, ys, rfl, hPp.imp .of .of, fun Lq nLq => ?_⟩
      have sg := same_upd (o := .lst ys) nLq
      have hLq : upd Hf Lq (.lst ys) Lq = some (.lst ys) := upd_same
      have hve := hve.same sg
      have hS' := sg _ _ hS'
      have hPp := hPp.same sg
      have hts : Paired (J5 K D _) ys ts := prd_mp (fun _ _ h => h.same sg) hts
      have g := g.same sg
      generalize upd Hf Lq (.lst ys) = Hg at *
      clear sg nLq hvf
      walk_at "r"
      refine ⟨Lq, S', ys, rfl, rfl, hLq, hS', nofl, ?_⟩
      walk_at "r"
      refine ⟨fun σ H' => ∃ (t4 t5 t6 t9 : Option V) (pd : Addr), σ = [some (.ref a), some (.ref D), some (.int (n : Nat)), some (.ref S), t4, t5, t6, some (.ref Pp), some (.ref pd), t9, none] ∧ L05 K D C S n (300 + 60 * i + 22) xs H' ∧ SqAt H' Pp ys ∧ Paired (J5 K D H') ys ts, ?_, ?_⟩
      · obtain ⟨pd, rfl, hpd⟩ := id hve
        walk_at "r"
        cases ef : flt5 n ts with
        | none =>
          rw [show decide ((dueS none).1 = ("told" : Str)) = true from by decide +kernel]
          obtain ⟨L2, zs, ss, e2, hq2, hst, l2, hok⟩ := jsl_good (ef ▸ jsl_of (n := n) PpD hPp hts (by omega))
          cases e2
          walk_at "r"
          refine ⟨n, Pp, zs, ss, rfl, n1, n8, hq2, hst, l2, hok, fun Hh sh' => ?_⟩
          walk_at "r"
          exact ⟨_, _, _, _, pd, rfl, g.same sh', hPp.same sh', prd_mp (fun _ _ h => h.same sh') hts⟩
        | some z =>
          rw [show decide ((dueS (some z)).1 = ("told" : Str)) = false from (by decide +kernel : decide (("stall" : Str) = "told") = false)]
          walk_at "r"
          exact ⟨_, _, _, _, pd, rfl, g, hPp, hts⟩
      clear hve hS' hLq
      rintro σ Hg ⟨t4, t5, t6, t9, pd, rfl, g, hPp, hts⟩
      have W : ∀ v ∈ [V.int 0, .int 9, .int (-1), .int (10 ^ (11 : Int).toNat), .bl true, .non, .str "2"], NoW K D Hg v := by
        intro v hv
        simp only [List.mem_cons, List.not_mem_nil, or_false] at hv
        rcases hv with rfl | rfl | rfl | rfl | rfl | rfl | rfl
        · exact now_int (by decide)
        · exact now_int (by decide)
        · exact now_int (by decide)
        · exact now_int (by decide)
        · exact now_od (.bl true)
        · exact now_od .non
        · exact now_od (.str _)
      walk_at "r"
      intro q1 np
      have sx := same_upd (o := .tup [V.int 2]) np
      have h : upd Hg q1 (.tup [V.int 2]) q1 = some (.tup [V.int 2]) := upd_same
      have nD := g.dk.ne np
      have W := fun v m => (W v m).fw (Same.fw sx)
      have hPp := hPp.same sx
      have hts : Paired (J5 K D _) ys ts := prd_mp (fun _ _ h => h.same sx) hts
      have g := g.same sx
      generalize upd Hg q1 (.tup [V.int 2]) = Hh at *
      have W := mem_snoc W (now_od (.tup nD h))
      clear sx h np nD
      walk_at "r"
      intro q2 np
      have sx := same_upd (o := .lst [V.int 1]) np
      have h : upd Hh q2 (.lst [V.int 1]) q2 = some (.lst [V.int 1]) := upd_same
      have nD := g.dk.ne np
      have W := fun v m => (W v m).fw (Same.fw sx)
      have hPp := hPp.same sx
      have hts : Paired (J5 K D _) ys ts := prd_mp (fun _ _ h => h.same sx) hts
      have g := g.same sx
      generalize upd Hh q2 (.lst [V.int 1]) = Hi at *
      have W := mem_snoc W (now_od (.lst nD h))
      clear sx h np nD
      walk_at "r"
      intro q3 np
      have sx := same_upd (o := .dK []) np
      have h : upd Hi q3 (.dK []) q3 = some (.dK []) := upd_same
      have nD := g.dk.ne np
      have W := fun v m => (W v m).fw (Same.fw sx)
      have hPp := hPp.same sx
      have hts : Paired (J5 K D _) ys ts := prd_mp (fun _ _ h => h.same sx) hts
      have g := g.same sx
      generalize upd Hi q3 (.dK []) = Hj at *
      have W := mem_snoc W (now_od (.dK nD h))
      clear sx h np nD
      walk_at "r"
      refine ⟨D, C, _, rfl, g.dk, by omega, fun Hk vd wk kk bd => ?_⟩
      have W := fun v m => (W v m).fw wk
      have hPp := hPp.fw PpD wk
      have hts : Paired (J5 K D _) ys ts := prd_mp (fun _ _ h => h.fw g.dk wk) hts
      have g := g.fw wk kk
      have W := mem_snoc W (now_od (b1_od (by obtain ⟨p, x, e, np, h, _⟩ := bd; exact ⟨p, x, e, np, h⟩)))
      clear wk kk bd
      walk_at "r"
      intro Lw np
      have sx := same_upd (o := .lst []) np
      have h : upd Hk Lw (.lst []) Lw = some (.lst []) := upd_same
      have nD := g.dk.ne np
      have W := fun v m => (W v m).fw (Same.fw sx)
      have hPp := hPp.same sx
      have hts : Paired (J5 K D _) ys ts := prd_mp (fun _ _ h => h.same sx) hts
      have g := g.same sx
      generalize upd Hk Lw (.lst []) = Hl at *
      clear sx np nD
      walk_at "r"
      intro xw dw nx nd ne
      have xS := ne_of_none h nx
      have dS := ne_of_none h nd
      refine ⟨xw, dw, Lw, 1, [], [], rfl, upd_same, .inl ((upd_ne xS).trans ((upd_ne dS).trans h)), by decide, by decide, by decide, .nil, (fun s hs => by cases hs), fun Hm hweb kp => ⟨rfl, ?_⟩⟩
      have sx : Same Hl Hm := Same.made nx nd kp
      have W := fun v m => (W v m).fw (Same.fw sx)
      have hPp := hPp.same sx
      have hts : Paired (J5 K D _) ys ts := prd_mp (fun _ _ h => h.same sx) hts
      have g := g.same sx
      have pD := web_ne g.dk hweb
      obtain ⟨_, dx2, t2, xs2, e2, hpx2, _⟩ := id hweb
      cases e2
      have W := mem_snoc W (now_od (.ins pD hpx2 T.w_Web.it))
      clear h nx nd ne xS dS hweb kp sx pD hpx2
      walk_at "r"
      have W : ∀ v ∈ [V.int 0, .int 9, .int (-1), .int (10 ^ (11 : Int).toNat), .bl true, .non, .str "2", .ref q1, .ref q2, .ref q3, vd, .ref xw], NoW K D Hm v := W
      have hlen : ([V.int 0, .int 9, .int (-1), .int (10 ^ (11 : Int).toNat), .bl true, .non, .str "2", .ref q1, .ref q2, .ref q3, vd, .ref xw]).length = 12 := rfl
      generalize [V.int 0, .int 9, .int (-1), .int (10 ^ (11 : Int).toNat), .bl true, .non, .str "2", .ref q1, .ref q2, .ref q3, vd, .ref xw] = us at *
      intro Lo nLo
      have sx := same_upd (o := .lst us) nLo
      have hLo : upd Hm Lo (.lst us) Lo = some (.lst us) := upd_same
      have LoD := g.dk.ne nLo
      have W := fun v m => (W v m).fw (Same.fw (D := D) sx)
      have hPp := hPp.same sx
      have hts : Paired (J5 K D _) ys ts := prd_mp (fun _ _ h => h.same sx) hts
      have g := g.same sx
      generalize upd Hm Lo (.lst us) = Hn at *
      clear sx nLo
      walk_at "r"
      refine ⟨D, C, _, _, rfl, ⟨by decide, by decide⟩, g.dk, by omega, fun Ho ro wo ko ao bo => ?_⟩
      obtain ⟨vo, hvo, evo⟩ := at_in (m := 12) hlen ao bo
      refine rd_ixL (wo _ _ LoD hLo) evo ?_
      obtain ⟨oo, jo, eo⟩ := (W vo hvo).fw wo
      have hPp := hPp.fw PpD wo
      have hts : Paired (J5 K D _) ys ts := prd_mp (fun _ _ h => h.fw g.dk wo) hts
      have g := g.fw wo ko
      clear W wo ko hLo
      walk_at "r"
      refine ⟨_, _, D, oo, fun m => flt5 m ts, rfl, jo, fun m e m1 => jsl_of PpD hPp hts (by omega), fun Hp1 v1 s1 h1 => ?_⟩
      rw [ansW_no eo] at h1
      have jo := jo.fw (Same.fw s1)
      have g := g.same s1
      clear s1
      walk_at "r"
      intro p9 np9
      have sx := same_upd (o := .tup [V.str "wares", .int 0]) np9
      refine neWd (h1.same sx) ⟨p9, rfl, upd_same⟩ wares_ok wares_ok ?_
      rw [decide_eq_true rfl, decide_eq_true rfl, Bool.and_self]
      have jo := jo.fw (Same.fw sx)
      have g := g.same sx
      generalize upd Hp1 p9 (.tup [V.str "wares", .int 0]) = Hq at *
      clear sx np9 h1
      walk_at "r"
      refine ⟨_, _, D, oo, fun m => some (-1), rfl, jo, fun m e m1 => .inr ⟨nosq_non, rfl⟩, fun Hr v1 s1 h1 => ?_⟩
      rw [ansW_no eo] at h1
      have g := g.same s1
      clear s1
      walk_at "r"
      intro p9 np9
      have sx := same_upd (o := .tup [V.str "wares", .int 0]) np9
      refine neWd (h1.same sx) ⟨p9, rfl, upd_same⟩ wares_ok wares_ok ?_
      rw [decide_eq_true rfl, decide_eq_true rfl, Bool.and_self]
      walk_at "r"
      exact ⟨_, _, _, _, _, _, rfl, (g.same sx).mono (by omega)⟩
    rintro σ Hg ⟨t4, t5, t6, t7, t8, t9, rfl, g⟩
    have W : ∀ v ∈ [V.non, .str "", .str "01", .int 0, .bl true], BadS K D Hg v := by
      intro v hv
      simp only [List.mem_cons, List.not_mem_nil, or_false] at hv
      rcases hv with rfl | rfl | rfl | rfl | rfl
      · exact bads_no nosq_non
      · exact bads_no nosq_str
      · exact bads_no nosq_str
      · exact bads_no nosq_int
      · exact bads_no nosq_bl
    walk_at "r"
    intro q1 np
    have sx := same_upd (o := .dK []) np
    have h : upd Hg q1 (.dK []) q1 = some (.dK []) := upd_same
    have nD := g.dk.ne np
    have W := fun v m => (W v m).fw g.dk (Same.fw sx)
    have g := g.same sx
    generalize upd Hg q1 (.dK []) = Hh at *
    have W := mem_snoc W (bads_no (nosq_dK nD h))
    clear sx h np nD
    walk_at "r"
    refine rd_disp ?_
    intro q2 np
    have sx := same_upd (o := .dK []) np
    have h : upd Hh q2 (.dK []) q2 = some (.dK []) := upd_same
    have nD := g.dk.ne np
    refine rd_pairs ?_
    walk_at "r"
    refine rd_pairs0 ?_
    refine ⟨h, [(.inl 0, .int 1)], rfl, by decide, ?_⟩
    have sx2 : Same Hh (upd (upd Hh q2 (.dK [])) q2 (.dK (mergeK [] [(.inl 0, V.int 1)]))) := fun b o hb => (upd_ne (ne_of_none hb np)).trans (sx b o hb)
    have h2 : upd (upd Hh q2 (.dK [])) q2 (.dK (mergeK [] [(.inl 0, V.int 1)])) q2 = some (.dK (mergeK [] [(.inl 0, V.int 1)])) := upd_same
    have W := fun v m => (W v m).fw g.dk (Same.fw sx2)
    have g := g.same sx2
    have W := mem_snoc W (bads_no (nosq_dK nD h2))
    generalize upd (upd Hh q2 (.dK [])) q2 (.dK (mergeK [] [(.inl 0, V.int 1)])) = Hi at *
    clear sx h np nD sx2 h2
    walk_at "r"
    intro q3 np
    have sx := same_upd (o := .lst [V.non]) np
    have h3 : upd Hi q3 (.lst [V.non]) q3 = some (.lst [V.non]) := upd_same
    have W := fun v m => (W v m).fw g.dk (Same.fw sx)
    have g := g.same sx
    generalize upd Hi q3 (.lst [V.non]) = Hj at *
    clear sx np
    refine ⟨q3, 17, _, rfl, rfl, h3, by decide, by decide, by rw [sizeLine_eq]; show 1 * 17 ≤ 16777216; decide, fun q4 np => ?_⟩
    have sx := same_upd (o := .lst (List.replicate (17 : Int).toNat [V.non]).flatten) np
    have h4 : upd Hj q4 (.lst (List.replicate (17 : Int).toNat [V.non]).flatten) q4 = some (.lst (List.replicate 17 V.non)) := upd_same.trans (by rw [show (17 : Int).toNat = 17 from rfl, List.flatten_replicate_singleton])
    have W := fun v m => (W v m).fw g.dk (Same.fw sx)
    have g := g.same sx
    generalize upd Hj q4 (.lst (List.replicate (17 : Int).toNat [V.non]).flatten) = Hk at *
    clear sx np h3
    refine rd_catn g.hS h4 (by rw [List.length_replicate]; omega) fun q5 Hl np sx h5 => ?_
    have W := fun v m => (W v m).fw g.dk (Same.fw sx)
    have g := g.same sx
    clear sx np h4
    walk_at "r"
    refine rd_slLs h5 fun q6 Hm np sx h6 => ?_
    obtain ⟨c17, cin⟩ := cut_last (xs := xs ++ List.replicate 17 V.non) (by simp)
    have nD := g.dk.ne np
    have W := fun v m => (W v m).fw g.dk (Same.fw sx)
    have g := g.same sx
    have jall : ∀ v ∈ cutV (xs ++ List.replicate 17 V.non) (some (-17)) none, Js K D Hm v := fun v m => by
      rcases List.mem_append.mp (cin v m) with h | h
      · exact g.js v h
      · rw [(List.mem_replicate.mp h).2]
        exact js_no nt5_non
    have W := mem_snoc W (show BadS K D Hm (.ref q6) from fun m => by
      obtain ⟨ts, hts⟩ := paired_of jall
      have l2 := Paired.length hts
      refine .inl ⟨q6, _, ts, rfl, nD, .inl h6, hts, by omega, ?_⟩
      unfold flt5
      rw [if_pos (by omega)])
    clear sx np h5 h6 nD jall c17 cin
    walk_at "r"
    intro Lw np
    have sx := same_upd (o := .lst []) np
    have h : upd Hm Lw (.lst []) Lw = some (.lst []) := upd_same
    have nD := g.dk.ne np
    have W := fun v m => (W v m).fw g.dk (Same.fw sx)
    have g := g.same sx
    generalize upd Hm Lw (.lst []) = Hn at *
    clear sx np nD
    walk_at "r"
    intro xw dw nx nd ne
    have xS := ne_of_none h nx
    have dS := ne_of_none h nd
    refine ⟨xw, dw, Lw, 1, [], [], rfl, upd_same, .inl ((upd_ne xS).trans ((upd_ne dS).trans h)), by decide, by decide, by decide, .nil, (fun s hs => by cases hs), fun Ho hweb kp => ⟨rfl, ?_⟩⟩
    have sx : Same Hn Ho := Same.made nx nd kp
    have W := fun v m => (W v m).fw g.dk (Same.fw sx)
    have g := g.same sx
    have pD := web_ne g.dk hweb
    obtain ⟨_, dx2, t2, xs2, e2, hpx2, _⟩ := id hweb
    cases e2
    have W := mem_snoc W (bads_no (nosq_ins pD hpx2 T.w_Web.it))
    clear h nx nd ne xS dS hweb kp sx pD hpx2
    walk_at "r"
    have W : ∀ v ∈ [V.non, .str "", .str "01", .int 0, .bl true, .ref q1, .ref q2, .ref q6, .ref xw], BadS K D Ho v := W
    generalize [V.non, .str "", .str "01", .int 0, .bl true, .ref q1, .ref q2, .ref q6, .ref xw] = us at *
    intro Lo nLo
    have sx := same_upd (o := .lst us) nLo
    have hLo : upd Ho Lo (.lst us) Lo = some (.lst us) := upd_same
    have W := fun v m => (W v m).fw g.dk (Same.fw (D := D) sx)
    have g := g.same sx
    generalize upd Ho Lo (.lst us) = Hp1 at *
    clear sx nLo
    refine ⟨Lo, rfl, ⟨_, .of hLo⟩, ?_⟩
    refine for_list (K := K) (a := Lo) (xs := us) (fun i σ H' => ∃ (t10 : Option V), σ = [some (.ref a), some (.ref D), some (.int (n : Nat)), some (.ref S), t4, t5, t6, t7, t8, t9, t10] ∧ Same Hp1 H') ?_ ?_ ?_ ?_
    · exact ⟨_, rfl, Same.refl _⟩
    · rintro i σ H' _ ⟨t10, rfl, sm⟩
      exact .of (sm _ _ hLo)
    · rintro i v σ H' hv ⟨t10, rfl, sm⟩
      have bv := (W v (List.mem_of_getElem? hv)).fw g.dk (Same.fw sm)
      walk_at "r"
      refine ⟨_, _, D, some (n : Int), fun m => some (-1), rfl, .inl ⟨_, rfl, rfl⟩, fun m e m1 => bv m, fun H2 v2 s2 h2 => ?_⟩
      rw [ansW_yes wn] at h2
      walk_at "r"
      intro p9 np9
      have sx := same_upd (o := .tup [V.str "stall", .int (-1)]) np9
      refine neWd (h2.same sx) ⟨p9, rfl, upd_same⟩ (dueS_ok _) stall_ok ?_
      rw [show (decide ((dueS (some (-1))).1 = ("stall" : Str)) && decide ((dueS (some (-1))).2 = -1)) = true from by decide +kernel]
      walk_at "r"
      exact (sm.trans s2).trans sx
    rintro σ H' ⟨t10, rfl, sm⟩
    have g := g.same sm
    have hSg := g.hS
    walk_at "r"
    refine ⟨S, xs, rfl, .inl ⟨.of g.hS, fun p9 np9 => ?_⟩⟩
    have sx := same_upd (o := .tup xs) np9
    have h9 : upd H' p9 (.tup xs) p9 = some (.tup xs) := upd_same
    have g := g.same sx
    obtain ⟨ss, hst, l2, hok⟩ := g.sts
    exact ⟨n, p9, xs, ss, rfl, n1, n8, .inr h9, hst, l2, hok, fun H9 _ => q _⟩
theorem ok_all (T : Txt K mg f_is_integer f_is_row f_is_fraction f_is_some f_multiplied f_squared f_is_stall f_l_deck f_l_pick f_l_divisor f_l_made f_l_amount f_l_stall f_l_stalls f_l_deep f_l_odd f_l_changed f_l_is_some f_l_is_ware f_l_is_stall f_l_due f_l_answer f_l_is_told f_law f_BadStall_init f_Web_init f_Web_eq c_BadWares c_BadStall c_Web d_is_integer d_is_row d_is_fraction d_is_some d_multiplied d_squared d_is_stall d_l_deck d_l_pick d_l_divisor d_l_made d_l_amount d_l_stall d_l_stalls d_l_deep d_l_odd d_l_changed d_l_is_some d_l_is_ware d_l_is_stall d_l_due d_l_answer d_l_is_told d_law d_BadStall_init d_Web_init d_Web_eq) : FnOk P w K mg base CX0 9 f_law d_law ["_law_script"] (sp_law K) := ok_law T
end
end My
namespace My
open PySem PySem.Spec PyProof.Rows L2
theorem all_mk {l : PySem.W.OpenLaw} {w : World} {K : PySem.W.Frag} {h : Heap} {mg : Str → Option Value} {fa : Addr} (X : K.In h) (G : h.Ns mainGlobals mg) (hfa : mg "law" = some (.ref fa))
    {c_BadWares : Addr}
    {c_BadStall : Addr} {nm_BadStall q_BadStall : Str} {N_BadStall : Addr} {bs_BadStall bm_BadStall : List Value} {sn_BadStall : List Str} {sub_BadStall : List Value} {ab_BadStall : Bool} {col_BadStall : Option Bool} {dd_BadStall : Option Addr} {k0_BadStall k1_BadStall k2_BadStall k3_BadStall k5_BadStall : Option Value}
    {c_Web : Addr}
    {tk_MOST_STALLS : Tok}
    {tk_MOST_WARES : Tok}
    {od0 an0 : Option Addr} {sl0 : Array (Option Value)} {oc0 kV0 dc0 pm0 cd0 ct0 : Value} {f_is_integer : Addr}
    {od1 an1 : Option Addr} {sl1 : Array (Option Value)} {oc1 kV1 dc1 pm1 cd1 ct1 : Value} {f_is_row : Addr}
    {od2 an2 : Option Addr} {sl2 : Array (Option Value)} {oc2 kV2 dc2 pm2 cd2 ct2 : Value} {f_is_fraction : Addr}
    {od3 an3 : Option Addr} {sl3 : Array (Option Value)} {oc3 kV3 dc3 pm3 cd3 ct3 : Value} {f_is_some : Addr}
    {od4 an4 : Option Addr} {sl4 : Array (Option Value)} {oc4 kV4 dc4 pm4 cd4 ct4 : Value} {f_multiplied : Addr}
    {od5 an5 : Option Addr} {sl5 : Array (Option Value)} {oc5 kV5 dc5 pm5 cd5 ct5 : Value} {f_squared : Addr}
    {od6 an6 : Option Addr} {sl6 : Array (Option Value)} {oc6 kV6 dc6 pm6 cd6 ct6 : Value} {f_is_stall : Addr}
    {od7 an7 : Option Addr} {sl7 : Array (Option Value)} {oc7 kV7 dc7 pm7 cd7 ct7 : Value} {f_l_deck : Addr}
    {od8 an8 : Option Addr} {sl8 : Array (Option Value)} {oc8 kV8 dc8 pm8 cd8 ct8 : Value} {f_l_pick : Addr}
    {od9 an9 : Option Addr} {sl9 : Array (Option Value)} {oc9 kV9 dc9 pm9 cd9 ct9 : Value} {f_l_divisor : Addr}
    {od10 an10 : Option Addr} {sl10 : Array (Option Value)} {oc10 kV10 dc10 pm10 cd10 ct10 : Value} {f_l_made : Addr}
    {od11 an11 : Option Addr} {sl11 : Array (Option Value)} {oc11 kV11 dc11 pm11 cd11 ct11 : Value} {f_l_amount : Addr}
    {od12 an12 : Option Addr} {sl12 : Array (Option Value)} {oc12 kV12 dc12 pm12 cd12 ct12 : Value} {f_l_stall : Addr}
    {od13 an13 : Option Addr} {sl13 : Array (Option Value)} {oc13 kV13 dc13 pm13 cd13 ct13 : Value} {f_l_stalls : Addr}
    {od14 an14 : Option Addr} {sl14 : Array (Option Value)} {oc14 kV14 dc14 pm14 cd14 ct14 : Value} {f_l_deep : Addr}
    {od15 an15 : Option Addr} {sl15 : Array (Option Value)} {oc15 kV15 dc15 pm15 cd15 ct15 : Value} {f_l_odd : Addr}
    {od16 an16 : Option Addr} {sl16 : Array (Option Value)} {oc16 kV16 dc16 pm16 cd16 ct16 : Value} {f_l_changed : Addr}
    {od17 an17 : Option Addr} {sl17 : Array (Option Value)} {oc17 kV17 dc17 pm17 cd17 ct17 : Value} {f_l_is_some : Addr}
    {od18 an18 : Option Addr} {sl18 : Array (Option Value)} {oc18 kV18 dc18 pm18 cd18 ct18 : Value} {f_l_is_ware : Addr}
    {od19 an19 : Option Addr} {sl19 : Array (Option Value)} {oc19 kV19 dc19 pm19 cd19 ct19 : Value} {f_l_is_stall : Addr}
    {od20 an20 : Option Addr} {sl20 : Array (Option Value)} {oc20 kV20 dc20 pm20 cd20 ct20 : Value} {f_l_due : Addr}
    {od21 an21 : Option Addr} {sl21 : Array (Option Value)} {oc21 kV21 dc21 pm21 cd21 ct21 : Value} {f_l_answer : Addr}
    {od22 an22 : Option Addr} {sl22 : Array (Option Value)} {oc22 kV22 dc22 pm22 cd22 ct22 : Value} {f_l_is_told : Addr}
    {od23 an23 : Option Addr} {sl23 : Array (Option Value)} {oc23 kV23 dc23 pm23 cd23 ct23 : Value} {f_law : Addr}
    {od24 an24 : Option Addr} {sl24 : Array (Option Value)} {oc24 kV24 dc24 pm24 cd24 ct24 : Value} {f_BadStall_init : Addr}
    {od25 an25 : Option Addr} {sl25 : Array (Option Value)} {oc25 kV25 dc25 pm25 cd25 ct25 : Value} {f_Web_init : Addr}
    {od26 an26 : Option Addr} {sl26 : Array (Option Value)} {oc26 kV26 dc26 pm26 cd26 ct26 : Value} {f_Web_eq : Addr}
    (z_abs : PySem.W.nsIn K mainGlobals "abs" = some none)
    (z_bool : PySem.W.nsIn K mainGlobals "bool" = some none)
    (z_enumerate : PySem.W.nsIn K mainGlobals "enumerate" = some none)
    (z_int : PySem.W.nsIn K mainGlobals "int" = some none)
    (z_isinstance : PySem.W.nsIn K mainGlobals "isinstance" = some none)
    (z_len : PySem.W.nsIn K mainGlobals "len" = some none)
    (z_list : PySem.W.nsIn K mainGlobals "list" = some none)
    (z_range : PySem.W.nsIn K mainGlobals "range" = some none)
    (z_tuple : PySem.W.nsIn K mainGlobals "tuple" = some none)
    (m_gcd : PySem.W.nsIn K mainGlobals "gcd" = some (some (.builtin "math.gcd")))
    (a_BadWares : PySem.W.nsIn K mainGlobals "BadWares" = some (some (.ref c_BadWares)))
    (ex_BadWares : PySem.W.excIn K c_BadWares veChain "ValueError.__new__" = true)
    (kp_BadWares : PySem.W.keepIn K (.ref c_BadWares) = true)
    (be_BadWares : PySem.W.subIn K (.ref c_BadWares) (.type "BaseException") = some true)
    (ty_BadWares : PySem.W.typeIn K (.ref c_BadWares) = some (.type "type"))
    (ic_BadWares : PySem.W.isClsIn K c_BadWares = true)
    (sf_BadWares : PySem.W.subIn K (.ref c_BadWares) (.ref c_BadWares) = some true)
    (a_BadStall : PySem.W.nsIn K mainGlobals "BadStall" = some (some (.ref c_BadStall)))
    (ob_BadStall : K.lookup c_BadStall = some (PySem.excClassObj nm_BadStall q_BadStall c_BadStall N_BadStall bs_BadStall bm_BadStall true sn_BadStall sub_BadStall ab_BadStall col_BadStall dd_BadStall k0_BadStall k1_BadStall k2_BadStall k3_BadStall k5_BadStall "ValueError.__new__"))
    (rv_BadStall : PySem.HandSPX.refsVE bm_BadStall = true)
    (sa_BadStall : PySem.W.findIn K (.ref c_BadStall) "__setattr__" = some (some (.builtin "object.__setattr__")))
    (ga_BadStall : PySem.W.findIn K (.ref c_BadStall) "__getattribute__" = some (some (.builtin "BaseException.__getattribute__")))
    (gg_BadStall : PySem.W.findIn K (.ref c_BadStall) "__getattr__" = some none)
    (no_BadStall : PySem.W.findIn K (.ref c_BadStall) "index" = some none)
    (in_BadStall : PySem.W.findIn K (.ref c_BadStall) "__init__" = some (some (.ref f_BadStall_init)))
    (ti_BadStall : PySem.W.typeIn K (.ref f_BadStall_init) = some (.type "function"))
    (be_BadStall : PySem.W.subIn K (.ref c_BadStall) (.type "BaseException") = some true)
    (ty_BadStall : PySem.W.typeIn K (.ref c_BadStall) = some (.type "type"))
    (kp_BadStall : PySem.W.keepIn K (.ref c_BadStall) = true)
    (hd_BadStall : PySem.W.hasDictIn K c_BadStall = true)
    (ic_BadStall : PySem.W.isClsIn K c_BadStall = true)
    (sf_BadStall : PySem.W.subIn K (.ref c_BadStall) (.ref c_BadStall) = some true)
    (a_Web : PySem.W.nsIn K mainGlobals "Web" = some (some (.ref c_Web)))
    (mk_Web : PySem.W.makesIn K c_Web = true)
    (in_Web : PySem.W.findIn K (.ref c_Web) "__init__" = some (some (.ref f_Web_init)))
    (fn_Web : PySem.W.isFn K (.ref f_Web_init) = true)
    (kp_Web : PySem.W.keepIn K (.ref c_Web) = true)
    (pg_Web : PySem.W.plainGet K c_Web Str.empty = true)
    (hd_Web : PySem.W.hasDictIn K c_Web = true)
    (po_Web : PySem.W.plainOver K c_Web = true)
    (sa_Web : PySem.W.findIn K (.ref c_Web) "__setattr__" = some (some (.builtin "object.__setattr__")))
    (ha_Web : PySem.W.findIn K (.ref c_Web) "__class__" = some (some (.builtin "object.__class__")))
    (hn_Web : PySem.W.specialIn K (.builtin "object.__class__") "__get__" = some (some (.builtin "getset_descriptor.__get__")))
    (ht_Web : PySem.W.takesIn K (.builtin "object.__class__") = some true)
    (mo_Web : PySem.W.mroIn K c_Web (.type "object") = some true)
    (i_int_Web : PySem.W.kitOne K (.ref c_Web) (.type "int") = some false)
    (i_bool_Web : PySem.W.kitOne K (.ref c_Web) (.type "bool") = some false)
    (i_tuple_Web : PySem.W.kitOne K (.ref c_Web) (.type "tuple") = some false)
    (i_list_Web : PySem.W.kitOne K (.ref c_Web) (.type "list") = some false)
    (na_Web_wares : PySem.W.findIn K (.ref c_Web) "wares" = some none)
    (na_Web_stalls : PySem.W.findIn K (.ref c_Web) "stalls" = some none)
    (x_BadStall_BadWares : PySem.W.subIn K (.ref c_BadStall) (.ref c_BadWares) = some false)
    (v_MOST_STALLS : PySem.W.nsIn K mainGlobals "MOST_STALLS" = some (some (.int 16 tk_MOST_STALLS)))
    (v_MOST_WARES : PySem.W.nsIn K mainGlobals "MOST_WARES" = some (some (.int 8 tk_MOST_WARES)))
    (a_is_integer : PySem.W.nsIn K mainGlobals "is_integer" = some (some (.ref f_is_integer)))
    (l_is_integer : K.lookup f_is_integer = some ⟨oc0, od0, .func (PySem.W.fnOf "is_integer" "is_integer" (defArgs s_is_integer) (defBody s_is_integer) (defScope s_is_integer) .none kV0 dc0 pm0 an0 cd0 ct0), sl0⟩)
    (c_is_integer : PySem.W.codeIn K cd0 "is_integer" = true)
    (k_is_integer : PySem.W.keepIn K (.ref f_is_integer) = true)
    (a_is_row : PySem.W.nsIn K mainGlobals "is_row" = some (some (.ref f_is_row)))
    (l_is_row : K.lookup f_is_row = some ⟨oc1, od1, .func (PySem.W.fnOf "is_row" "is_row" (defArgs s_is_row) (defBody s_is_row) (defScope s_is_row) .none kV1 dc1 pm1 an1 cd1 ct1), sl1⟩)
    (c_is_row : PySem.W.codeIn K cd1 "is_row" = true)
    (k_is_row : PySem.W.keepIn K (.ref f_is_row) = true)
    (a_is_fraction : PySem.W.nsIn K mainGlobals "is_fraction" = some (some (.ref f_is_fraction)))
    (l_is_fraction : K.lookup f_is_fraction = some ⟨oc2, od2, .func (PySem.W.fnOf "is_fraction" "is_fraction" (defArgs s_is_fraction) (defBody s_is_fraction) (defScope s_is_fraction) .none kV2 dc2 pm2 an2 cd2 ct2), sl2⟩)
    (c_is_fraction : PySem.W.codeIn K cd2 "is_fraction" = true)
    (k_is_fraction : PySem.W.keepIn K (.ref f_is_fraction) = true)
    (a_is_some : PySem.W.nsIn K mainGlobals "is_some" = some (some (.ref f_is_some)))
    (l_is_some : K.lookup f_is_some = some ⟨oc3, od3, .func (PySem.W.fnOf "is_some" "is_some" (defArgs s_is_some) (defBody s_is_some) (defScope s_is_some) .none kV3 dc3 pm3 an3 cd3 ct3), sl3⟩)
    (c_is_some : PySem.W.codeIn K cd3 "is_some" = true)
    (k_is_some : PySem.W.keepIn K (.ref f_is_some) = true)
    (a_multiplied : PySem.W.nsIn K mainGlobals "multiplied" = some (some (.ref f_multiplied)))
    (l_multiplied : K.lookup f_multiplied = some ⟨oc4, od4, .func (PySem.W.fnOf "multiplied" "multiplied" (defArgs s_multiplied) (defBody s_multiplied) (defScope s_multiplied) .none kV4 dc4 pm4 an4 cd4 ct4), sl4⟩)
    (c_multiplied : PySem.W.codeIn K cd4 "multiplied" = true)
    (k_multiplied : PySem.W.keepIn K (.ref f_multiplied) = true)
    (a_squared : PySem.W.nsIn K mainGlobals "squared" = some (some (.ref f_squared)))
    (l_squared : K.lookup f_squared = some ⟨oc5, od5, .func (PySem.W.fnOf "squared" "squared" (defArgs s_squared) (defBody s_squared) (defScope s_squared) .none kV5 dc5 pm5 an5 cd5 ct5), sl5⟩)
    (c_squared : PySem.W.codeIn K cd5 "squared" = true)
    (k_squared : PySem.W.keepIn K (.ref f_squared) = true)
    (a_is_stall : PySem.W.nsIn K mainGlobals "is_stall" = some (some (.ref f_is_stall)))
    (l_is_stall : K.lookup f_is_stall = some ⟨oc6, od6, .func (PySem.W.fnOf "is_stall" "is_stall" (defArgs s_is_stall) (defBody s_is_stall) (defScope s_is_stall) .none kV6 dc6 pm6 an6 cd6 ct6), sl6⟩)
    (c_is_stall : PySem.W.codeIn K cd6 "is_stall" = true)
    (k_is_stall : PySem.W.keepIn K (.ref f_is_stall) = true)
    (a_l_deck : PySem.W.nsIn K mainGlobals "_law_deck" = some (some (.ref f_l_deck)))
    (l_l_deck : K.lookup f_l_deck = some ⟨oc7, od7, .func (PySem.W.fnOf "_law_deck" "_law_deck" (defArgs s_l_deck) (defBody s_l_deck) (defScope s_l_deck) .none kV7 dc7 pm7 an7 cd7 ct7), sl7⟩)
    (c_l_deck : PySem.W.codeIn K cd7 "_law_deck" = true)
    (k_l_deck : PySem.W.keepIn K (.ref f_l_deck) = true)
    (a_l_pick : PySem.W.nsIn K mainGlobals "_law_pick" = some (some (.ref f_l_pick)))
    (l_l_pick : K.lookup f_l_pick = some ⟨oc8, od8, .func (PySem.W.fnOf "_law_pick" "_law_pick" (defArgs s_l_pick) (defBody s_l_pick) (defScope s_l_pick) .none kV8 dc8 pm8 an8 cd8 ct8), sl8⟩)
    (c_l_pick : PySem.W.codeIn K cd8 "_law_pick" = true)
    (k_l_pick : PySem.W.keepIn K (.ref f_l_pick) = true)
    (a_l_divisor : PySem.W.nsIn K mainGlobals "_law_divisor" = some (some (.ref f_l_divisor)))
    (l_l_divisor : K.lookup f_l_divisor = some ⟨oc9, od9, .func (PySem.W.fnOf "_law_divisor" "_law_divisor" (defArgs s_l_divisor) (defBody s_l_divisor) (defScope s_l_divisor) .none kV9 dc9 pm9 an9 cd9 ct9), sl9⟩)
    (c_l_divisor : PySem.W.codeIn K cd9 "_law_divisor" = true)
    (k_l_divisor : PySem.W.keepIn K (.ref f_l_divisor) = true)
    (a_l_made : PySem.W.nsIn K mainGlobals "_law_made" = some (some (.ref f_l_made)))
    (l_l_made : K.lookup f_l_made = some ⟨oc10, od10, .func (PySem.W.fnOf "_law_made" "_law_made" (defArgs s_l_made) (defBody s_l_made) (defScope s_l_made) .none kV10 dc10 pm10 an10 cd10 ct10), sl10⟩)
    (c_l_made : PySem.W.codeIn K cd10 "_law_made" = true)
    (k_l_made : PySem.W.keepIn K (.ref f_l_made) = true)
    (a_l_amount : PySem.W.nsIn K mainGlobals "_law_amount" = some (some (.ref f_l_amount)))
    (l_l_amount : K.lookup f_l_amount = some ⟨oc11, od11, .func (PySem.W.fnOf "_law_amount" "_law_amount" (defArgs s_l_amount) (defBody s_l_amount) (defScope s_l_amount) .none kV11 dc11 pm11 an11 cd11 ct11), sl11⟩)
    (c_l_amount : PySem.W.codeIn K cd11 "_law_amount" = true)
    (k_l_amount : PySem.W.keepIn K (.ref f_l_amount) = true)
    (a_l_stall : PySem.W.nsIn K mainGlobals "_law_stall" = some (some (.ref f_l_stall)))
    (l_l_stall : K.lookup f_l_stall = some ⟨oc12, od12, .func (PySem.W.fnOf "_law_stall" "_law_stall" (defArgs s_l_stall) (defBody s_l_stall) (defScope s_l_stall) .none kV12 dc12 pm12 an12 cd12 ct12), sl12⟩)
    (c_l_stall : PySem.W.codeIn K cd12 "_law_stall" = true)
    (k_l_stall : PySem.W.keepIn K (.ref f_l_stall) = true)
    (a_l_stalls : PySem.W.nsIn K mainGlobals "_law_stalls" = some (some (.ref f_l_stalls)))
    (l_l_stalls : K.lookup f_l_stalls = some ⟨oc13, od13, .func (PySem.W.fnOf "_law_stalls" "_law_stalls" (defArgs s_l_stalls) (defBody s_l_stalls) (defScope s_l_stalls) .none kV13 dc13 pm13 an13 cd13 ct13), sl13⟩)
    (c_l_stalls : PySem.W.codeIn K cd13 "_law_stalls" = true)
    (k_l_stalls : PySem.W.keepIn K (.ref f_l_stalls) = true)
    (a_l_deep : PySem.W.nsIn K mainGlobals "_law_deep" = some (some (.ref f_l_deep)))
    (l_l_deep : K.lookup f_l_deep = some ⟨oc14, od14, .func (PySem.W.fnOf "_law_deep" "_law_deep" (defArgs s_l_deep) (defBody s_l_deep) (defScope s_l_deep) .none kV14 dc14 pm14 an14 cd14 ct14), sl14⟩)
    (c_l_deep : PySem.W.codeIn K cd14 "_law_deep" = true)
    (k_l_deep : PySem.W.keepIn K (.ref f_l_deep) = true)
    (a_l_odd : PySem.W.nsIn K mainGlobals "_law_odd" = some (some (.ref f_l_odd)))
    (l_l_odd : K.lookup f_l_odd = some ⟨oc15, od15, .func (PySem.W.fnOf "_law_odd" "_law_odd" (defArgs s_l_odd) (defBody s_l_odd) (defScope s_l_odd) .none kV15 dc15 pm15 an15 cd15 ct15), sl15⟩)
    (c_l_odd : PySem.W.codeIn K cd15 "_law_odd" = true)
    (k_l_odd : PySem.W.keepIn K (.ref f_l_odd) = true)
    (a_l_changed : PySem.W.nsIn K mainGlobals "_law_changed" = some (some (.ref f_l_changed)))
    (l_l_changed : K.lookup f_l_changed = some ⟨oc16, od16, .func (PySem.W.fnOf "_law_changed" "_law_changed" (defArgs s_l_changed) (defBody s_l_changed) (defScope s_l_changed) .none kV16 dc16 pm16 an16 cd16 ct16), sl16⟩)
    (c_l_changed : PySem.W.codeIn K cd16 "_law_changed" = true)
    (k_l_changed : PySem.W.keepIn K (.ref f_l_changed) = true)
    (a_l_is_some : PySem.W.nsIn K mainGlobals "_law_is_some" = some (some (.ref f_l_is_some)))
    (l_l_is_some : K.lookup f_l_is_some = some ⟨oc17, od17, .func (PySem.W.fnOf "_law_is_some" "_law_is_some" (defArgs s_l_is_some) (defBody s_l_is_some) (defScope s_l_is_some) .none kV17 dc17 pm17 an17 cd17 ct17), sl17⟩)
    (c_l_is_some : PySem.W.codeIn K cd17 "_law_is_some" = true)
    (k_l_is_some : PySem.W.keepIn K (.ref f_l_is_some) = true)
    (a_l_is_ware : PySem.W.nsIn K mainGlobals "_law_is_ware" = some (some (.ref f_l_is_ware)))
    (l_l_is_ware : K.lookup f_l_is_ware = some ⟨oc18, od18, .func (PySem.W.fnOf "_law_is_ware" "_law_is_ware" (defArgs s_l_is_ware) (defBody s_l_is_ware) (defScope s_l_is_ware) .none kV18 dc18 pm18 an18 cd18 ct18), sl18⟩)
    (c_l_is_ware : PySem.W.codeIn K cd18 "_law_is_ware" = true)
    (k_l_is_ware : PySem.W.keepIn K (.ref f_l_is_ware) = true)
    (a_l_is_stall : PySem.W.nsIn K mainGlobals "_law_is_stall" = some (some (.ref f_l_is_stall)))
    (l_l_is_stall : K.lookup f_l_is_stall = some ⟨oc19, od19, .func (PySem.W.fnOf "_law_is_stall" "_law_is_stall" (defArgs s_l_is_stall) (defBody s_l_is_stall) (defScope s_l_is_stall) .none kV19 dc19 pm19 an19 cd19 ct19), sl19⟩)
    (c_l_is_stall : PySem.W.codeIn K cd19 "_law_is_stall" = true)
    (k_l_is_stall : PySem.W.keepIn K (.ref f_l_is_stall) = true)
    (a_l_due : PySem.W.nsIn K mainGlobals "_law_due" = some (some (.ref f_l_due)))
    (l_l_due : K.lookup f_l_due = some ⟨oc20, od20, .func (PySem.W.fnOf "_law_due" "_law_due" (defArgs s_l_due) (defBody s_l_due) (defScope s_l_due) .none kV20 dc20 pm20 an20 cd20 ct20), sl20⟩)
    (c_l_due : PySem.W.codeIn K cd20 "_law_due" = true)
    (k_l_due : PySem.W.keepIn K (.ref f_l_due) = true)
    (a_l_answer : PySem.W.nsIn K mainGlobals "_law_answer" = some (some (.ref f_l_answer)))
    (l_l_answer : K.lookup f_l_answer = some ⟨oc21, od21, .func (PySem.W.fnOf "_law_answer" "_law_answer" (defArgs s_l_answer) (defBody s_l_answer) (defScope s_l_answer) .none kV21 dc21 pm21 an21 cd21 ct21), sl21⟩)
    (c_l_answer : PySem.W.codeIn K cd21 "_law_answer" = true)
    (k_l_answer : PySem.W.keepIn K (.ref f_l_answer) = true)
    (a_l_is_told : PySem.W.nsIn K mainGlobals "_law_is_told" = some (some (.ref f_l_is_told)))
    (l_l_is_told : K.lookup f_l_is_told = some ⟨oc22, od22, .func (PySem.W.fnOf "_law_is_told" "_law_is_told" (defArgs s_l_is_told) (defBody s_l_is_told) (defScope s_l_is_told) .none kV22 dc22 pm22 an22 cd22 ct22), sl22⟩)
    (c_l_is_told : PySem.W.codeIn K cd22 "_law_is_told" = true)
    (k_l_is_told : PySem.W.keepIn K (.ref f_l_is_told) = true)
    (a_law : PySem.W.nsIn K mainGlobals "law" = some (some (.ref f_law)))
    (l_law : K.lookup f_law = some ⟨oc23, od23, .func (PySem.W.fnOf "law" "law" (defArgs s_law) (defBody s_law) (defScope s_law) .none kV23 dc23 pm23 an23 cd23 ct23), sl23⟩)
    (c_law : PySem.W.codeIn K cd23 "law" = true)
    (k_law : PySem.W.keepIn K (.ref f_law) = true)
    (l_BadStall_init : K.lookup f_BadStall_init = some ⟨oc24, od24, .func (PySem.W.fnOf "__init__" "BadStall.__init__" (defArgs s_BadStall_init) (defBody s_BadStall_init) (defScope s_BadStall_init) .none kV24 dc24 pm24 an24 cd24 ct24), sl24⟩)
    (c_BadStall_init : PySem.W.codeIn K cd24 "BadStall.__init__" = true)
    (k_BadStall_init : PySem.W.keepIn K (.ref f_BadStall_init) = true)
    (l_Web_init : K.lookup f_Web_init = some ⟨oc25, od25, .func (PySem.W.fnOf "__init__" "Web.__init__" (defArgs s_Web_init) (defBody s_Web_init) (defScope s_Web_init) .none kV25 dc25 pm25 an25 cd25 ct25), sl25⟩)
    (c_Web_init : PySem.W.codeIn K cd25 "Web.__init__" = true)
    (k_Web_init : PySem.W.keepIn K (.ref f_Web_init) = true)
    (mi_Web_eq : PySem.W.findIn K (.ref c_Web) "__eq__" = some (some (.ref f_Web_eq)))
    (l_Web_eq : K.lookup f_Web_eq = some ⟨oc26, od26, .func (PySem.W.fnOf "__eq__" "Web.__eq__" (defArgs s_Web_eq) (defBody s_Web_eq) (defScope s_Web_eq) .none kV26 dc26 pm26 an26 cd26 ct26), sl26⟩)
    (c_Web_eq : PySem.W.codeIn K cd26 "Web.__eq__" = true)
    (k_Web_eq : PySem.W.keepIn K (.ref f_Web_eq) = true)
    (mf_Web_eq : PySem.W.isFn K (.ref f_Web_eq) = true)
    (mn_Web : PySem.W.findIn K (.ref c_Web) "__ne__" = some (some (.builtin "object.__ne__")))
    : ∃ fd : FuncData, (∀ (s : Shared) (v : Value), BindsTo s fd ⟨[v], []⟩ [("_law_script", v)]) ∧ ∀ base : Heap, K.In base → base.Ns mainGlobals mg → FnOk l.prog w K mg base CX0 9 fa fd ["_law_script"] (sp_law K) := by
  have e := hfa.symm.trans (PySem.W.mg_of X G a_law)
  cases e
  have T : Txt K mg f_is_integer f_is_row f_is_fraction f_is_some f_multiplied f_squared f_is_stall f_l_deck f_l_pick f_l_divisor f_l_made f_l_amount f_l_stall f_l_stalls f_l_deep f_l_odd f_l_changed f_l_is_some f_l_is_ware f_l_is_stall f_l_due f_l_answer f_l_is_told fa f_BadStall_init f_Web_init f_Web_eq c_BadWares c_BadStall c_Web _ _ _ _ _ _ _ _ _ _ _ _ _ _ _ _ _ _ _ _ _ _ _ _ _ _ _ := {
    z_abs := PySem.W.mg_none_of X G z_abs
    z_bool := PySem.W.mg_none_of X G z_bool
    z_enumerate := PySem.W.mg_none_of X G z_enumerate
    z_int := PySem.W.mg_none_of X G z_int
    z_isinstance := PySem.W.mg_none_of X G z_isinstance
    z_len := PySem.W.mg_none_of X G z_len
    z_list := PySem.W.mg_none_of X G z_list
    z_range := PySem.W.mg_none_of X G z_range
    z_tuple := PySem.W.mg_none_of X G z_tuple
    m_gcd := PySem.W.mg_of X G m_gcd
    c_BadWares := ⟨PySem.W.mg_of X G a_BadWares, ex_BadWares, kp_BadWares, be_BadWares, ty_BadWares, ic_BadWares, sf_BadWares⟩
    c_BadStall := ⟨PySem.W.mg_of X G a_BadStall, ⟨⟨_, _, _, _, _, _, _, _, _, _, _, _, _, _, _, ob_BadStall, rv_BadStall⟩, sa_BadStall, be_BadStall, ty_BadStall, kp_BadStall⟩, in_BadStall, ti_BadStall, no_BadStall, ⟨ga_BadStall, gg_BadStall, be_BadStall, hd_BadStall⟩, ic_BadStall, sf_BadStall⟩
    w_Web := ⟨PySem.W.mg_of X G a_Web, ⟨mk_Web, in_Web, fn_Web, kp_Web⟩, ⟨⟨pg_Web, hd_Web, po_Web, sa_Web⟩, ha_Web, hn_Web, ht_Web, mo_Web, i_int_Web, i_bool_Web, i_tuple_Web, i_list_Web⟩⟩
    n_Web_wares := na_Web_wares
    n_Web_stalls := na_Web_stalls
    x_BadStall_BadWares := x_BadStall_BadWares
    v_MOST_STALLS := ⟨_, PySem.W.mg_of X G v_MOST_STALLS, ⟨_, rfl⟩⟩
    v_MOST_WARES := ⟨_, PySem.W.mg_of X G v_MOST_WARES, ⟨_, rfl⟩⟩
    g_is_integer := PySem.W.mg_of X G a_is_integer
    F_is_integer := fun_mk (st := s_is_integer) l_is_integer c_is_integer k_is_integer
    k_is_integer := k_is_integer
    b_is_integer := (fun_mk (st := s_is_integer) l_is_integer c_is_integer k_is_integer).binds (ps := ["thing"]) fun _ _ _ _ _ _ us hl => match us, hl with | [_], _ => rfl
    g_is_row := PySem.W.mg_of X G a_is_row
    F_is_row := fun_mk (st := s_is_row) l_is_row c_is_row k_is_row
    k_is_row := k_is_row
    b_is_row := (fun_mk (st := s_is_row) l_is_row c_is_row k_is_row).binds (ps := ["thing"]) fun _ _ _ _ _ _ us hl => match us, hl with | [_], _ => rfl
    g_is_fraction := PySem.W.mg_of X G a_is_fraction
    F_is_fraction := fun_mk (st := s_is_fraction) l_is_fraction c_is_fraction k_is_fraction
    k_is_fraction := k_is_fraction
    b_is_fraction := (fun_mk (st := s_is_fraction) l_is_fraction c_is_fraction k_is_fraction).binds (ps := ["thing"]) fun _ _ _ _ _ _ us hl => match us, hl with | [_], _ => rfl
    g_is_some := PySem.W.mg_of X G a_is_some
    F_is_some := fun_mk (st := s_is_some) l_is_some c_is_some k_is_some
    k_is_some := k_is_some
    b_is_some := (fun_mk (st := s_is_some) l_is_some c_is_some k_is_some).binds (ps := ["thing"]) fun _ _ _ _ _ _ us hl => match us, hl with | [_], _ => rfl
    g_multiplied := PySem.W.mg_of X G a_multiplied
    F_multiplied := fun_mk (st := s_multiplied) l_multiplied c_multiplied k_multiplied
    k_multiplied := k_multiplied
    b_multiplied := (fun_mk (st := s_multiplied) l_multiplied c_multiplied k_multiplied).binds (ps := ["one", "other"]) fun _ _ _ _ _ _ us hl => match us, hl with | [_, _], _ => rfl
    g_squared := PySem.W.mg_of X G a_squared
    F_squared := fun_mk (st := s_squared) l_squared c_squared k_squared
    k_squared := k_squared
    b_squared := (fun_mk (st := s_squared) l_squared c_squared k_squared).binds (ps := ["one"]) fun _ _ _ _ _ _ us hl => match us, hl with | [_], _ => rfl
    g_is_stall := PySem.W.mg_of X G a_is_stall
    F_is_stall := fun_mk (st := s_is_stall) l_is_stall c_is_stall k_is_stall
    k_is_stall := k_is_stall
    b_is_stall := (fun_mk (st := s_is_stall) l_is_stall c_is_stall k_is_stall).binds (ps := ["wares", "thing"]) fun _ _ _ _ _ _ us hl => match us, hl with | [_, _], _ => rfl
    g_l_deck := PySem.W.mg_of X G a_l_deck
    F_l_deck := fun_mk (st := s_l_deck) l_l_deck c_l_deck k_l_deck
    k_l_deck := k_l_deck
    b_l_deck := (fun_mk (st := s_l_deck) l_l_deck c_l_deck k_l_deck).binds (ps := ["_law_script"]) fun _ _ _ _ _ _ us hl => match us, hl with | [_], _ => rfl
    g_l_pick := PySem.W.mg_of X G a_l_pick
    F_l_pick := fun_mk (st := s_l_pick) l_l_pick c_l_pick k_l_pick
    k_l_pick := k_l_pick
    b_l_pick := (fun_mk (st := s_l_pick) l_l_pick c_l_pick k_l_pick).binds (ps := ["_law_deck_here", "_law_many"]) fun _ _ _ _ _ _ us hl => match us, hl with | [_, _], _ => rfl
    g_l_divisor := PySem.W.mg_of X G a_l_divisor
    F_l_divisor := fun_mk (st := s_l_divisor) l_l_divisor c_l_divisor k_l_divisor
    k_l_divisor := k_l_divisor
    b_l_divisor := (fun_mk (st := s_l_divisor) l_l_divisor c_l_divisor k_l_divisor).binds (ps := ["_law_one", "_law_other"]) fun _ _ _ _ _ _ us hl => match us, hl with | [_, _], _ => rfl
    g_l_made := PySem.W.mg_of X G a_l_made
    F_l_made := fun_mk (st := s_l_made) l_l_made c_l_made k_l_made
    k_l_made := k_l_made
    b_l_made := (fun_mk (st := s_l_made) l_l_made c_l_made k_l_made).binds (ps := ["_law_top", "_law_bottom"]) fun _ _ _ _ _ _ us hl => match us, hl with | [_, _], _ => rfl
    g_l_amount := PySem.W.mg_of X G a_l_amount
    F_l_amount := fun_mk (st := s_l_amount) l_l_amount c_l_amount k_l_amount
    k_l_amount := k_l_amount
    b_l_amount := (fun_mk (st := s_l_amount) l_l_amount c_l_amount k_l_amount).binds (ps := ["_law_deck_here"]) fun _ _ _ _ _ _ us hl => match us, hl with | [_], _ => rfl
    g_l_stall := PySem.W.mg_of X G a_l_stall
    F_l_stall := fun_mk (st := s_l_stall) l_l_stall c_l_stall k_l_stall
    k_l_stall := k_l_stall
    b_l_stall := (fun_mk (st := s_l_stall) l_l_stall c_l_stall k_l_stall).binds (ps := ["_law_deck_here", "_law_wares"]) fun _ _ _ _ _ _ us hl => match us, hl with | [_, _], _ => rfl
    g_l_stalls := PySem.W.mg_of X G a_l_stalls
    F_l_stalls := fun_mk (st := s_l_stalls) l_l_stalls c_l_stalls k_l_stalls
    k_l_stalls := k_l_stalls
    b_l_stalls := (fun_mk (st := s_l_stalls) l_l_stalls c_l_stalls k_l_stalls).binds (ps := ["_law_deck_here", "_law_wares"]) fun _ _ _ _ _ _ us hl => match us, hl with | [_, _], _ => rfl
    g_l_deep := PySem.W.mg_of X G a_l_deep
    F_l_deep := fun_mk (st := s_l_deep) l_l_deep c_l_deep k_l_deep
    k_l_deep := k_l_deep
    b_l_deep := (fun_mk (st := s_l_deep) l_l_deep c_l_deep k_l_deep).binds (ps := ["_law_deck_here"]) fun _ _ _ _ _ _ us hl => match us, hl with | [_], _ => rfl
    g_l_odd := PySem.W.mg_of X G a_l_odd
    F_l_odd := fun_mk (st := s_l_odd) l_l_odd c_l_odd k_l_odd
    k_l_odd := k_l_odd
    b_l_odd := (fun_mk (st := s_l_odd) l_l_odd c_l_odd k_l_odd).binds (ps := ["_law_deck_here", "_law_wares"]) fun _ _ _ _ _ _ us hl => match us, hl with | [_, _], _ => rfl
    g_l_changed := PySem.W.mg_of X G a_l_changed
    F_l_changed := fun_mk (st := s_l_changed) l_l_changed c_l_changed k_l_changed
    k_l_changed := k_l_changed
    b_l_changed := (fun_mk (st := s_l_changed) l_l_changed c_l_changed k_l_changed).binds (ps := ["_law_deck_here", "_law_stalls_here", "_law_wares"]) fun _ _ _ _ _ _ us hl => match us, hl with | [_, _, _], _ => rfl
    g_l_is_some := PySem.W.mg_of X G a_l_is_some
    F_l_is_some := fun_mk (st := s_l_is_some) l_l_is_some c_l_is_some k_l_is_some
    k_l_is_some := k_l_is_some
    b_l_is_some := (fun_mk (st := s_l_is_some) l_l_is_some c_l_is_some k_l_is_some).binds (ps := ["_law_thing"]) fun _ _ _ _ _ _ us hl => match us, hl with | [_], _ => rfl
    g_l_is_ware := PySem.W.mg_of X G a_l_is_ware
    F_l_is_ware := fun_mk (st := s_l_is_ware) l_l_is_ware c_l_is_ware k_l_is_ware
    k_l_is_ware := k_l_is_ware
    b_l_is_ware := (fun_mk (st := s_l_is_ware) l_l_is_ware c_l_is_ware k_l_is_ware).binds (ps := ["_law_thing", "_law_wares"]) fun _ _ _ _ _ _ us hl => match us, hl with | [_, _], _ => rfl
    g_l_is_stall := PySem.W.mg_of X G a_l_is_stall
    F_l_is_stall := fun_mk (st := s_l_is_stall) l_l_is_stall c_l_is_stall k_l_is_stall
    k_l_is_stall := k_l_is_stall
    b_l_is_stall := (fun_mk (st := s_l_is_stall) l_l_is_stall c_l_is_stall k_l_is_stall).binds (ps := ["_law_thing", "_law_wares"]) fun _ _ _ _ _ _ us hl => match us, hl with | [_, _], _ => rfl
    g_l_due := PySem.W.mg_of X G a_l_due
    F_l_due := fun_mk (st := s_l_due) l_l_due c_l_due k_l_due
    k_l_due := k_l_due
    b_l_due := (fun_mk (st := s_l_due) l_l_due c_l_due k_l_due).binds (ps := ["_law_wares", "_law_stalls_here"]) fun _ _ _ _ _ _ us hl => match us, hl with | [_, _], _ => rfl
    g_l_answer := PySem.W.mg_of X G a_l_answer
    F_l_answer := fun_mk (st := s_l_answer) l_l_answer c_l_answer k_l_answer
    k_l_answer := k_l_answer
    b_l_answer := (fun_mk (st := s_l_answer) l_l_answer c_l_answer k_l_answer).binds (ps := ["_law_wares", "_law_stalls_here"]) fun _ _ _ _ _ _ us hl => match us, hl with | [_, _], _ => rfl
    g_l_is_told := PySem.W.mg_of X G a_l_is_told
    F_l_is_told := fun_mk (st := s_l_is_told) l_l_is_told c_l_is_told k_l_is_told
    k_l_is_told := k_l_is_told
    b_l_is_told := (fun_mk (st := s_l_is_told) l_l_is_told c_l_is_told k_l_is_told).binds (ps := ["_law_wares", "_law_stalls_here"]) fun _ _ _ _ _ _ us hl => match us, hl with | [_, _], _ => rfl
    g_law := PySem.W.mg_of X G a_law
    F_law := fun_mk (st := s_law) l_law c_law k_law
    k_law := k_law
    b_law := (fun_mk (st := s_law) l_law c_law k_law).binds (ps := ["_law_script"]) fun _ _ _ _ _ _ us hl => match us, hl with | [_], _ => rfl
    F_BadStall_init := fun_mk (st := s_BadStall_init) l_BadStall_init c_BadStall_init k_BadStall_init
    b_BadStall_init := (fun_mk (st := s_BadStall_init) l_BadStall_init c_BadStall_init k_BadStall_init).binds (ps := ["self", "index"]) fun _ _ _ _ _ _ us hl => match us, hl with | [_, _], _ => rfl
    F_Web_init := fun_mk (st := s_Web_init) l_Web_init c_Web_init k_Web_init
    b_Web_init := (fun_mk (st := s_Web_init) l_Web_init c_Web_init k_Web_init).binds (ps := ["self", "wares", "stalls"]) fun _ _ _ _ _ _ us hl => match us, hl with | [_, _, _], _ => rfl
    i_Web_eq := mi_Web_eq
    fn_Web_eq := mf_Web_eq
    ne_Web := mn_Web
    F_Web_eq := fun_mk (st := s_Web_eq) l_Web_eq c_Web_eq k_Web_eq
    b_Web_eq := (fun_mk (st := s_Web_eq) l_Web_eq c_Web_eq k_Web_eq).binds (ps := ["self", "other"]) fun _ _ _ _ _ _ us hl => match us, hl with | [_, _], _ => rfl
  }
  exact ⟨_, fun s v => .of_eq rfl, fun base _ _ => ok_all T⟩
end My
open PySem PySem.W PyProof.Rows
set_option maxRecDepth 100000 in
set_option maxHeartbeats 0 in
theorem PySem.Challenge.cw_rootstalls_k05_webs_judged_holds : PySem.Challenge.rw_rootstalls_k05_webs_judged.Holds := by
  w_on; o_law; k_head; (case hw => w_witness2)
  k_fill
  refine L2.walk_ofB (l := PySem.Challenge.rw_rootstalls_k05_webs_judged) (n := 63) (k := 9) (x := "_law_script") (CX := fun _ => L2.CX0) (sp := fun w => My.sp_law _) rfl (by decide) rfl ⟨rfl, by decide, by decide⟩ (fun w h Y => PySem.W.kIn_of Y) ?F (fun _ _ a ns hl hb _ hS => ⟨a, ns, rfl, hS, hl, hb, fun _ => rfl⟩) (fun _ _ _ _ _ h => h)
  case F =>
    intro w mg fa h KX G hmg
    refine' My.all_mk KX G hmg ?z_abs ?z_bool ?z_enumerate ?z_int ?z_isinstance ?z_len ?z_list ?z_range ?z_tuple ?m_gcd ?a_BadWares ?ex_BadWares ?kp_BadWares ?be_BadWares ?ty_BadWares ?ic_BadWares ?sf_BadWares ?a_BadStall ?ob_BadStall ?rv_BadStall ?sa_BadStall ?ga_BadStall ?gg_BadStall ?no_BadStall ?in_BadStall ?ti_BadStall ?be_BadStall ?ty_BadStall ?kp_BadStall ?hd_BadStall ?ic_BadStall ?sf_BadStall ?a_Web ?mk_Web ?in_Web ?fn_Web ?kp_Web ?pg_Web ?hd_Web ?po_Web ?sa_Web ?ha_Web ?hn_Web ?ht_Web ?mo_Web ?i_int_Web ?i_bool_Web ?i_tuple_Web ?i_list_Web ?na_Web_wares ?na_Web_stalls ?x_BadStall_BadWares ?v_MOST_STALLS ?v_MOST_WARES ?a_is_integer ?l_is_integer ?c_is_integer ?k_is_integer ?a_is_row ?l_is_row ?c_is_row ?k_is_row ?a_is_fraction ?l_is_fraction ?c_is_fraction ?k_is_fraction ?a_is_some ?l_is_some ?c_is_some ?k_is_some ?a_multiplied ?l_multiplied ?c_multiplied ?k_multiplied ?a_squared ?l_squared ?c_squared ?k_squared ?a_is_stall ?l_is_stall ?c_is_stall ?k_is_stall ?a_l_deck ?l_l_deck ?c_l_deck ?k_l_deck ?a_l_pick ?l_l_pick ?c_l_pick ?k_l_pick ?a_l_divisor ?l_l_divisor ?c_l_divisor ?k_l_divisor ?a_l_made ?l_l_made ?c_l_made ?k_l_made ?a_l_amount ?l_l_amount ?c_l_amount ?k_l_amount ?a_l_stall ?l_l_stall ?c_l_stall ?k_l_stall ?a_l_stalls ?l_l_stalls ?c_l_stalls ?k_l_stalls ?a_l_deep ?l_l_deep ?c_l_deep ?k_l_deep ?a_l_odd ?l_l_odd ?c_l_odd ?k_l_odd ?a_l_changed ?l_l_changed ?c_l_changed ?k_l_changed ?a_l_is_some ?l_l_is_some ?c_l_is_some ?k_l_is_some ?a_l_is_ware ?l_l_is_ware ?c_l_is_ware ?k_l_is_ware ?a_l_is_stall ?l_l_is_stall ?c_l_is_stall ?k_l_is_stall ?a_l_due ?l_l_due ?c_l_due ?k_l_due ?a_l_answer ?l_l_answer ?c_l_answer ?k_l_answer ?a_l_is_told ?l_l_is_told ?c_l_is_told ?k_l_is_told ?a_law ?l_law ?c_law ?k_law ?l_BadStall_init ?c_BadStall_init ?k_BadStall_init ?l_Web_init ?c_Web_init ?k_Web_init ?mi_Web_eq ?l_Web_eq ?c_Web_eq ?k_Web_eq ?mf_Web_eq ?mn_Web
    (case z_abs => k_is)
    (case z_bool => k_is)
    (case z_enumerate => k_is)
    (case z_int => k_is)
    (case z_isinstance => k_is)
    (case z_len => k_is)
    (case z_list => k_is)
    (case z_range => k_is)
    (case z_tuple => k_is)
    (case m_gcd => k_is)
    (case a_BadWares => k_is)
    (case ex_BadWares => first | k_exc | k_is)
    (case kp_BadWares => k_is)
    (case be_BadWares => k_is)
    (case ty_BadWares => k_is)
    (case ic_BadWares => k_is)
    (case sf_BadWares => first | rfl | k_is)
    (case a_BadStall => k_is)
    (case ob_BadStall => k_is)
    (case rv_BadStall => first | rfl | k_is | decide +kernel)
    (case sa_BadStall => k_is)
    (case ga_BadStall => k_is)
    (case gg_BadStall => k_is)
    (case no_BadStall => k_is)
    (case in_BadStall => k_is)
    (case ti_BadStall => k_is)
    (case be_BadStall => k_is)
    (case ty_BadStall => k_is)
    (case kp_BadStall => k_is)
    (case hd_BadStall => k_is)
    (case ic_BadStall => k_is)
    (case sf_BadStall => first | rfl | k_is)
    (case a_Web => k_is)
    (case mk_Web => k_is)
    (case in_Web => k_is)
    (case fn_Web => k_is)
    (case kp_Web => k_is)
    (case pg_Web => k_is)
    (case hd_Web => k_is)
    (case po_Web => k_is)
    (case sa_Web => k_is)
    (case ha_Web => k_is)
    (case hn_Web => k_is)
    (case ht_Web => k_is)
    (case mo_Web => k_is)
    (case i_int_Web => first | rfl | k_is | decide +kernel)
    (case i_bool_Web => first | rfl | k_is | decide +kernel)
    (case i_tuple_Web => first | rfl | k_is | decide +kernel)
    (case i_list_Web => first | rfl | k_is | decide +kernel)
    (case na_Web_wares => k_is)
    (case na_Web_stalls => k_is)
    (case x_BadStall_BadWares => k_is)
    (case v_MOST_STALLS => k_is)
    (case v_MOST_WARES => k_is)
    (case a_is_integer => k_is)
    (case l_is_integer => k_is)
    (case c_is_integer => k_is)
    (case k_is_integer => k_is)
    (case a_is_row => k_is)
    (case l_is_row => k_is)
    (case c_is_row => k_is)
    (case k_is_row => k_is)
    (case a_is_fraction => k_is)
    (case l_is_fraction => k_is)
    (case c_is_fraction => k_is)
    (case k_is_fraction => k_is)
    (case a_is_some => k_is)
    (case l_is_some => k_is)
    (case c_is_some => k_is)
    (case k_is_some => k_is)
    (case a_multiplied => k_is)
    (case l_multiplied => k_is)
    (case c_multiplied => k_is)
    (case k_multiplied => k_is)
    (case a_squared => k_is)
    (case l_squared => k_is)
    (case c_squared => k_is)
    (case k_squared => k_is)
    (case a_is_stall => k_is)
    (case l_is_stall => k_is)
    (case c_is_stall => k_is)
    (case k_is_stall => k_is)
    (case a_l_deck => k_is)
    (case l_l_deck => k_is)
    (case c_l_deck => k_is)
    (case k_l_deck => k_is)
    (case a_l_pick => k_is)
    (case l_l_pick => k_is)
    (case c_l_pick => k_is)
    (case k_l_pick => k_is)
    (case a_l_divisor => k_is)
    (case l_l_divisor => k_is)
    (case c_l_divisor => k_is)
    (case k_l_divisor => k_is)
    (case a_l_made => k_is)
    (case l_l_made => k_is)
    (case c_l_made => k_is)
    (case k_l_made => k_is)
    (case a_l_amount => k_is)
    (case l_l_amount => k_is)
    (case c_l_amount => k_is)
    (case k_l_amount => k_is)
    (case a_l_stall => k_is)
    (case l_l_stall => k_is)
    (case c_l_stall => k_is)
    (case k_l_stall => k_is)
    (case a_l_stalls => k_is)
    (case l_l_stalls => k_is)
    (case c_l_stalls => k_is)
    (case k_l_stalls => k_is)
    (case a_l_deep => k_is)
    (case l_l_deep => k_is)
    (case c_l_deep => k_is)
    (case k_l_deep => k_is)
    (case a_l_odd => k_is)
    (case l_l_odd => k_is)
    (case c_l_odd => k_is)
    (case k_l_odd => k_is)
    (case a_l_changed => k_is)
    (case l_l_changed => k_is)
    (case c_l_changed => k_is)
    (case k_l_changed => k_is)
    (case a_l_is_some => k_is)
    (case l_l_is_some => k_is)
    (case c_l_is_some => k_is)
    (case k_l_is_some => k_is)
    (case a_l_is_ware => k_is)
    (case l_l_is_ware => k_is)
    (case c_l_is_ware => k_is)
    (case k_l_is_ware => k_is)
    (case a_l_is_stall => k_is)
    (case l_l_is_stall => k_is)
    (case c_l_is_stall => k_is)
    (case k_l_is_stall => k_is)
    (case a_l_due => k_is)
    (case l_l_due => k_is)
    (case c_l_due => k_is)
    (case k_l_due => k_is)
    (case a_l_answer => k_is)
    (case l_l_answer => k_is)
    (case c_l_answer => k_is)
    (case k_l_answer => k_is)
    (case a_l_is_told => k_is)
    (case l_l_is_told => k_is)
    (case c_l_is_told => k_is)
    (case k_l_is_told => k_is)
    (case a_law => k_is)
    (case l_law => k_is)
    (case c_law => k_is)
    (case k_law => k_is)
    (case l_BadStall_init => k_is)
    (case c_BadStall_init => k_is)
    (case k_BadStall_init => k_is)
    (case l_Web_init => k_is)
    (case c_Web_init => k_is)
    (case k_Web_init => k_is)
    (case mi_Web_eq => k_is)
    (case l_Web_eq => k_is)
    (case c_Web_eq => k_is)
    (case k_Web_eq => k_is)
    (case mf_Web_eq => k_is)
    (case mn_Web => k_is)
