import PyProof.Rows.All
import Wide.All
import OpenK.AllK
import Wide.FinOn
import HandS.ForMost
import HandS.WideBits
import HandS.Gcd
import HandS.IsInst
import HandS.Style
import HandS.SetFor
import HandS.EndBits
import HandS.Codes
import PySem.Challenge.RW_rootstalls_k02_whole_fractions_reckoned
set_option Elab.async false
set_option linter.all false
set_option maxRecDepth 100000
set_option maxHeartbeats 4000000
namespace My
/-! ### fractions in lowest terms are the rationals -/
theorem rat_of {n : Int} {d : Nat} {r : Rat} (hd : d ≠ 0) (hc : n.natAbs.Coprime d) (h : Rat.divInt n (d : Int) = r) : r.num = n ∧ r.den = d := by
  subst h
  rw [← Rat.mk_eq_divInt (nz := hd) (c := hc)]
  exact ⟨rfl, rfl⟩
theorem rat_cross {n d : Int} {r : Rat} (hd : d ≠ 0) : Rat.divInt n d = r ↔ n * r.den = r.num * d := by
  have h := Rat.num_divInt_den r
  have hz : (r.den : Int) ≠ 0 := by
    have := r.den_pos
    omega
  constructor
  · intro e
    rw [← h] at e
    exact (Rat.divInt_eq_divInt_iff hd hz).mp e
  · intro e
    rw [← h]
    exact (Rat.divInt_eq_divInt_iff hd hz).mpr e
theorem den_pos (r : Rat) : (0 : Int) < r.den := by
  have := r.den_pos
  omega
theorem gcd_den (r : Rat) : Nat.gcd r.num.natAbs r.den = 1 := r.reduced
/-- the sum -/
theorem add_form (r s : Rat) (g ad bd : Nat) (top : Int) (g1 : Nat) (hg : g = r.den.gcd s.den) (had : ad = r.den / g) (hbd : bd = s.den / g) (ht : top = r.num * bd + s.num * ad) (h1 : g1 = top.natAbs.gcd g) :
    (r + s).num = top / g1 ∧ (r + s).den = ad * (s.den / g1) := by
  have hd := r.den_pos
  have hs := s.den_pos
  have gpos : 0 < g := hg ▸ Nat.gcd_pos_of_pos_left _ hd
  have ae : ad * g = r.den := had ▸ Nat.div_mul_cancel (hg ▸ Nat.gcd_dvd_left ..)
  have be : bd * g = s.den := hbd ▸ Nat.div_mul_cancel (hg ▸ Nat.gcd_dvd_right ..)
  have adpos : 0 < ad := by
    rcases Nat.eq_zero_or_pos ad with e | e
    · rw [e] at ae
      omega
    · exact e
  have aux : top.natAbs.gcd g = top.natAbs.gcd (ad * s.den) := by
    rw [ht]
    exact Rat.add.aux r s hg had hbd
  have g1pos : 0 < g1 := h1 ▸ Nat.gcd_pos_of_pos_right _ gpos
  have d1 : g1 ∣ top.natAbs := h1 ▸ Nat.gcd_dvd_left ..
  have d2 : g1 ∣ g := h1 ▸ Nat.gcd_dvd_right ..
  have d3 : g1 ∣ s.den := Nat.dvd_trans d2 ⟨bd, by rw [← be, Nat.mul_comm]⟩
  have e1 : ad * (s.den / g1) = ad * s.den / g1 := (Nat.mul_div_assoc ad d3).symm
  have d4 : g1 ∣ ad * s.den := Nat.dvd_trans d3 (Nat.dvd_mul_left ..)
  rw [e1]
  have tz : (g1 : Int) ∣ top := Int.ofNat_dvd_left.mpr d1
  have tm : top / g1 * g1 = top := Int.ediv_mul_cancel tz
  have dm : ad * s.den / g1 * g1 = ad * s.den := Nat.div_mul_cancel d4
  have nz : ad * s.den / g1 ≠ 0 := by
    intro e
    rw [e] at dm
    have : 0 < ad * s.den := Nat.mul_pos adpos hs
    omega
  refine rat_of nz ?_ ?_
  · have na : (top / (g1 : Int)).natAbs = top.natAbs / g1 := by
      rw [Int.natAbs_ediv_of_dvd tz, Int.natAbs_natCast]
    rw [na, h1, aux]
    exact Nat.coprime_div_gcd_div_gcd (Nat.gcd_pos_of_pos_right _ (Nat.mul_pos adpos hs))
  · have z1 : (g1 : Int) ≠ 0 := by omega
    have z2 : (g : Int) ≠ 0 := by omega
    rw [← Rat.divInt_mul_right z1, tm, ← Int.natCast_mul, dm, ← Rat.divInt_mul_right z2]
    have er := Rat.num_divInt_den r
    have es := Rat.num_divInt_den s
    have rz : (r.den : Int) ≠ 0 := by omega
    have sz : (s.den : Int) ≠ 0 := by omega
    have key := Rat.divInt_add_divInt r.num s.num rz sz
    rw [er, es] at key
    rw [key]
    have k1 : top * g = r.num * s.den + s.num * r.den := by
      rw [ht, ← be, ← ae, Int.natCast_mul, Int.natCast_mul, Int.add_mul, Int.mul_assoc, Int.mul_assoc]
    have k2 : ((ad * s.den : Nat) : Int) * (g : Int) = r.den * s.den := by
      rw [← ae, Int.natCast_mul, Int.natCast_mul, Int.mul_assoc, Int.mul_comm (s.den : Int), ← Int.mul_assoc]
    rw [k1, k2]
/-- the product -/
theorem mul_form (r s : Rat) (g1 g2 : Nat) (h1 : g1 = r.num.natAbs.gcd s.den) (h2 : g2 = s.num.natAbs.gcd r.den) :
    (r * s).num = r.num / g1 * (s.num / g2) ∧ (r * s).den = r.den / g2 * (s.den / g1) := by
  subst h1 h2
  have e : r * s = Rat.mul r s := rfl
  rw [e]
  unfold Rat.mul
  refine ⟨?_, ?_⟩
  · show r.num.divExact _ _ * s.num.divExact _ _ = _
    rw [Int.divExact_eq_tdiv, Int.divExact_eq_tdiv, Int.tdiv_eq_ediv_of_dvd, Int.tdiv_eq_ediv_of_dvd]
    · exact Int.ofNat_dvd_left.mpr (Nat.gcd_dvd_left ..)
    · exact Int.ofNat_dvd_left.mpr (Nat.gcd_dvd_left ..)
  · show r.den.divExact _ _ * s.den.divExact _ _ = _
    rw [Nat.divExact_eq_div, Nat.divExact_eq_div]
/-- lowest terms of any pair -/
theorem low_form (n d : Int) (hd : d ≠ 0) : (Rat.divInt n d).num = (if d < 0 then n / (-(n.natAbs.gcd d.natAbs : Nat) : Int) else n / (n.natAbs.gcd d.natAbs : Nat)) ∧
    ((Rat.divInt n d).den : Int) = (if d < 0 then d / (-(n.natAbs.gcd d.natAbs : Nat) : Int) else d / (n.natAbs.gcd d.natAbs : Nat)) := by
  have pos : ∀ (n d : Int), 0 < d → (Rat.divInt n d).num = n / (n.natAbs.gcd d.natAbs : Nat) ∧ ((Rat.divInt n d).den : Int) = d / (n.natAbs.gcd d.natAbs : Nat) := by
    intro n d h
    have gp : 0 < n.natAbs.gcd d.natAbs := Nat.gcd_pos_of_pos_right _ (by omega)
    have z1 : ((n.natAbs.gcd d.natAbs : Nat) : Int) ≠ 0 := by omega
    have dn : ((n.natAbs.gcd d.natAbs : Nat) : Int) ∣ n := Int.ofNat_dvd_left.mpr (Nat.gcd_dvd_left ..)
    have dd : ((n.natAbs.gcd d.natAbs : Nat) : Int) ∣ d := Int.ofNat_dvd_left.mpr (Nat.gcd_dvd_right ..)
    have e : d / ((n.natAbs.gcd d.natAbs : Nat) : Int) = ((d.natAbs / n.natAbs.gcd d.natAbs : Nat) : Int) := by
      rw [Int.natCast_ediv]
      congr 1
      omega
    have dpos : d.natAbs / n.natAbs.gcd d.natAbs ≠ 0 := Nat.ne_of_gt (Nat.div_pos (Nat.le_of_dvd (by omega) (Nat.gcd_dvd_right ..)) gp)
    have key := rat_of (n := n / ((n.natAbs.gcd d.natAbs : Nat) : Int)) (d := d.natAbs / n.natAbs.gcd d.natAbs) (r := Rat.divInt n d) dpos
      (by
        rw [Int.natAbs_ediv_of_dvd dn, Int.natAbs_natCast]
        exact Nat.coprime_div_gcd_div_gcd gp)
      (by rw [← e, ← Rat.divInt_mul_right z1, Int.ediv_mul_cancel dn, Int.ediv_mul_cancel dd])
    exact ⟨key.1, by rw [key.2, e]⟩
  rcases Int.lt_or_gt_of_ne hd with h | h
  · rw [if_pos h, if_pos h, ← Rat.neg_divInt_neg]
    have k := pos (-n) (-d) (by omega)
    rw [Int.natAbs_neg, Int.natAbs_neg] at k
    rw [k.1, k.2]
    have dn : ((n.natAbs.gcd d.natAbs : Nat) : Int) ∣ n := Int.ofNat_dvd_left.mpr (Nat.gcd_dvd_left ..)
    have dd : ((n.natAbs.gcd d.natAbs : Nat) : Int) ∣ d := Int.ofNat_dvd_left.mpr (Nat.gcd_dvd_right ..)
    rw [Int.neg_ediv_of_dvd dn, Int.neg_ediv_of_dvd dd, Int.ediv_neg, Int.ediv_neg]
    exact ⟨rfl, rfl⟩
  · have k := pos n d h
    rw [if_neg (by omega), if_neg (by omega)]
    exact k
theorem low_self (r : Rat) : Rat.divInt r.num r.den = r := Rat.num_divInt_den r
/-! ### sizes -/
def Bd (k : Nat) (r : Rat) : Prop := r.num.natAbs < 2 ^ k ∧ r.den < 2 ^ k
theorem Bd.mono {k l : Nat} {r : Rat} (h : Bd k r) (hl : k ≤ l) : Bd l r := ⟨Nat.lt_of_lt_of_le h.1 (Nat.pow_le_pow_right (by decide) hl), Nat.lt_of_lt_of_le h.2 (Nat.pow_le_pow_right (by decide) hl)⟩
theorem nat_mul_lt {a b k l : Nat} (ha : a < 2 ^ k) (hb : b < 2 ^ l) : a * b < 2 ^ (k + l) := by
  rw [Nat.pow_add]
  exact Nat.mul_lt_mul'' ha hb
theorem Bd.divInt {k : Nat} {n d : Int} (hd : d ≠ 0) (h1 : n.natAbs < 2 ^ k) (h2 : d.natAbs < 2 ^ k) : Bd k (Rat.divInt n d) := by
  obtain ⟨a, b⟩ := low_form n d hd
  have dn : ((n.natAbs.gcd d.natAbs : Nat) : Int) ∣ n := Int.ofNat_dvd_left.mpr (Nat.gcd_dvd_left ..)
  have dd : ((n.natAbs.gcd d.natAbs : Nat) : Int) ∣ d := Int.ofNat_dvd_left.mpr (Nat.gcd_dvd_right ..)
  have dp := (Rat.divInt n d).den_pos
  refine ⟨Nat.lt_of_le_of_lt ?_ h1, Nat.lt_of_le_of_lt ?_ h2⟩
  · rw [a]
    split
    · rw [Int.ediv_neg, Int.natAbs_neg, Int.natAbs_ediv_of_dvd dn]
      exact Nat.div_le_self _ _
    · rw [Int.natAbs_ediv_of_dvd dn]
      exact Nat.div_le_self _ _
  · have e : (Rat.divInt n d).den = ((Rat.divInt n d).den : Int).natAbs := (Int.natAbs_natCast _).symm
    rw [e, b]
    split
    · rw [Int.ediv_neg, Int.natAbs_neg, Int.natAbs_ediv_of_dvd dd]
      exact Nat.div_le_self _ _
    · rw [Int.natAbs_ediv_of_dvd dd]
      exact Nat.div_le_self _ _
theorem Bd.add {k l : Nat} {r s : Rat} (hr : Bd k r) (hs : Bd l s) : Bd (k + l + 1) (r + s) := by
  have rz : (r.den : Int) ≠ 0 := Int.ne_of_gt (den_pos r)
  have sz : (s.den : Int) ≠ 0 := Int.ne_of_gt (den_pos s)
  have key := Rat.divInt_add_divInt r.num s.num rz sz
  rw [low_self, low_self] at key
  rw [key]
  have a := nat_mul_lt hr.1 hs.2
  have b := nat_mul_lt hs.1 hr.2
  have c := nat_mul_lt hr.2 hs.2
  rw [Nat.add_comm l k] at b
  refine Bd.divInt (Int.mul_ne_zero rz sz) ?_ ?_
  · have h1 : (r.num * (s.den : Int) + s.num * (r.den : Int)).natAbs ≤ (r.num * (s.den : Int)).natAbs + (s.num * (r.den : Int)).natAbs := Int.natAbs_add_le _ _
    rw [Int.natAbs_mul, Int.natAbs_mul, Int.natAbs_natCast, Int.natAbs_natCast] at h1
    rw [Nat.pow_succ]
    omega
  · rw [Int.natAbs_mul, Int.natAbs_natCast, Int.natAbs_natCast, Nat.pow_succ]
    omega
theorem Bd.mul {k l : Nat} {r s : Rat} (hr : Bd k r) (hs : Bd l s) : Bd (k + l) (r * s) := by
  have rz : (r.den : Int) ≠ 0 := Int.ne_of_gt (den_pos r)
  have sz : (s.den : Int) ≠ 0 := Int.ne_of_gt (den_pos s)
  have key := Rat.divInt_mul_divInt r.num s.num (d₁ := r.den) (d₂ := s.den)
  rw [low_self, low_self] at key
  rw [key]
  refine Bd.divInt (Int.mul_ne_zero rz sz) ?_ ?_
  · rw [Int.natAbs_mul]
    exact nat_mul_lt hr.1 hs.1
  · rw [Int.natAbs_mul, Int.natAbs_natCast, Int.natAbs_natCast]
    exact nat_mul_lt hr.2 hs.2
theorem Bd.neg {k : Nat} {r : Rat} (hr : Bd k r) : Bd k (-r) := by
  refine ⟨?_, ?_⟩
  · rw [Rat.neg_num, Int.natAbs_neg]
    exact hr.1
  · rw [Rat.neg_den]
    exact hr.2
theorem Bd.sub {k l : Nat} {r s : Rat} (hr : Bd k r) (hs : Bd l s) : Bd (k + l + 1) (r - s) := by
  rw [Rat.sub_eq_add_neg]
  exact hr.add hs.neg
theorem inv_num {s : Rat} (h : s ≠ 0) : (if s.num < 0 then -(s.den : Int) else s.den) = (s⁻¹).num ∧ (if s.num < 0 then -s.num else s.num) = (s⁻¹).den := by
  have hn : s.num ≠ 0 := fun e => h (Rat.num_eq_zero.mp e)
  rw [Rat.num_inv, Rat.den_inv, if_neg hn]
  split
  · rename_i g
    rw [Int.sign_eq_neg_one_of_neg g]
    omega
  · rename_i g
    rw [Int.sign_eq_one_of_pos (by omega)]
    omega
theorem Bd.inv {k : Nat} {s : Rat} (h : s ≠ 0) (hs : Bd k s) : Bd k s⁻¹ := by
  obtain ⟨a, b⟩ := inv_num h
  have dp := den_pos s
  refine ⟨?_, ?_⟩
  · rw [← a]
    have := hs.2
    split <;> omega
  · have := hs.1
    have e : (s⁻¹).den = ((s⁻¹).den : Int).natAbs := (Int.natAbs_natCast _).symm
    rw [e, ← b]
    split <;> omega
theorem Bd.div {k l : Nat} {r s : Rat} (h : s ≠ 0) (hr : Bd k r) (hs : Bd l s) : Bd (k + l) (r / s) := by
  rw [Rat.div_def]
  exact hr.mul (hs.inv h)
end My
namespace My
open PySem PySem.Spec PyProof.Rows L2
theorem and_sw {A B : Prop} (b : B) (a : A) : A ∧ B := ⟨a, b⟩
theorem if_dec {p : Prop} [Decidable p] {A B : Prop} (h1 : p → A) (h2 : ¬ p → B) : if decide p = true then A else B := by
  by_cases h : p
  · rw [if_pos (decide_eq_true h)]
    exact h1 h
  · rw [if_neg (fun q => h (of_decide_eq_true q))]
    exact h2 h
theorem if_ndec {p : Prop} [Decidable p] {A B : Prop} (h1 : ¬ p → A) (h2 : p → B) : if (!decide p) = true then A else B := by
  by_cases h : p
  · rw [decide_eq_true h]
    exact iteF (h2 h)
  · rw [decide_eq_false h]
    exact iteT (h1 h)
/-- // by a divisor that is not 0, below 2 ^ 9000 -/
def CDivX (_ j : Int) : Prop := j ≠ 0 ∧ j.natAbs.log2 < 9000
section
variable {X : Cx}
theorem op_fdivX : OpR X (binaryOp .FloorDiv) (rI CDivX fun i j => .int (i.fdiv j)) := opI fun _ _ _ _ _ _ _ hc q => floordiv_int hc.1 q (.inl (PyProof.noPylong_of_log2 hc.2))
end
theorem cdivx {i j : Int} {b : Nat} (h : j ≠ 0) (hb : j.natAbs < 2 ^ b) (h9 : b ≤ 9000) : CDivX i j := by
  refine ⟨h, ?_⟩
  by_cases h0 : b = 0
  · subst h0
    omega
  · exact Nat.lt_of_lt_of_le (PySem.Flt.log2_lt_of (by omega) hb) h9
/-! ### heaps: all that was there, but what stands at D, stands -/
def Fw (D : Addr) (H H' : Hp) : Prop := ∀ b o, b ≠ D → H b = some o → H' b = some o
theorem Fw.refl (D : Addr) (H : Hp) : Fw D H H := fun _ _ _ h => h
theorem Fw.trans {D : Addr} {H H1 H2 : Hp} (a : Fw D H H1) (b : Fw D H1 H2) : Fw D H H2 := fun c o n h => b c o n (a c o n h)
theorem Same.fw {D : Addr} {H H' : Hp} (s : Same H H') : Fw D H H' := fun b o _ h => s b o h
theorem same_upd {H : Hp} {p : Addr} {o : HO} (h : H p = none) : Same H (upd H p o) := fun b x e => by
  rw [upd_ne (ne_of_none e h)]
  exact e
theorem fw_upd {D : Addr} {H : Hp} {o : HO} : Fw D H (upd H D o) := fun b x n e => by
  rw [upd_ne n]
  exact e
/-! ### the deck -/
def Deck (M : Nat) (D : Addr) (H : Hp) (c : Nat) : Prop := ∃ (C : Addr) (cells : List Int) (pl rest cnt : Int), C ≠ D ∧ H D = some (.lst [.ref C, .int pl, .int rest, .int cnt]) ∧ H C = some (.lst (cells.map V.int)) ∧
  cells.length ≤ 63 ∧ (∀ z ∈ cells, z.natAbs < 2 ^ M) ∧ (0 ≤ rest ∧ rest.natAbs < 2 ^ M) ∧ 0 ≤ cnt ∧ cnt ≤ c
theorem Deck.same {M : Nat} {D : Addr} {H H' : Hp} {c : Nat} (d : Deck M D H c) (s : Same H H') : Deck M D H' c := by
  obtain ⟨C, cells, pl, rest, cnt, h0, h1, h2, h3⟩ := d
  exact ⟨C, cells, pl, rest, cnt, h0, s _ _ h1, s _ _ h2, h3⟩
theorem Deck.mono {M : Nat} {D : Addr} {H : Hp} {c c' : Nat} (d : Deck M D H c) (h : c ≤ c') : Deck M D H c' := by
  obtain ⟨C, cells, pl, rest, cnt, h0, h1, h2, h3, h4, h5, h6, h7⟩ := d
  exact ⟨C, cells, pl, rest, cnt, h0, h1, h2, h3, h4, h5, h6, by omega⟩
theorem Deck.some {M : Nat} {D : Addr} {H : Hp} {c : Nat} (d : Deck M D H c) : ∃ o, H D = some o := by
  obtain ⟨C, cells, pl, rest, cnt, h0, h1, h2⟩ := d
  exact ⟨_, h1⟩
theorem Deck.ne {M : Nat} {D p : Addr} {H : Hp} {c : Nat} (d : Deck M D H c) (h : H p = none) : p ≠ D := by
  obtain ⟨o, e⟩ := d.some
  exact (ne_of_none e h).symm
theorem pow_le {a b : Nat} (h : a ≤ b) : (2 : Nat) ^ a ≤ 2 ^ b := Nat.pow_le_pow_right (by decide) h
theorem div_small {i j : Int} {M : Nat} (h0 : 0 ≤ i) (h : i.natAbs < 2 ^ M) (hj : 0 < j) : 0 ≤ i.fdiv j ∧ (i.fdiv j).natAbs < 2 ^ M := by
  rw [Int.fdiv_eq_ediv_of_nonneg i (by omega)]
  have a := Int.ediv_nonneg h0 (Int.le_of_lt hj)
  have b : i / j ≤ i := Int.ediv_le_self j h0
  exact ⟨a, by omega⟩
end My
namespace My
open PySem PySem.Spec PyProof.Rows L2
theorem at_ints {cells : List Int} {i : Int} (h0 : 0 ≤ i) (h1 : i < ((cells.map V.int).length : Nat)) : ∃ z, z ∈ cells ∧ atI (cells.map V.int) i = some (.int z) := by
  obtain ⟨j, rfl⟩ := Int.eq_ofNat_of_zero_le h0
  rw [List.length_map] at h1
  have hj : j < cells.length := by omega
  refine ⟨cells[j], List.getElem_mem hj, atI_nat ?_⟩
  rw [List.getElem?_map, List.getElem?_eq_getElem hj]
  rfl
theorem bits_lt {z : Int} {M : Nat} (h : Builtin.Int.intBits z ≤ M) : z.natAbs < 2 ^ M := by
  unfold Builtin.Int.intBits at h
  split at h
  · rename_i e
    have e' : z = 0 := by simpa using e
    subst e'
    exact Nat.two_pow_pos M
  · have := Nat.lt_log2_self (n := z.natAbs)
    exact Nat.lt_of_lt_of_le this (pow_le h)
theorem pw_big {z cnt : Int} {c M : Nat} (hz : z.natAbs < 2 ^ M) (hM : 64 ≤ M) (h0 : 0 ≤ cnt) (h1 : cnt ≤ c) (hc : c ≤ 2 ^ 40) : (z + 7919 * (cnt + 1) + 1).natAbs < 2 ^ (M + 1) := by
  have e : (2 : Nat) ^ 64 ≤ 2 ^ M := pow_le hM
  rw [Nat.pow_succ]
  generalize (2 : Nat) ^ M = p at *
  omega
theorem fdiv_dvd {a b : Int} (h : b ∣ a) : a.fdiv b = a / b := by
  obtain ⟨c, rfl⟩ := h
  by_cases hb : b = 0
  · subst hb
    rw [Int.zero_mul]
    simp
  · rw [Int.mul_fdiv_cancel_left _ hb, Int.mul_ediv_cancel_left _ hb]
theorem mod_rng (x : Int) {m : Int} (h : 0 < m) : 0 ≤ x % m ∧ x % m < m := ⟨Int.emod_nonneg _ (by omega), Int.emod_lt_of_pos _ h⟩
end My
namespace My
open PySem PySem.Spec PyProof.Rows L2
theorem cpow_of {i j : Int} (h : 0 ≤ j ∧ j ≤ 1000000 ∧ i.natAbs < 2 ^ 64) : CPow i j := h
theorem ten18 : (0 : Int) ≤ 10 ^ (18 : Int).toNat := by decide
theorem cmul_small {i j : Int} (h : i.natAbs < 2 ^ 64) (h2 : j.natAbs < 2 ^ 64) : CMulX i j := mulx_ok h h2 (by decide)
theorem cmul_big {i j : Int} {M : Nat} (h : i.natAbs < 2 ^ M) (h2 : j.natAbs < 2 ^ 64) (hM : M ≤ 100000000) : CMulX i j := mulx_ok h h2 (by omega)
theorem pick_mul2 (x : Int) {m k : Int} (h0 : 0 < m) (hm : m.natAbs < 2 ^ 32) (hk : k.natAbs < 2 ^ 32) {d : Int} (hd : 0 < d) : CMulX (x % m) ((x % m).fdiv d + k) := by
  obtain ⟨a, b⟩ := mod_rng x h0
  rw [Int.fdiv_eq_ediv_of_nonneg _ (by omega)]
  have c := Int.ediv_nonneg a (Int.le_of_lt hd)
  have e : (x % m) / d ≤ x % m := Int.ediv_le_self d a
  exact cmul_small (by omega) (by omega)
end My
namespace My
open PySem PySem.Spec PyProof.Rows L2
/-! ### isinstance -/
section
variable {K : PySem.W.Frag} {H : Hp} {Q : VK}
theorem isi_int_int {i : Int} (q : Q (.bl true) H) : rIsi K [.int i, .ty "int"] H Q := ⟨_, _, _, _, _, rfl, .ty _, .base (.int _), kit_ty (by decide +kernel), q⟩
theorem isi_int_bool {i : Int} (q : Q (.bl false) H) : rIsi K [.int i, .ty "bool"] H Q := ⟨_, _, _, _, _, rfl, .ty _, .base (.int _), kit_ty (by decide +kernel), q⟩
theorem isi_bl_bool {b : Bool} (q : Q (.bl true) H) : rIsi K [.bl b, .ty "bool"] H Q := ⟨_, _, _, _, _, rfl, .ty _, .base (.bl _), kit_ty (by decide +kernel), q⟩
theorem isi_tup_tup {p : Addr} {xs : List V} (h : H p = some (.tup xs)) (q : Q (.bl true) H) : rIsi K [.ref p, .ty "tuple"] H Q := ⟨_, _, _, _, _, rfl, .ty _, .base (.tup h), kit_ty (by decide +kernel), q⟩
end
/-! ### a fraction that stands in the heap -/
abbrev frV (r : Rat) : List V := [.int r.num, .int r.den]
def IsF (H : Hp) (v : V) (r : Rat) : Prop := ∃ p, v = .ref p ∧ H p = some (.tup (frV r))
theorem IsF.same {H H' : Hp} {v : V} {r : Rat} (s : Same H H') (h : IsF H v r) : IsF H' v r := by
  obtain ⟨p, e, h⟩ := h
  exact ⟨p, e, s _ _ h⟩
theorem IsF.fw {M : Nat} {D : Addr} {c : Nat} {H H' : Hp} {v : V} {r : Rat} (d : Deck M D H c) (s : Fw D H H') (h : IsF H v r) : IsF H' v r := by
  obtain ⟨p, e, h⟩ := h
  obtain ⟨C, cells, pl, rest, cnt, h0, h1, h2⟩ := d
  exact ⟨p, e, s _ _ (ne_of h h1 (by intro z; cases z)) h⟩
theorem IsF.at {H : Hp} {p : Addr} {r : Rat} (h : IsF H (.ref p) r) : H p = some (.tup (frV r)) := by
  obtain ⟨p', e, h⟩ := h
  cases e
  exact h
theorem isF_new {H : Hp} {p : Addr} {a b : Int} {r : Rat} (h1 : r.num = a) (h2 : (r.den : Int) = b) : IsF (upd H p (.tup [.int a, .int b])) (.ref p) r := by
  subst h1 h2
  exact ⟨p, rfl, upd_same⟩
def frD (r : Rat) : PyData := .tuple [.int r.num, .int r.den]
theorem IsF.dp {K : PySem.W.Frag} {H : Hp} {v : V} {r : Rat} (h : IsF H v r) : Dp K H v (frD r) := by
  obtain ⟨p, rfl, h⟩ := h
  exact .tup (.of h) (.cons (.int _) (.cons (.int _) .nil))
theorem frD_shaped (r : Rat) : SeqAt.shaped (frD r) = true := by rfl
theorem frD_eqv (r s : Rat) : PyData.eqv (frD r) (frD s) = decide (r = s) := by
  have e : PyData.eqv (frD r) (frD s) = (decide (r.num = s.num) && decide ((r.den : Int) = s.den)) := by
    simp only [frD, PyData.eqv, PyData.eqvAll, Bool.and_true, Bool.beq_eq_decide_eq]
  rw [e, Bool.eq_iff_iff]
  simp only [Bool.and_eq_true, decide_eq_true_eq]
  constructor
  · rintro ⟨a, b⟩
    exact Rat.ext a (by omega)
  · rintro rfl
    exact ⟨rfl, rfl⟩
theorem eqF {K : PySem.W.Frag} {H : Hp} {v w : V} {r s : Rat} {Q : VK} (h1 : IsF H v r) (h2 : IsF H w s) (q : Q (.bl (decide (r = s))) H) : rEqD K v w H Q := ⟨_, _, h1.dp, h2.dp, frD_shaped r, frD_shaped s, by rw [frD_eqv]; exact q⟩
theorem neF {K : PySem.W.Frag} {H : Hp} {v w : V} {r s : Rat} {Q : VK} (h1 : IsF H v r) (h2 : IsF H w s) (q : Q (.bl (!decide (r = s))) H) : rNeD K v w H Q := ⟨_, _, h1.dp, h2.dp, frD_shaped r, frD_shaped s, by rw [frD_eqv]; exact q⟩
end My
namespace My
open PySem PySem.Spec PyProof.Rows L2
/-! ### calls of built-ins by named readings -/
def rInt : List V → Hp → VK → Prop := fun xs H Q => (∃ i, xs = [.int i] ∧ Q (.int i) H) ∨ ∃ k, xs = [.bl k] ∧ Q (.int (if k then 1 else 0)) H
def rLen (K : PySem.W.Frag) : List V → Hp → VK → Prop := fun xs H Q => ∃ p ys, xs = [.ref p] ∧ (SqL K H p ys ∨ SqT K H p ys) ∧ Q (.int ys.length) H
def rAbs : List V → Hp → VK → Prop := fun xs H Q => ∃ i, xs = [.int i] ∧ Q (.int (if i < 0 then -i else i)) H
def rMin : List V → Hp → VK → Prop := fun xs H Q => ∃ i j, xs = [.int i, .int j] ∧ Q (.int (if j < i then j else i)) H
theorem call_intN {X : Cx} : CallR X (.type "int") rInt := call_int1
theorem call_lenN {X : Cx} : CallR X (.builtin "len") (rLen X.K) := call_len_seq
theorem call_absN {X : Cx} : CallR X (.builtin "abs") rAbs := call_abs
theorem call_minN {X : Cx} (hc : X.calm = true) : CallR X (.builtin "min") rMin := call_min2 hc
/-! ### a reading, one step a rule: each says what its left side asks first -/
section
variable {σ : L2.St} {H : Hp} {Q : VK} {K : PySem.W.Frag} {D : Ends} {ta tb te : TE} {t : TA} {i : Nat} {v x y : V}
theorem rd_var (e : σ[i]? = some (some v)) (q : Q v H) : tVar i σ H Q := ⟨v, e, q⟩
theorem rd_C (q : Q v H) : tC v σ H Q := q
theorem rd_op {r : R2} (h : ta σ H fun x H1 => tb σ H1 fun y H2 => r x y H2 Q) : tOp r ta tb σ H Q := h
theorem rd_un {r : V → Hp → VK → Prop} (h : ta σ H fun x H1 => r x H1 Q) : tUn r ta σ H Q := h
theorem rd_CB {r : List V → Hp → VK → Prop} (h : t σ H fun vs H1 => r vs H1 Q) : tCB r t σ H Q := h
theorem rd_nil {Q : List V → Hp → Prop} (q : Q [] H) : tNil σ H Q := q
theorem rd_cons {Q : List V → Hp → Prop} (h : ta σ H fun x H1 => t σ H1 fun xs H2 => Q (x :: xs) H2) : tCons ta t σ H Q := h
theorem rd_call {sp : Sp} {dvs : List V} {E : XK} (h : t σ H fun vs H1 => sp (vs ++ dvs) H1 Q E) : tCall sp dvs E t σ H Q := h
theorem rd_rI {C : Int → Int → Prop} {g : Int → Int → V} {i j : Int} (q : Q (g i j) H) (c : C i j) : rI C g (.int i) (.int j) H Q := ⟨i, j, rfl, rfl, c, q⟩
theorem rd_rI0 {g : Int → Int → V} {i j : Int} (q : Q (g i j) H) : rI0 g (.int i) (.int j) H Q := ⟨i, j, rfl, rfl, q⟩
theorem rd_rU {g : Int → V} {i : Int} (q : Q (g i) H) : rU g (.int i) H Q := ⟨i, rfl, q⟩
theorem rd_eq (s : scal x y = true) (q : Q (.bl (decide (x = y))) H) : rEq x y H Q := ⟨s, q⟩
theorem rd_ne (s : scal x y = true) (q : Q (.bl (!decide (x = y))) H) : rNe x y H Q := ⟨s, q⟩
theorem int_eq {i j : Int} : (V.int i = V.int j) = (i = j) := by simp
theorem rd_eqI {i j : Int} (q : Q (.bl (decide (i = j))) H) : rEq (.int i) (.int j) H Q := ⟨rfl, by simpa using q⟩
theorem rd_neI {i j : Int} (q : Q (.bl (!decide (i = j))) H) : rNe (.int i) (.int j) H Q := ⟨rfl, by simpa using q⟩
theorem rd_ixL {p : Addr} {xs : List V} {i : Int} {v : V} (h : H p = some (.lst xs)) (e : atI xs i = some v) (q : Q v H) : rIxL K (.ref p) (.int i) H Q := ⟨p, xs, i, v, rfl, rfl, .of h, e, q⟩
theorem rd_ixT {p : Addr} {xs : List V} {i : Int} {v : V} (h : H p = some (.tup xs)) (e : atI xs i = some v) (q : Q v H) : rIxT K (.ref p) (.int i) H Q := ⟨p, xs, i, v, rfl, rfl, .of h, e, q⟩
theorem rd_setL {p : Addr} {xs : List V} {k : Int} {j : Nat} {Q : Hp → Prop} (h : H p = some (.lst xs)) (e : ixN xs.length k = some j) (q : Q (upd H p (.lst (xs.set j v)))) : rSetL (.ref p) (.int k) v H Q := ⟨p, xs, k, j, rfl, rfl, h, e, q⟩
theorem rd_gcd {a b : Int} (q : Q (.int ((Nat.gcd a.natAbs b.natAbs : Nat) : Int)) H) : rGcd [.int a, .int b] H Q := ⟨a, b, rfl, q⟩
theorem rd_bits (h : te σ H fun x H1 => ∃ i, x = .int i ∧ Q (.int (Builtin.Int.intBits i : Nat)) H1) : tBits te σ H Q := h
theorem rd_tup (h : t σ H fun xs H1 => xs.length ≤ sizeLine ∧ ∀ p, H1 p = none → Q (.ref p) (upd H1 p (.tup xs))) : tTup t σ H Q := h
theorem rd_lst (h : t σ H fun xs H1 => xs.length ≤ sizeLine ∧ ∀ p, H1 p = none → Q (.ref p) (upd H1 p (.lst xs))) : tLst t σ H Q := h
theorem rd_sl {r : V → Option Int → Option Int → Hp → VK → Prop} {tl th : TO} (h : te σ H fun x H1 => tl σ H1 fun l H2 => th σ H2 fun u H3 => r x l u H3 Q) : tSl r te tl th σ H Q := h
theorem rd_part {Q : Option Int → Hp → Prop} (h : te σ H fun x H1 => ∃ i, x = .int i ∧ Q (some i) H1) : tPart te σ H Q := h
theorem rd_nopart {Q : Option Int → Hp → Prop} (h : Q none H) : tNoPart σ H Q := h
theorem rd_slL {a : Addr} {xs : List V} {lo hi : Option Int} (h : SqL K H a xs) (q : ∀ p, H p = none → Q (.ref p) (upd H p (.lst (cutV xs lo hi)))) : rSlL K (.ref a) lo hi H Q := ⟨a, xs, rfl, h, q⟩
theorem rd_bm {T : String} {r : V → List V → Hp → VK → Prop} (h : te σ H fun x H1 => tyV K T x H1 ∧ t σ H1 fun xs H2 => r x xs H2 Q) : tBM K T r te t σ H Q := h
theorem rd_chain {r r' : R2} (h : ta σ H fun x H1 => tb σ H1 fun y H2 => r x y H2 fun z H3 => ∃ k, z = .bl k ∧ (if k = true then te σ H3 fun w' H4 => r' y w' H4 Q else Q (.bl false) H3)) : tChain r r' ta tb te σ H Q := h
theorem rd_andV (h : ta σ H fun x H1 => ∃ c, x = .bl c ∧ if c = true then tb σ H1 Q else Q (.bl false) H1) : tAndV ta tb σ H Q := h
theorem rd_orV (h : ta σ H fun x H1 => ∃ c, x = .bl c ∧ if c = true then Q (.bl true) H1 else tb σ H1 Q) : tOrV ta tb σ H Q := h
theorem rd_notV (h : ta σ H fun x H1 => ∃ c, x = .bl c ∧ Q (.bl (!c)) H1) : tNotV ta σ H Q := h
theorem rd_ifE {c : TT} (h : c σ H fun c H1 => if c = true then ta σ H1 Q else tb σ H1 Q) : tIf c ta tb σ H Q := h
section
variable {Q : Bool → Hp → Prop} {u u' : TT}
theorem rd_test (h : te σ H fun x H' => ∃ k, x = .bl k ∧ Q k H') : tTest te σ H Q := h
theorem rd_B (h : te σ H fun x H1 => ∃ c, x = .bl c ∧ Q c H1) : tB te σ H Q := h
theorem rd_not (h : u σ H fun c H1 => Q (!c) H1) : tNot u σ H Q := h
theorem rd_and (h : u σ H fun c H1 => if c = true then u' σ H1 Q else Q false H1) : tAnd u u' σ H Q := h
theorem rd_or (h : u σ H fun c H1 => if c = true then Q true H1 else u' σ H1 Q) : tOr u u' σ H Q := h
theorem rd_yes (q : Q true H) : tYes σ H Q := q
end
section
variable {s s' : TS} {g : TG} {gs : TGs}
theorem rd_seq (h : s { D with nx := s' D } σ H) : tSeq s s' D σ H := h
theorem rd_next (h : D.nx σ H) : tNext D σ H := h
theorem rd_drop (h : te σ H fun _ H1 => D.nx σ H1) : tDrop te D σ H := h
theorem rd_ret (h : te σ H D.rt) : tRet te D σ H := h
theorem rd_ifS {c : TT} (h : c σ H fun b H1 => if b = true then s D σ H1 else s' D σ H1) : tIfS c s s' D σ H := h
theorem rd_asg (h : te σ H fun x H1 => g x σ H1 D.nx) : tAsg te g D σ H := h
theorem rd_gName {Q : L2.St → Hp → Prop} (h : Q (σ.set i (some v)) H) : gName i v σ H Q := h
theorem rd_gSub {Q : L2.St → Hp → Prop} {ts : TSet} (h : ta σ H fun o H1 => tb σ H1 fun i H2 => ts o i v H2 fun H3 => Q σ H3) : gSub ta tb ts v σ H Q := h
theorem rd_gTup {Q : L2.St → Hp → Prop} {p : Addr} {xs : List V} {n : Nat} (h : H p = some (.tup xs)) (e : xs.length = n) (q : gs xs σ H Q) : gTup K n gs (.ref p) σ H Q := ⟨p, xs, rfl, .of h, e, q⟩
theorem rd_gNil {Q : L2.St → Hp → Prop} (q : Q σ H) : gNil [] σ H Q := ⟨rfl, q⟩
theorem rd_gCons {Q : L2.St → Hp → Prop} {r : List V} (h : g v σ H fun σ' H' => gs r σ' H' Q) : gCons g gs (v :: r) σ H Q := ⟨v, r, rfl, h⟩
theorem rd_for {wi : TI} (h : wi σ H fun J H1 => ∃ W : Nat → Nat → L2.St → Hp → Prop, (∃ m, W 0 m σ H1) ∧ ∀ i m σ H, W i m σ H →
  (J.stop i H ∧ D.nx σ H) ∨ (J.go i H ∧ ∃ N : L2.St → Hp → Prop, (∀ σ' H', N σ' H' → ∃ m', m' < m ∧ W (i + 1) m' σ' H') ∧ ∀ x H', J.yld i H x H' → g x σ H' fun σ2 H2 => s { D with nx := N, ct := N, bk := D.nx } σ2 H2)) : tFor wi g s D σ H := h
theorem rd_rng1 {R : It → Hp → Prop} (h : t σ H fun vs H1 => ∃ j : Int, vs = [.int j] ∧ -(2 ^ 62) ≤ j ∧ j < 2 ^ 62 ∧ R (Itr 0 j.toNat) H1) : iRng1 t σ H R := h
theorem rd_itL {R : It → Hp → Prop} (h : te σ H fun x H1 => ∃ a, x = .ref a ∧ (∃ xs, SqL K H1 a xs) ∧ R (Itl K a) H1) : iList K te σ H R := h
theorem rd_itT {R : It → Hp → Prop} (h : te σ H fun x H1 => ∃ a, x = .ref a ∧ (∃ xs, SqT K H1 a xs) ∧ R (Itt K a) H1) : iTup K te σ H R := h
end
theorem if_T {p : Prop} [Decidable p] {A B : Prop} (hp : p) (h : A) : if decide p = true then A else B := by
  rw [if_pos (decide_eq_true hp)]
  exact h
theorem if_F {p : Prop} [Decidable p] {A B : Prop} (hp : ¬ p) (h : B) : if decide p = true then A else B := by
  rw [if_neg (fun q => hp (of_decide_eq_true q))]
  exact h
theorem if_nF {p : Prop} [Decidable p] {A B : Prop} (hp : p) (h : B) : if (!decide p) = true then A else B := by
  rw [decide_eq_true hp]
  exact iteF h
theorem if_nT {p : Prop} [Decidable p] {A B : Prop} (hp : ¬ p) (h : A) : if (!decide p) = true then A else B := by
  rw [decide_eq_false hp]
  exact iteT h
theorem ite_nt {A B : Prop} (h : B) : if (!true) = true then A else B := iteF h
theorem ite_nf {A B : Prop} (h : A) : if (!false) = true then A else B := iteT h
theorem rd_len {xs : List V} {R : Prop} (q : R) (h : xs.length.ble sizeLine = true) : xs.length ≤ sizeLine ∧ R := ⟨Nat.le_of_ble_eq_true h, q⟩
theorem rd_lenL {p : Addr} {xs : List V} (q : Q (.int xs.length) H) (h : H p = some (.lst xs)) : rLen K [.ref p] H Q := ⟨p, xs, rfl, .inl (.of h), q⟩
theorem rd_lenS {p : Addr} {xs : List V} (q : Q (.int xs.length) H) (h : SqL K H p xs) : rLen K [.ref p] H Q := ⟨p, xs, rfl, .inl h, q⟩
theorem rd_lenT {p : Addr} {xs : List V} (q : Q (.int xs.length) H) (h : H p = some (.tup xs)) : rLen K [.ref p] H Q := ⟨p, xs, rfl, .inr (.of h), q⟩
theorem rd_int {i : Int} (q : Q (.int i) H) : rInt [.int i] H Q := .inl ⟨i, rfl, q⟩
theorem rd_intB {k : Bool} (q : Q (.int (if k then 1 else 0)) H) : rInt [.bl k] H Q := .inr ⟨k, rfl, q⟩
theorem rd_abs {i : Int} (q : Q (.int (i.natAbs : Nat)) H) : rAbs [.int i] H Q := ⟨i, rfl, by
  have e : (if i < 0 then -i else i) = (i.natAbs : Int) := by split <;> omega
  rw [e]
  exact q⟩
theorem rd_min {i j : Int} (q : Q (.int (min i j)) H) : rMin [.int i, .int j] H Q := ⟨i, j, rfl, by
  have e : (if j < i then j else i) = min i j := by split <;> omega
  rw [e]
  exact q⟩
theorem rd_neB {a b : Bool} (q : Q (.bl (!decide (a = b))) H) : rNe (.bl a) (.bl b) H Q := ⟨rfl, by simpa using q⟩
theorem rd_eqB {a b : Bool} (q : Q (.bl (decide (a = b))) H) : rEq (.bl a) (.bl b) H Q := ⟨rfl, by simpa using q⟩
theorem rd_isBl {a b : Bool} (q : Q (.bl (decide (a = b))) H) : rIsB (.bl a) (.bl b) H Q := ⟨a, b, rfl, rfl, q⟩
end
end My
namespace My
open PySem PySem.Spec PyProof.Rows L2
theorem rd_lc {wi : TI} {g : TG} {tt : TT} {te : TE} {vs : List Nat} {σ : L2.St} {H : Hp} {Q : VK} (h : wi σ H fun J H1 => ∀ D, H1 D = none → ∃ W : Nat → Nat → Hp → Prop, (∃ m, W 0 m (upd H1 D (.lst []))) ∧ ∀ i m H, W i m H →
  (J.stop i H ∧ Q (.ref D) H) ∨ (J.go i H ∧ ∃ Nx : Hp → Prop, (∀ H', Nx H' → ∃ m', m' < m ∧ W (i + 1) m' H') ∧ ∀ x H', J.yld i H x H' → g x (wipe σ vs) H' fun σ2 H2 => wipe σ2 vs = wipe σ vs ∧ tt σ2 H2 fun b H3 =>
    if b = true then te σ2 H3 fun y H4 => ∃ acc, H4 D = some (.lst acc) ∧ acc.length < sizeLine ∧ Nx (upd H4 D (.lst (acc ++ [y]))) else Nx H3)) : tLc wi g tt te vs σ H Q := h
theorem cut_all {xs : List V} {n : Nat} (h : xs.length ≤ n) : cutV xs none (some (n : Int)) = xs := by
  unfold cutV
  rw [HT.sIx_none, HT.sIx_nat, List.drop_zero]
  exact List.take_of_length_le (by omega)
theorem take_succ_map {ns : List Int} {i : Nat} {x : V} (h : (ns.map V.int)[i]? = some x) : ∃ z, x = .int z ∧ z ∈ ns ∧ (ns.take (i + 1)).map V.int = (ns.take i).map V.int ++ [x] := by
  rw [List.getElem?_map] at h
  cases e : ns[i]? with
  | none =>
    rw [e] at h
    cases h
  | some z =>
    rw [e] at h
    have hx : x = .int z := (Option.some.inj h).symm
    refine ⟨z, hx, List.mem_of_getElem? e, ?_⟩
    rw [List.take_add_one, e, List.map_append, hx]
    rfl
/-! ### list.count of flags -/
def eqb (k : Bool) (v : Value) : Bool := match v with
  | .bool b => b == k
  | _ => false
theorem eqb_at {A : Around} {s : Shared} {k : Bool} : ∀ {us : List Value} {bs : List Bool}, Vals (bs.map V.bl) us → ∀ y ∈ us, SeqAt.EqAt A s y (.bool k) (eqb k y)
  | [], bs, r => fun y hy => nomatch hy
  | u :: us, [], r => nomatch r
  | u :: us, b :: bs, r => fun y hy => by
    cases r with
    | cons r1 r2 =>
      rcases List.mem_cons.mp hy with e | e
      · rw [e]
        cases (show u = Value.bool b from r1)
        exact SeqAt.EqAt.bool_bool b k
      · exact eqb_at r2 y e
theorem eqb_count {k : Bool} : ∀ {us : List Value} {bs : List Bool}, Vals (bs.map V.bl) us → us.countP (eqb k) = bs.count k
  | [], [], _ => rfl
  | [], b :: bs, r => nomatch r
  | u :: us, [], r => nomatch r
  | u :: us, b :: bs, r => by
    cases r with
    | cons r1 r2 =>
      cases (show u = Value.bool b from r1)
      rw [List.countP_cons, List.count_cons, eqb_count r2] <;> rfl
def rCntB (K : PySem.W.Frag) : V → List V → Hp → VK → Prop := fun x xs H Q => ∃ (p : Addr) (bs : List Bool) (k : Bool), x = .ref p ∧ xs = [.bl k] ∧ SqL K H p (bs.map V.bl) ∧ Q (.int (bs.count k : Nat)) H
theorem mt_bcount {X : Cx} : MtR X "list.count" (rCntB X.K) := by
  intro pins s σ H x xs v us Q I rx rxs h
  obtain ⟨p, bs, k, rfl, rfl, hs, q⟩ := h
  cases rx
  obtain ⟨u, rfl, ru⟩ := rxs.one
  cases (show u = Value.bool k from ru)
  obtain ⟨its, rv, ⟨⟨cls, dd, data, sl⟩, n, ho, hc, hdn, hd⟩, hlen⟩ := I.list hs
  simp only at hc hd
  subst hc hd
  refine call_meets PySem.F.slot_list_count ⟨_, ho, rfl⟩ PySem.F.entry_list_count (PySem.F.args_list_count_2 _ _)
    (SeqAt.list_countAt p its.toArray n dd sl (.bool k) (eqb k)) ⟨ho, fun y hy => eqb_at rv y (by simpa using hy), ?_⟩
  have ec : its.toArray.toList.countP (eqb k) = bs.count k := eqb_count rv
  refine ⟨.int (bs.count k : Nat), H, I.tok _, ⟨s.toks, ?_⟩, q⟩
  show Value.int ((its.toArray.toList.countP (eqb k) : Nat) : Int) s.toks = Value.int ((bs.count k : Nat) : Int) s.toks
  rw [ec]
/-! ### greatest common divisors by remainders -/
structure Euc (G b i : Nat) (x y : Nat) : Prop where
  g : x.gcd y = G
  h : y * 2 ^ (i / 2) ≤ b
  m : i ≠ 0 → y < x ∧ x * 2 ^ ((i - 1) / 2) ≤ b
theorem Euc.step {G b i x y : Nat} (e : Euc G b i x y) (hy : y ≠ 0) : Euc G b (i + 1) y (x % y) := by
  have lt : x % y < y := Nat.mod_lt _ (by omega)
  refine ⟨?_, ?_, fun _ => ⟨lt, ?_⟩⟩
  · rw [← e.g, Nat.gcd_comm x y, Nat.gcd_comm y (x % y)]
    exact (Nat.gcd_rec y x).symm
  · rcases Nat.mod_two_eq_zero_or_one i with p | p
    · have q : (i + 1) / 2 = i / 2 := by omega
      rw [q]
      exact Nat.le_trans (Nat.mul_le_mul_right _ (Nat.le_of_lt lt)) e.h
    · have q : (i + 1) / 2 = (i - 1) / 2 + 1 := by omega
      obtain ⟨m1, m2⟩ := e.m (by omega)
      have half : 2 * (x % y) ≤ x := by
        have d := Nat.div_add_mod x y
        have dp : 1 ≤ x / y := Nat.div_pos (Nat.le_of_lt m1) (by omega)
        have : y ≤ y * (x / y) := Nat.le_mul_of_pos_right y dp
        omega
      rw [q, Nat.pow_succ]
      calc x % y * (2 ^ ((i - 1) / 2) * 2) = (2 * (x % y)) * 2 ^ ((i - 1) / 2) := by rw [Nat.mul_comm (2 ^ _) 2, ← Nat.mul_assoc, Nat.mul_comm (x % y) 2]
        _ ≤ x * 2 ^ ((i - 1) / 2) := Nat.mul_le_mul_right _ half
        _ ≤ b := m2
  · have q : (i + 1 - 1) / 2 = i / 2 := by omega
    rw [q]
    exact e.h
theorem Euc.done {G b k x y : Nat} (e : Euc G b (2 * k + 2) x y) (hb : b < 2 ^ k) : y = 0 ∧ x = G := by
  have h := e.h
  have q : (2 * k + 2) / 2 = k + 1 := by omega
  rw [q] at h
  have hy : y = 0 := by
    rcases Nat.eq_zero_or_pos y with z | z
    · exact z
    · have p : 2 ^ (k + 1) ≤ y * 2 ^ (k + 1) := Nat.le_mul_of_pos_left _ z
      rw [Nat.pow_succ] at p
      have : 0 < 2 ^ k := Nat.two_pow_pos k
      rw [Nat.pow_succ] at h
      omega
  have g := e.g
  rw [hy, Nat.gcd_zero_right] at g
  exact ⟨hy, g⟩
end My
namespace My
open PySem PySem.Spec PyProof.Rows L2
theorem cdv {j : Int} (h : 0 < j) (hb : j.natAbs < 2 ^ 8000) (i : Int) : CDivX i j := cdivx (by omega) hb (by decide)
theorem cmx {i j : Int} (h1 : i.natAbs < 2 ^ 20000) (h2 : j.natAbs < 2 ^ 20000) : CMulX i j := mulx_ok h1 h2 (by decide)
theorem div_nat (a b : Nat) : (a : Int).fdiv (b : Int) = ((a / b : Nat) : Int) := by
  rw [Int.fdiv_eq_ediv_of_nonneg _ (by omega), Int.natCast_ediv]
theorem p45 {n : Nat} (h : n < 2 ^ 4000) : n < 2 ^ 8000 := Nat.lt_of_lt_of_le h (pow_le (by decide))
theorem p46 {n : Nat} (h : n < 2 ^ 4000) : n < 2 ^ 20000 := Nat.lt_of_lt_of_le h (pow_le (by decide))
theorem added_math {r s : Rat} (hr : Bd 4000 r) (hs : Bd 4000 s) : ∀ g top sh : Int, g = ((Nat.gcd (r.den : Int).natAbs (s.den : Int).natAbs : Nat) : Int) → top = r.num * (s.den : Int).fdiv g + s.num * (r.den : Int).fdiv g →
    sh = ((Nat.gcd top.natAbs g.natAbs : Nat) : Int) → (∀ i, CDivX i g) ∧ CMulX r.num ((s.den : Int).fdiv g) ∧ CMulX s.num ((r.den : Int).fdiv g) ∧ (∀ i, CDivX i sh) ∧ CMulX ((r.den : Int).fdiv g) ((s.den : Int).fdiv sh) ∧
      (r + s).num = top.fdiv sh ∧ ((r + s).den : Int) = (r.den : Int).fdiv g * (s.den : Int).fdiv sh := by
  intro g top sh hg ht hsh
  have hd := r.den_pos
  have hs' := s.den_pos
  rw [Int.natAbs_natCast, Int.natAbs_natCast] at hg
  have gpos : 0 < r.den.gcd s.den := Nat.gcd_pos_of_pos_left _ hd
  have gle : r.den.gcd s.den ≤ r.den := Nat.gcd_le_left _ hd
  have gna : g.natAbs = r.den.gcd s.den := by rw [hg, Int.natAbs_natCast]
  have shpos : 0 < top.natAbs.gcd (r.den.gcd s.den) := Nat.gcd_pos_of_pos_right _ gpos
  have shle : top.natAbs.gcd (r.den.gcd s.den) ≤ r.den.gcd s.den := Nat.gcd_le_right _ gpos
  rw [gna] at hsh
  have hr2 := hr.2
  have hs2 := hs.2
  have e1 : (s.den : Int).fdiv g = ((s.den / r.den.gcd s.den : Nat) : Int) := by rw [hg, div_nat]
  have e2 : (r.den : Int).fdiv g = ((r.den / r.den.gcd s.den : Nat) : Int) := by rw [hg, div_nat]
  have l1 : s.den / r.den.gcd s.den ≤ s.den := Nat.div_le_self _ _
  have l2 : r.den / r.den.gcd s.den ≤ r.den := Nat.div_le_self _ _
  have form := add_form r s (r.den.gcd s.den) (r.den / r.den.gcd s.den) (s.den / r.den.gcd s.den) top (top.natAbs.gcd (r.den.gcd s.den)) rfl rfl rfl (by rw [ht, e1, e2]) rfl
  have e3 : (s.den : Int).fdiv sh = ((s.den / top.natAbs.gcd (r.den.gcd s.den) : Nat) : Int) := by rw [hsh, div_nat]
  have l3 : s.den / top.natAbs.gcd (r.den.gcd s.den) ≤ s.den := Nat.div_le_self _ _
  refine ⟨cdv (by omega) (by rw [gna]; exact p45 (by omega)), ?_, ?_, cdv (by omega) ?_, ?_, ?_, ?_⟩
  · rw [e1]
    exact cmx (p46 hr.1) (by rw [Int.natAbs_natCast]; exact p46 (by omega))
  · rw [e2]
    exact cmx (p46 hs.1) (by rw [Int.natAbs_natCast]; exact p46 (by omega))
  · rw [hsh, Int.natAbs_natCast]
    exact p45 (by omega)
  · rw [e2, e3]
    exact cmx (by rw [Int.natAbs_natCast]; exact p46 (by omega)) (by rw [Int.natAbs_natCast]; exact p46 (by omega))
  · rw [form.1, hsh, Int.fdiv_eq_ediv_of_nonneg _ (by omega)]
  · rw [form.2, e2, e3, Int.natCast_mul]
theorem mul_math {r s : Rat} (hr : Bd 4000 r) (hs : Bd 4000 s) : ∀ a b : Int, a = ((Nat.gcd r.num.natAbs (s.den : Int).natAbs : Nat) : Int) → b = ((Nat.gcd s.num.natAbs (r.den : Int).natAbs : Nat) : Int) →
    (∀ i, CDivX i a) ∧ (∀ i, CDivX i b) ∧ CMulX (r.num.fdiv a) (s.num.fdiv b) ∧ CMulX ((r.den : Int).fdiv b) ((s.den : Int).fdiv a) ∧
      (r * s).num = r.num.fdiv a * s.num.fdiv b ∧ ((r * s).den : Int) = (r.den : Int).fdiv b * (s.den : Int).fdiv a := by
  intro a b ha hb
  rw [Int.natAbs_natCast] at ha hb
  have hd := r.den_pos
  have hs' := s.den_pos
  have ap : 0 < r.num.natAbs.gcd s.den := Nat.gcd_pos_of_pos_right _ hs'
  have bp : 0 < s.num.natAbs.gcd r.den := Nat.gcd_pos_of_pos_right _ hd
  have al : r.num.natAbs.gcd s.den ≤ s.den := Nat.gcd_le_right _ hs'
  have bl : s.num.natAbs.gcd r.den ≤ r.den := Nat.gcd_le_right _ hd
  have da : a ∣ r.num := by rw [ha]; exact Int.ofNat_dvd_left.mpr (Nat.gcd_dvd_left ..)
  have db : b ∣ s.num := by rw [hb]; exact Int.ofNat_dvd_left.mpr (Nat.gcd_dvd_left ..)
  have hr2 := hr.2
  have hs2 := hs.2
  obtain ⟨f1, f2⟩ := mul_form r s _ _ rfl rfl
  have e1 : r.num.fdiv a = r.num / a := fdiv_dvd da
  have e2 : s.num.fdiv b = s.num / b := fdiv_dvd db
  have e3 : (r.den : Int).fdiv b = ((r.den / s.num.natAbs.gcd r.den : Nat) : Int) := by rw [hb, div_nat]
  have e4 : (s.den : Int).fdiv a = ((s.den / r.num.natAbs.gcd s.den : Nat) : Int) := by rw [ha, div_nat]
  have l3 : r.den / s.num.natAbs.gcd r.den ≤ r.den := Nat.div_le_self _ _
  have l4 : s.den / r.num.natAbs.gcd s.den ≤ s.den := Nat.div_le_self _ _
  have n1 : (r.num / a).natAbs ≤ r.num.natAbs := by
    rw [Int.natAbs_ediv_of_dvd da]
    exact Nat.div_le_self _ _
  have n2 : (s.num / b).natAbs ≤ s.num.natAbs := by
    rw [Int.natAbs_ediv_of_dvd db]
    exact Nat.div_le_self _ _
  have hr1 := hr.1
  have hs1 := hs.1
  refine ⟨cdv (by omega) (by rw [ha, Int.natAbs_natCast]; exact p45 (by omega)), cdv (by omega) (by rw [hb, Int.natAbs_natCast]; exact p45 (by omega)), ?_, ?_, ?_, ?_⟩
  · rw [e1, e2]
    exact cmx (p46 (by omega)) (p46 (by omega))
  · rw [e3, e4]
    exact cmx (by rw [Int.natAbs_natCast]; exact p46 (by omega)) (by rw [Int.natAbs_natCast]; exact p46 (by omega))
  · rw [f1, e1, e2, ha, hb]
  · rw [f2, e3, e4, Int.natCast_mul]
end My
namespace My
open PySem PySem.Spec PyProof.Rows L2
theorem low_math {n b : Int} (hb : 0 < b) (hl : b.natAbs < 2 ^ 8000) : ∀ g : Int, g = ((n.natAbs.gcd b.natAbs : Nat) : Int) → (∀ i, CDivX i g) ∧ (Rat.divInt n b).num = n.fdiv g ∧ ((Rat.divInt n b).den : Int) = b.fdiv g := by
  rintro g rfl
  have gp : 0 < n.natAbs.gcd b.natAbs := Nat.gcd_pos_of_pos_right _ (by omega)
  have gl : n.natAbs.gcd b.natAbs ≤ b.natAbs := Nat.gcd_le_right _ (by omega)
  obtain ⟨e1, e2⟩ := low_form n b (by omega)
  rw [if_neg (by omega)] at e1 e2
  refine ⟨cdv (by omega) (by rw [Int.natAbs_natCast]; omega), ?_, ?_⟩
  · rw [e1, fdiv_dvd (Int.ofNat_dvd_left.mpr (Nat.gcd_dvd_left ..))]
  · rw [e2, fdiv_dvd (Int.ofNat_dvd_left.mpr (Nat.gcd_dvd_right ..))]
theorem sign_na {t r : Int} (a : 0 ≤ r) (b : r < 2) : (t * (1 - 2 * r)).natAbs = t.natAbs := by
  have h : r = 0 ∨ r = 1 := by omega
  rcases h with rfl | rfl
  · simp
  · rw [Int.natAbs_mul]
    simp
end My
namespace My
open PySem PySem.Spec PyProof.Rows L2
def topS (i : Nat) : Stmt := PySem.Challenge.pw_rootstalls_k02_whole_fractions_reckoned.main.body.getD i (.Pass ⟨0, 0, 0, 0⟩)
abbrev s_is_integer : Stmt := topS 6
abbrev N_is_integer : List Str := ["thing"]
theorem sc_is_integer : FnScope N_is_integer ["thing"] (defScope s_is_integer) := ⟨rfl, rfl, rfl, by decide +kernel, rfl, by decide +kernel, by decide +kernel⟩
abbrev s_is_fraction : Stmt := topS 7
abbrev N_is_fraction : List Str := ["thing", "top", "bottom"]
theorem sc_is_fraction : FnScope N_is_fraction ["thing"] (defScope s_is_fraction) := ⟨rfl, rfl, rfl, by decide +kernel, rfl, by decide +kernel, by decide +kernel⟩
abbrev s_lowest : Stmt := topS 8
abbrev N_lowest : List Str := ["top", "bottom", "common"]
theorem sc_lowest : FnScope N_lowest ["top", "bottom"] (defScope s_lowest) := ⟨rfl, rfl, rfl, by decide +kernel, rfl, by decide +kernel, by decide +kernel⟩
abbrev s_added : Stmt := topS 9
abbrev N_added : List Str := ["one", "other", "common", "part", "top", "shared"]
theorem sc_added : FnScope N_added ["one", "other"] (defScope s_added) := ⟨rfl, rfl, rfl, by decide +kernel, rfl, by decide +kernel, by decide +kernel⟩
abbrev s_negated : Stmt := topS 10
abbrev N_negated : List Str := ["one"]
theorem sc_negated : FnScope N_negated ["one"] (defScope s_negated) := ⟨rfl, rfl, rfl, by decide +kernel, rfl, by decide +kernel, by decide +kernel⟩
abbrev s_lessened : Stmt := topS 11
abbrev N_lessened : List Str := ["one", "other"]
theorem sc_lessened : FnScope N_lessened ["one", "other"] (defScope s_lessened) := ⟨rfl, rfl, rfl, by decide +kernel, rfl, by decide +kernel, by decide +kernel⟩
abbrev s_multiplied : Stmt := topS 12
abbrev N_multiplied : List Str := ["one", "other", "left", "right"]
theorem sc_multiplied : FnScope N_multiplied ["one", "other"] (defScope s_multiplied) := ⟨rfl, rfl, rfl, by decide +kernel, rfl, by decide +kernel, by decide +kernel⟩
abbrev s_divided : Stmt := topS 13
abbrev N_divided : List Str := ["one", "other"]
theorem sc_divided : FnScope N_divided ["one", "other"] (defScope s_divided) := ⟨rfl, rfl, rfl, by decide +kernel, rfl, by decide +kernel, by decide +kernel⟩
abbrev s_lies_below : Stmt := topS 14
abbrev N_lies_below : List Str := ["one", "other"]
theorem sc_lies_below : FnScope N_lies_below ["one", "other"] (defScope s_lies_below) := ⟨rfl, rfl, rfl, by decide +kernel, rfl, by decide +kernel, by decide +kernel⟩
abbrev s_fraction : Stmt := topS 16
abbrev N_fraction : List Str := ["top", "bottom"]
theorem sc_fraction : FnScope N_fraction ["top", "bottom"] (defScope s_fraction) := ⟨rfl, rfl, rfl, by decide +kernel, rfl, by decide +kernel, by decide +kernel⟩
abbrev s_check_both : Stmt := topS 17
abbrev N_check_both : List Str := ["one", "other"]
theorem sc_check_both : FnScope N_check_both ["one", "other"] (defScope s_check_both) := ⟨rfl, rfl, rfl, by decide +kernel, rfl, by decide +kernel, by decide +kernel⟩
abbrev s_plus : Stmt := topS 18
abbrev N_plus : List Str := ["one", "other"]
theorem sc_plus : FnScope N_plus ["one", "other"] (defScope s_plus) := ⟨rfl, rfl, rfl, by decide +kernel, rfl, by decide +kernel, by decide +kernel⟩
abbrev s_minus : Stmt := topS 19
abbrev N_minus : List Str := ["one", "other"]
theorem sc_minus : FnScope N_minus ["one", "other"] (defScope s_minus) := ⟨rfl, rfl, rfl, by decide +kernel, rfl, by decide +kernel, by decide +kernel⟩
abbrev s_times : Stmt := topS 20
abbrev N_times : List Str := ["one", "other"]
theorem sc_times : FnScope N_times ["one", "other"] (defScope s_times) := ⟨rfl, rfl, rfl, by decide +kernel, rfl, by decide +kernel, by decide +kernel⟩
abbrev s_over : Stmt := topS 21
abbrev N_over : List Str := ["one", "other"]
theorem sc_over : FnScope N_over ["one", "other"] (defScope s_over) := ⟨rfl, rfl, rfl, by decide +kernel, rfl, by decide +kernel, by decide +kernel⟩
abbrev s_is_below : Stmt := topS 22
abbrev N_is_below : List Str := ["one", "other"]
theorem sc_is_below : FnScope N_is_below ["one", "other"] (defScope s_is_below) := ⟨rfl, rfl, rfl, by decide +kernel, rfl, by decide +kernel, by decide +kernel⟩
abbrev s_l_deck : Stmt := topS 24
abbrev N_l_deck : List Str := ["_law_script", "_law_cell"]
theorem sc_l_deck : FnScope N_l_deck ["_law_script"] (defScope s_l_deck) := ⟨rfl, rfl, rfl, by decide +kernel, rfl, by decide +kernel, by decide +kernel⟩
abbrev s_l_pick : Stmt := topS 25
abbrev N_l_pick : List Str := ["_law_deck_here", "_law_many", "_law_found", "_law_cells", "_law_cell", "_law_number"]
theorem sc_l_pick : FnScope N_l_pick ["_law_deck_here", "_law_many"] (defScope s_l_pick) := ⟨rfl, rfl, rfl, by decide +kernel, rfl, by decide +kernel, by decide +kernel⟩
abbrev s_l_divisor : Stmt := topS 26
abbrev N_l_divisor : List Str := ["_law_one", "_law_other", "_law_turn", "_law_rest"]
theorem sc_l_divisor : FnScope N_l_divisor ["_law_one", "_law_other"] (defScope s_l_divisor) := ⟨rfl, rfl, rfl, by decide +kernel, rfl, by decide +kernel, by decide +kernel⟩
abbrev s_l_fraction : Stmt := topS 27
abbrev N_l_fraction : List Str := ["_law_deck_here", "_law_sort", "_law_size", "_law_top", "_law_bottom", "_law_part", "_law_divisor_here"]
theorem sc_l_fraction : FnScope N_l_fraction ["_law_deck_here"] (defScope s_l_fraction) := ⟨rfl, rfl, rfl, by decide +kernel, rfl, by decide +kernel, by decide +kernel⟩
abbrev s_l_is_it : Stmt := topS 28
abbrev N_l_is_it : List Str := ["_law_thing", "_law_top", "_law_bottom", "_law_item"]
theorem sc_l_is_it : FnScope N_l_is_it ["_law_thing", "_law_top", "_law_bottom"] (defScope s_l_is_it) := ⟨rfl, rfl, rfl, by decide +kernel, rfl, by decide +kernel, by decide +kernel⟩
abbrev s_l_is_flag : Stmt := topS 29
abbrev N_l_is_flag : List Str := ["_law_flag", "_law_due"]
theorem sc_l_is_flag : FnScope N_l_is_flag ["_law_flag", "_law_due"] (defScope s_l_is_flag) := ⟨rfl, rfl, rfl, by decide +kernel, rfl, by decide +kernel, by decide +kernel⟩
abbrev s_l_are_reckoned : Stmt := topS 30
abbrev N_l_are_reckoned : List Str := ["_law_one", "_law_other"]
theorem sc_l_are_reckoned : FnScope N_l_are_reckoned ["_law_one", "_law_other"] (defScope s_l_are_reckoned) := ⟨rfl, rfl, rfl, by decide +kernel, rfl, by decide +kernel, by decide +kernel⟩
abbrev s_law : Stmt := topS 31
abbrev N_law : List Str := ["_law_script", "_law_deck_here", "_law_turn", "_law_one", "_law_other", "_law_third"]
theorem sc_law : FnScope N_law ["_law_script"] (defScope s_law) := ⟨rfl, rfl, rfl, by decide +kernel, rfl, by decide +kernel, by decide +kernel⟩
structure Txt (K : PySem.W.Frag) (mg : Str → Option Value) (f_is_integer f_is_fraction f_lowest f_added f_negated f_lessened f_multiplied f_divided f_lies_below f_fraction f_check_both f_plus f_minus f_times f_over f_is_below f_l_deck f_l_pick f_l_divisor f_l_fraction f_l_is_it f_l_is_flag f_l_are_reckoned f_law : Addr) (d_is_integer d_is_fraction d_lowest d_added d_negated d_lessened d_multiplied d_divided d_lies_below d_fraction d_check_both d_plus d_minus d_times d_over d_is_below d_l_deck d_l_pick d_l_divisor d_l_fraction d_l_is_it d_l_is_flag d_l_are_reckoned d_law : FuncData) : Prop where
  z_abs : mg "abs" = none
  z_bool : mg "bool" = none
  z_int : mg "int" = none
  z_isinstance : mg "isinstance" = none
  z_len : mg "len" = none
  z_min : mg "min" = none
  z_range : mg "range" = none
  z_tuple : mg "tuple" = none
  m_gcd : mg "gcd" = some (.builtin "math.gcd")
  g_is_integer : mg "is_integer" = some (.ref f_is_integer)
  F_is_integer : Fun K "is_integer" "is_integer" s_is_integer f_is_integer d_is_integer
  k_is_integer : PySem.W.keepIn K (.ref f_is_integer) = true
  b_is_integer : Binds K d_is_integer ["thing"] []
  g_is_fraction : mg "is_fraction" = some (.ref f_is_fraction)
  F_is_fraction : Fun K "is_fraction" "is_fraction" s_is_fraction f_is_fraction d_is_fraction
  k_is_fraction : PySem.W.keepIn K (.ref f_is_fraction) = true
  b_is_fraction : Binds K d_is_fraction ["thing"] []
  g_lowest : mg "lowest" = some (.ref f_lowest)
  F_lowest : Fun K "lowest" "lowest" s_lowest f_lowest d_lowest
  k_lowest : PySem.W.keepIn K (.ref f_lowest) = true
  b_lowest : Binds K d_lowest ["top", "bottom"] []
  g_added : mg "added" = some (.ref f_added)
  F_added : Fun K "added" "added" s_added f_added d_added
  k_added : PySem.W.keepIn K (.ref f_added) = true
  b_added : Binds K d_added ["one", "other"] []
  g_negated : mg "negated" = some (.ref f_negated)
  F_negated : Fun K "negated" "negated" s_negated f_negated d_negated
  k_negated : PySem.W.keepIn K (.ref f_negated) = true
  b_negated : Binds K d_negated ["one"] []
  g_lessened : mg "lessened" = some (.ref f_lessened)
  F_lessened : Fun K "lessened" "lessened" s_lessened f_lessened d_lessened
  k_lessened : PySem.W.keepIn K (.ref f_lessened) = true
  b_lessened : Binds K d_lessened ["one", "other"] []
  g_multiplied : mg "multiplied" = some (.ref f_multiplied)
  F_multiplied : Fun K "multiplied" "multiplied" s_multiplied f_multiplied d_multiplied
  k_multiplied : PySem.W.keepIn K (.ref f_multiplied) = true
  b_multiplied : Binds K d_multiplied ["one", "other"] []
  g_divided : mg "divided" = some (.ref f_divided)
  F_divided : Fun K "divided" "divided" s_divided f_divided d_divided
  k_divided : PySem.W.keepIn K (.ref f_divided) = true
  b_divided : Binds K d_divided ["one", "other"] []
  g_lies_below : mg "lies_below" = some (.ref f_lies_below)
  F_lies_below : Fun K "lies_below" "lies_below" s_lies_below f_lies_below d_lies_below
  k_lies_below : PySem.W.keepIn K (.ref f_lies_below) = true
  b_lies_below : Binds K d_lies_below ["one", "other"] []
  g_fraction : mg "fraction" = some (.ref f_fraction)
  F_fraction : Fun K "fraction" "fraction" s_fraction f_fraction d_fraction
  k_fraction : PySem.W.keepIn K (.ref f_fraction) = true
  b_fraction : Binds K d_fraction ["top", "bottom"] []
  g_check_both : mg "check_both" = some (.ref f_check_both)
  F_check_both : Fun K "check_both" "check_both" s_check_both f_check_both d_check_both
  k_check_both : PySem.W.keepIn K (.ref f_check_both) = true
  b_check_both : Binds K d_check_both ["one", "other"] []
  g_plus : mg "plus" = some (.ref f_plus)
  F_plus : Fun K "plus" "plus" s_plus f_plus d_plus
  k_plus : PySem.W.keepIn K (.ref f_plus) = true
  b_plus : Binds K d_plus ["one", "other"] []
  g_minus : mg "minus" = some (.ref f_minus)
  F_minus : Fun K "minus" "minus" s_minus f_minus d_minus
  k_minus : PySem.W.keepIn K (.ref f_minus) = true
  b_minus : Binds K d_minus ["one", "other"] []
  g_times : mg "times" = some (.ref f_times)
  F_times : Fun K "times" "times" s_times f_times d_times
  k_times : PySem.W.keepIn K (.ref f_times) = true
  b_times : Binds K d_times ["one", "other"] []
  g_over : mg "over" = some (.ref f_over)
  F_over : Fun K "over" "over" s_over f_over d_over
  k_over : PySem.W.keepIn K (.ref f_over) = true
  b_over : Binds K d_over ["one", "other"] []
  g_is_below : mg "is_below" = some (.ref f_is_below)
  F_is_below : Fun K "is_below" "is_below" s_is_below f_is_below d_is_below
  k_is_below : PySem.W.keepIn K (.ref f_is_below) = true
  b_is_below : Binds K d_is_below ["one", "other"] []
  g_l_deck : mg "_law_deck" = some (.ref f_l_deck)
  F_l_deck : Fun K "_law_deck" "_law_deck" s_l_deck f_l_deck d_l_deck
  k_l_deck : PySem.W.keepIn K (.ref f_l_deck) = true
  b_l_deck : Binds K d_l_deck ["_law_script"] []
  g_l_pick : mg "_law_pick" = some (.ref f_l_pick)
  F_l_pick : Fun K "_law_pick" "_law_pick" s_l_pick f_l_pick d_l_pick
  k_l_pick : PySem.W.keepIn K (.ref f_l_pick) = true
  b_l_pick : Binds K d_l_pick ["_law_deck_here", "_law_many"] []
  g_l_divisor : mg "_law_divisor" = some (.ref f_l_divisor)
  F_l_divisor : Fun K "_law_divisor" "_law_divisor" s_l_divisor f_l_divisor d_l_divisor
  k_l_divisor : PySem.W.keepIn K (.ref f_l_divisor) = true
  b_l_divisor : Binds K d_l_divisor ["_law_one", "_law_other"] []
  g_l_fraction : mg "_law_fraction" = some (.ref f_l_fraction)
  F_l_fraction : Fun K "_law_fraction" "_law_fraction" s_l_fraction f_l_fraction d_l_fraction
  k_l_fraction : PySem.W.keepIn K (.ref f_l_fraction) = true
  b_l_fraction : Binds K d_l_fraction ["_law_deck_here"] []
  g_l_is_it : mg "_law_is_it" = some (.ref f_l_is_it)
  F_l_is_it : Fun K "_law_is_it" "_law_is_it" s_l_is_it f_l_is_it d_l_is_it
  k_l_is_it : PySem.W.keepIn K (.ref f_l_is_it) = true
  b_l_is_it : Binds K d_l_is_it ["_law_thing", "_law_top", "_law_bottom"] []
  g_l_is_flag : mg "_law_is_flag" = some (.ref f_l_is_flag)
  F_l_is_flag : Fun K "_law_is_flag" "_law_is_flag" s_l_is_flag f_l_is_flag d_l_is_flag
  k_l_is_flag : PySem.W.keepIn K (.ref f_l_is_flag) = true
  b_l_is_flag : Binds K d_l_is_flag ["_law_flag", "_law_due"] []
  g_l_are_reckoned : mg "_law_are_reckoned" = some (.ref f_l_are_reckoned)
  F_l_are_reckoned : Fun K "_law_are_reckoned" "_law_are_reckoned" s_l_are_reckoned f_l_are_reckoned d_l_are_reckoned
  k_l_are_reckoned : PySem.W.keepIn K (.ref f_l_are_reckoned) = true
  b_l_are_reckoned : Binds K d_l_are_reckoned ["_law_one", "_law_other"] []
  g_law : mg "law" = some (.ref f_law)
  F_law : Fun K "law" "law" s_law f_law d_law
  k_law : PySem.W.keepIn K (.ref f_law) = true
  b_law : Binds K d_law ["_law_script"] []
end My
/-! the steps of a reading, one after another; side conditions come last -/
local macro_rules | `(tactic| walk_at "hp") => `(tactic| (repeat (first | (with_reducible assumption) | (with_reducible exact L2.upd_same) | (refine (L2.upd_ne (by first | assumption | (apply Ne.symm; assumption))).trans ?_))))
local macro_rules | `(tactic| walk_at "sd") => `(tactic| first | assumption | decide | omega | (exact My.cpow_of (by decide)) | (exact My.cdivx (b := 64) (by decide) (by decide) (by decide)) | (exact My.cdivx (by omega) (by assumption) (by decide)))
local macro_rules | `(tactic| walk_at "rX") => `(tactic| fail)
local macro_rules | `(tactic| walk_at "rV") => `(tactic| first
  | (with_reducible refine My.rd_C ?_)
  | ((with_reducible refine' My.rd_var ?k1 ?_); (case k1 => rfl))
  | (with_reducible refine My.rd_op ?_) | (with_reducible refine My.rd_cons ?_) | (with_reducible refine My.rd_nil ?_) | (with_reducible refine My.rd_CB ?_) | (with_reducible refine My.rd_call ?_)
  | (with_reducible refine My.rd_rI0 ?_)
  | (with_reducible refine My.rd_rI ?_ (by walk_at "sd"))
  | (with_reducible refine My.rd_rI ?_ ?_)
  | ((with_reducible refine' My.rd_ixL ?k1 ?k2 ?_); (case k1 => walk_at "hp"); (case k2 => rfl))
  | ((with_reducible refine' My.rd_ixT ?k1 ?k2 ?_); (case k1 => walk_at "hp"); (case k2 => rfl))
  | (with_reducible refine My.rd_un ?_) | (with_reducible refine My.rd_rU ?_)
  | (with_reducible refine My.rd_eqI ?_) | (with_reducible refine My.rd_neI ?_) | (with_reducible refine My.rd_eqB ?_) | (with_reducible refine My.rd_neB ?_)
  | (with_reducible refine My.rd_gcd ?_) | (with_reducible refine My.rd_bits ?_)
  | ((with_reducible refine' My.rd_lenL ?_ ?k1); (case k1 => walk_at "hp"))
  | ((with_reducible refine' My.rd_lenT ?_ ?k1); (case k1 => walk_at "hp"))
  | (with_reducible refine My.rd_int ?_) | (with_reducible refine My.rd_abs ?_) | (with_reducible refine My.rd_min ?_) | (with_reducible refine My.rd_intB ?_)
  | (with_reducible refine ⟨_, rfl, ?_⟩)
  | (with_reducible refine My.rd_len ?_ rfl)
  | (with_reducible refine My.rd_tup ?_) | (with_reducible refine My.rd_lst ?_)
  | (with_reducible refine My.isi_int_int ?_) | (with_reducible refine My.isi_int_bool ?_) | (with_reducible refine My.isi_bl_bool ?_)
  | ((with_reducible refine' My.isi_tup_tup ?k1 ?_); (case k1 => walk_at "hp"))
  | (with_reducible refine My.rd_isBl ?_))
local macro_rules | `(tactic| walk_at "rS") => `(tactic| first
  | (with_reducible refine My.rd_seq ?_) | (with_reducible refine My.rd_next ?_) | (with_reducible refine My.rd_asg ?_) | (with_reducible refine My.rd_gName ?_) | (with_reducible refine My.rd_ret ?_)
  | (with_reducible refine My.rd_ifS ?_) | (with_reducible refine My.rd_test ?_) | (with_reducible refine My.rd_B ?_) | (with_reducible refine My.rd_not ?_) | (with_reducible refine My.rd_and ?_) | (with_reducible refine My.rd_or ?_)
  | (with_reducible refine My.rd_andV ?_) | (with_reducible refine My.rd_orV ?_) | (with_reducible refine My.rd_notV ?_) | (with_reducible refine My.rd_ifE ?_) | (with_reducible refine My.rd_chain ?_)
  | (with_reducible refine My.rd_gSub ?_) | ((with_reducible refine' My.rd_setL ?k1 ?k2 ?_); (case k1 => walk_at "hp"); (case k2 => rfl))
  | ((with_reducible refine' My.rd_gTup ?k1 ?k2 ?_); (case k1 => walk_at "hp"); (case k2 => rfl)) | (with_reducible refine My.rd_gCons ?_) | (with_reducible refine My.rd_gNil ?_)
  | (with_reducible refine My.rd_drop ?_) | (with_reducible refine My.rd_for ?_) | (with_reducible refine My.rd_rng1 ?_) | (with_reducible refine My.rd_itL ?_) | (with_reducible refine My.rd_itT ?_)
  | (with_reducible refine My.rd_sl ?_) | (with_reducible refine My.rd_part ?_) | (with_reducible refine My.rd_nopart ?_) | (with_reducible refine My.rd_bm ?_) | (with_reducible refine My.rd_yes ?_) | (with_reducible refine My.rd_lc ?_)
  | (with_reducible refine My.ite_nt ?_) | (with_reducible refine My.ite_nf ?_)
  | (with_reducible refine L2.iteF ?_) | (with_reducible refine L2.iteT ?_))
local macro_rules | `(tactic| walk_at "dc") => `(tactic| first | assumption | (exact rfl) | omega | decide)
local macro_rules | `(tactic| walk_at "rI") => `(tactic| first
  | ((with_reducible refine' My.if_T ?k1 ?_); (case k1 => walk_at "dc"))
  | ((with_reducible refine' My.if_F ?k1 ?_); (case k1 => walk_at "dc"))
  | ((with_reducible refine' My.if_nF ?k1 ?_); (case k1 => walk_at "dc"))
  | ((with_reducible refine' My.if_nT ?k1 ?_); (case k1 => walk_at "dc")))
local macro_rules | `(tactic| walk_at "r") => `(tactic| (repeat (first | (walk_at "rV") | (walk_at "rS") | (walk_at "rI") | (walk_at "rX"))))
local macro_rules | `(tactic| walk_at "if") => `(tactic| first | (with_reducible refine My.if_dec (fun h => ?_) (fun h => ?_)) | (with_reducible refine My.if_ndec (fun h => ?_) (fun h => ?_)))
local macro_rules | `(tactic| walk_at "st") => `(tactic| (set_option pp.maxSteps 150 in trace_state))
namespace My
open PySem PySem.Spec PyProof.Rows L2
section
variable {P : Program} {w : World} {K : PySem.W.Frag} {mg : Str → Option Value} {base : Heap} {f_is_integer f_is_fraction f_lowest f_added f_negated f_lessened f_multiplied f_divided f_lies_below f_fraction f_check_both f_plus f_minus f_times f_over f_is_below f_l_deck f_l_pick f_l_divisor f_l_fraction f_l_is_it f_l_is_flag f_l_are_reckoned f_law : Addr} {d_is_integer d_is_fraction d_lowest d_added d_negated d_lessened d_multiplied d_divided d_lies_below d_fraction d_check_both d_plus d_minus d_times d_over d_is_below d_l_deck d_l_pick d_l_divisor d_l_fraction d_l_is_it d_l_is_flag d_l_are_reckoned d_law : FuncData}
def sp_pick (M : Nat) : Sp := fun vs H Q _ => ∃ (D : Addr) (many : Int) (c : Nat), vs = [.ref D, .int many] ∧ (0 < many ∧ many.natAbs < 2 ^ 64) ∧ Deck M D H c ∧ c ≤ 2 ^ 40 ∧
  ∀ H' r, Fw D H H' → Deck M D H' (c + 1) → 0 ≤ r → r < many → Q (.int r) H'
theorem ok_pick {M : Nat} (hM : 64 ≤ M) (hM2 : M ≤ 1048576) (T : Txt K mg f_is_integer f_is_fraction f_lowest f_added f_negated f_lessened f_multiplied f_divided f_lies_below f_fraction f_check_both f_plus f_minus f_times f_over f_is_below f_l_deck f_l_pick f_l_divisor f_l_fraction f_l_is_it f_l_is_flag f_l_are_reckoned f_law d_is_integer d_is_fraction d_lowest d_added d_negated d_lessened d_multiplied d_divided d_lies_below d_fraction d_check_both d_plus d_minus d_times d_over d_is_below d_l_deck d_l_pick d_l_divisor d_l_fraction d_l_is_it d_l_is_flag d_l_are_reckoned d_law) : FnOk P w K mg base CX0 1 f_l_pick d_l_pick ["_law_deck_here", "_law_many"] (sp_pick M) := by
  refine T.F_l_pick.ok sc_l_pick (fun vs H Q E h => ?_) (fun cdv A outer s H vs Q E hr h => ?_)
  · obtain ⟨D, many, c, rfl, _⟩ := h
    rfl
  · obtain ⟨D, many, c, rfl, ⟨hm0, hm1⟩, ⟨C, cells, pl, rest, cnt, hCD, hD, hC, hlen, hb, ⟨hr0, hr1⟩, hc0, hc1⟩, hc, q⟩ := h
    have cd : ∀ i : Int, CDivX i many := fun i => cdivx (by omega) hm1 (by decide)
    refine ⟨_, (pss_cons (ps_asg (pe_op op_add (pe_ix ix_list (pv 0) pe_int (fun _ _ => rfl)) pe_int) (pg_sub (pv 0) pe_int set_list))
      (pss_cons (ps_if (pt_cmpR op_gt (pe_ix ix_list (pv 0) pe_int (fun _ _ => rfl)) pe_int (nomark _))
        (pss_cons (ps_set (i := 2) sc_l_pick.nd rfl (Or.inl rfl) (pe_op op_mod (pe_callTy call_intN (by rfl) T.z_int (by decide +kernel) (pa_cons (pe_ix ix_list (pv 0) pe_int (fun _ _ => rfl)) pa_nil)) (pv 1)))
          (pss_cons (ps_asg (pe_op op_fdivX (pe_callTy call_intN (by rfl) T.z_int (by decide +kernel) (pa_cons (pe_ix ix_list (pv 0) pe_int (fun _ _ => rfl)) pa_nil)) (pv 1)) (pg_sub (pv 0) pe_int set_list))
          (pss_one (ps_ret (pv 2)))))
        pss_nil)
      (pss_cons (ps_set (i := 3) sc_l_pick.nd rfl (Or.inl rfl) (pe_ix ix_list (pv 0) pe_int (fun _ _ => rfl)))
      (pss_cons (ps_set (i := 4) sc_l_pick.nd rfl (Or.inl rfl) pe_int)
      (pss_cons (ps_if (pt_cmpR op_gt (pe_callB call_lenN (by rfl) T.z_len (by decide +kernel) (pa_cons (pv 3) pa_nil)) pe_int (nomark _))
        (pss_one (ps_set (i := 4) sc_l_pick.nd rfl (Or.inl rfl) (pe_ix ix_list (pv 3) (pe_op op_mod (pe_callTy call_intN (by rfl) T.z_int (by decide +kernel) (pa_cons (pe_ix ix_list (pv 0) pe_int (fun _ _ => rfl)) pa_nil)) (pe_callB call_lenN (by rfl) T.z_len (by decide +kernel) (pa_cons (pv 3) pa_nil))) (fun _ _ => rfl))))
        pss_nil)
      (pss_cons (ps_asg (pe_op op_add (pe_ix ix_list (pv 0) pe_int (fun _ _ => rfl)) pe_int) (pg_sub (pv 0) pe_int set_list))
      (pss_cons (ps_if (PW.pt (pw_and (pt_cmpR op_ge (pv 4) (pe_op op_pow pe_int pe_int) (nomark _)) (pw_and1 (pt_cmpR op_le (pe_ix ix_list (pv 0) pe_int (fun _ _ => rfl)) (pe_callB call_lenN (by rfl) T.z_len (by decide +kernel) (pa_cons (pv 3) pa_nil)) (nomark _)))))
        (pss_cons (ps_asg (pe_op op_fdivX (pe_callTy call_intN (by rfl) T.z_int (by decide +kernel) (pa_cons (pv 4) pa_nil)) (pv 1)) (pg_sub (pv 0) pe_int set_list))
          (pss_one (ps_ret (pe_op op_mod (pe_callTy call_intN (by rfl) T.z_int (by decide +kernel) (pa_cons (pv 4) pa_nil)) (pv 1)))))
        pss_nil)
      (pss_cons (ps_set (i := 5) sc_l_pick.nd rfl (Or.inl rfl) (pe_op op_mod (pe_op op_mulX (pe_callTy call_intN (by rfl) T.z_int (by decide +kernel) (pa_cons (pe_op op_add (pe_op op_add (pv 4) (pe_op op_mulX pe_int (pe_ix ix_list (pv 0) pe_int (fun _ _ => rfl)))) pe_int) pa_nil)) pe_int) pe_int))
      (pss_cons (ps_set (i := 5) sc_l_pick.nd rfl (Or.inl rfl) (pe_op op_mod (pe_op op_mulX (pv 5) (pe_op op_add (pe_op op_fdivX (pv 5) pe_int) pe_int)) pe_int))
      (pss_cons (ps_set (i := 5) sc_l_pick.nd rfl (Or.inl rfl) (pe_op op_mod (pe_op op_mulX (pv 5) (pe_op op_add (pe_op op_fdivX (pv 5) pe_int) pe_int)) pe_int))
      (pss_one (ps_ret (pe_op op_mod (pv 5) (pv 1)))))))))))))), ?_⟩
    walk_at "r"
    walk_at "if"
    · walk_at "r"
      refine q _ _ (fw_upd.trans fw_upd) ?_ (mod_rng _ hm0).1 (mod_rng _ hm0).2
      exact ⟨C, cells, pl, rest.fdiv many, cnt + 1, hCD, upd_same, by walk_at "hp", hlen, hb, div_small hr0 hr1 hm0, by omega, by omega⟩
    · walk_at "r"
      have hcl : 0 < (cells.map V.int).length → ∃ z, z ∈ cells ∧ atI (cells.map V.int) (pl % ((cells.map V.int).length : Nat)) = some (.int z) := fun h => at_ints (mod_rng _ (by omega)).1 (mod_rng _ (by omega)).2
      have hz0 : (0 : Int).natAbs < 2 ^ M := Nat.two_pow_pos M
      walk_at "if"
      · obtain ⟨z, hz, ez⟩ := hcl (by omega)
        have hz0 := hb z hz
        walk_at "r"
        refine ⟨_, _, _, .int z, rfl, rfl, SqL.of ?_, ez, ?_⟩
        · walk_at "hp"
        walk_at "r"
        walk_at "if"
        · walk_at "r"
          walk_at "if"
          · walk_at "r"
            have t18 := ten18
            refine q _ _ ((fw_upd.trans fw_upd).trans fw_upd) ?_ (mod_rng _ hm0).1 (mod_rng _ hm0).2
            exact ⟨C, cells, pl + 1, z.fdiv many, cnt + 1, hCD, upd_same, by walk_at "hp", hlen, hb, div_small (by omega) hz0 hm0, by omega, by omega⟩
          · walk_at "r"
            · refine q _ _ (fw_upd.trans fw_upd) ?_ (mod_rng _ hm0).1 (mod_rng _ hm0).2
              exact ⟨C, cells, pl + 1, rest, cnt + 1, hCD, upd_same, by walk_at "hp", hlen, hb, ⟨hr0, hr1⟩, by omega, by omega⟩
            · exact pick_mul2 _ (by decide) (by decide) (by decide) (by decide)
            · exact pick_mul2 _ (by decide) (by decide) (by decide) (by decide)
            · exact cmul_big (pw_big hz0 hM hc0 hc1 hc) (by decide) (by omega)
            · exact cmul_small (by decide) (by omega)
        · walk_at "r"
          · refine q _ _ (fw_upd.trans fw_upd) ?_ (mod_rng _ hm0).1 (mod_rng _ hm0).2
            exact ⟨C, cells, pl + 1, rest, cnt + 1, hCD, upd_same, by walk_at "hp", hlen, hb, ⟨hr0, hr1⟩, by omega, by omega⟩
          · exact pick_mul2 _ (by decide) (by decide) (by decide) (by decide)
          · exact pick_mul2 _ (by decide) (by decide) (by decide) (by decide)
          · exact cmul_big (pw_big hz0 hM hc0 hc1 hc) (by decide) (by omega)
          · exact cmul_small (by decide) (by omega)
      · walk_at "r"
        · refine q _ _ (fw_upd.trans fw_upd) ?_ (mod_rng _ hm0).1 (mod_rng _ hm0).2
          exact ⟨C, cells, pl + 1, rest, cnt + 1, hCD, upd_same, by walk_at "hp", hlen, hb, ⟨hr0, hr1⟩, by omega, by omega⟩
        · exact pick_mul2 _ (by decide) (by decide) (by decide) (by decide)
        · exact pick_mul2 _ (by decide) (by decide) (by decide) (by decide)
        · exact cmul_big (pw_big hz0 hM hc0 hc1 hc) (by decide) (by omega)
        · exact cmul_small (by decide) (by omega)
end
end My
namespace My
open PySem PySem.Spec PyProof.Rows L2
section
variable {P : Program} {w : World} {K : PySem.W.Frag} {mg : Str → Option Value} {base : Heap} {f_is_integer f_is_fraction f_lowest f_added f_negated f_lessened f_multiplied f_divided f_lies_below f_fraction f_check_both f_plus f_minus f_times f_over f_is_below f_l_deck f_l_pick f_l_divisor f_l_fraction f_l_is_it f_l_is_flag f_l_are_reckoned f_law : Addr} {d_is_integer d_is_fraction d_lowest d_added d_negated d_lessened d_multiplied d_divided d_lies_below d_fraction d_check_both d_plus d_minus d_times d_over d_is_below d_l_deck d_l_pick d_l_divisor d_l_fraction d_l_is_it d_l_is_flag d_l_are_reckoned d_law : FuncData}
def sp_deck (K : PySem.W.Frag) : Sp := fun vs H Q _ => ∃ (a : Addr) (ns : List Int), vs = [.ref a] ∧ SqL K H a (ns.map V.int) ∧ ns.length ≤ 63 ∧ (∀ z ∈ ns, Builtin.Int.intBits z ≤ 1048576) ∧
  ∀ H' D, Same H H' → Deck 1048576 D H' 0 → Q (.ref D) H'
theorem ok_l_deck (T : Txt K mg f_is_integer f_is_fraction f_lowest f_added f_negated f_lessened f_multiplied f_divided f_lies_below f_fraction f_check_both f_plus f_minus f_times f_over f_is_below f_l_deck f_l_pick f_l_divisor f_l_fraction f_l_is_it f_l_is_flag f_l_are_reckoned f_law d_is_integer d_is_fraction d_lowest d_added d_negated d_lessened d_multiplied d_divided d_lies_below d_fraction d_check_both d_plus d_minus d_times d_over d_is_below d_l_deck d_l_pick d_l_divisor d_l_fraction d_l_is_it d_l_is_flag d_l_are_reckoned d_law) : FnOk P w K mg base CX0 1 f_l_deck d_l_deck ["_law_script"] (sp_deck K) := by
  refine T.F_l_deck.ok sc_l_deck (fun vs H Q E h => ?_) (fun cdv A outer s H vs Q E hr h => ?_)
  · obtain ⟨a, ns, rfl, _⟩ := h
    rfl
  · obtain ⟨a, ns, rfl, hS, hl, hb, q⟩ := h
    refine ⟨_, (pss_one (ps_ret (pe_lst (pa_cons (pe_lc (own := [("_law_cell", 1)]) (g := gName 1) rfl sc_l_deck.nd (pi_list (pe_slice sl_list (pv 0) po_none (po_some pe_int))) (blkOk_by (own := [("_law_cell", 1)]) (N := N_l_deck) (sc := defScope s_l_deck) (by decide +kernel)) (fun _ _ _ _ _ => pg_name (i := 1) sc_l_deck.nd rfl (Or.inl rfl)) (fun _ _ _ _ _ => pts_nil) (fun _ _ _ _ _ => (pe_callTy call_intN (by rfl) T.z_int (by decide +kernel) (pa_cons (pv 1) pa_nil)))) (pa_cons pe_int (pa_cons pe_int (pa_cons pe_int pa_nil))))))), ?_⟩
    walk_at "r"
    refine rd_slL hS (fun p np => ?_)
    refine ⟨_, rfl, ⟨_, .of upd_same⟩, fun D nD => ?_⟩
    have hDp : D ≠ p := fun e => by
      rw [e, upd_same] at nD
      cases nD
    have hcut : cutV (ns.map V.int) none (some 63) = ns.map V.int := cut_all (n := 63) (by rw [List.length_map]; exact hl)
    refine lc_list (K := K) (a := p) (xs := ns.map V.int) (fun i H' => Same H H' ∧ H' p = some (.lst (ns.map V.int)) ∧ H' D = some (.lst ((ns.take i).map V.int))) ?_ ?_ ?_ ?_
    · refine ⟨(same_upd np).trans (same_upd nD), ?_, upd_same⟩
      rw [upd_ne hDp.symm, upd_same, hcut]
    · intro i H' _ h
      exact .of h.2.1
    · rintro i x H' hx ⟨s1, s2, s3⟩
      obtain ⟨z, rfl, hz, et⟩ := take_succ_map hx
      walk_at "r"
      refine ⟨rfl, ?_⟩
      walk_at "r"
      refine ⟨_, s3, ?_, fun b o e => ?_, ?_, ?_⟩
      · rw [List.length_map, List.length_take]
        exact Nat.lt_of_le_of_lt (Nat.min_le_right _ _) (small1000 (by omega))
      · have nb : b ≠ D := fun e' => by
          rw [e', (same_upd np).free nD] at e
          cases e
        rw [upd_ne nb]
        exact s1 b o e
      · rw [upd_ne hDp.symm]
        exact s2
      · rw [upd_same, et]
    · rintro H' ⟨s1, s2, s3⟩
      have hlen : (ns.map V.int).length = ns.length := List.length_map ..
      rw [hlen, List.take_of_length_le (Nat.le_refl _)] at s3
      walk_at "r"
      intro D' nD'
      have hDD : D ≠ D' := ne_of_none s3 nD'
      refine q _ _ (s1.trans (same_upd nD')) ⟨D, ns, 0, 0, 0, hDD, upd_same, ?_, hl, fun z hz => bits_lt (hb z hz), ⟨by decide, Nat.two_pow_pos _⟩, by decide, by decide⟩
      rw [upd_ne hDD]
      exact s3
def sp_divisor : Sp := fun vs H Q _ => ∃ a b : Int, vs = [.int a, .int b] ∧ b.natAbs < 2 ^ 20000 ∧ Q (.int (a.natAbs.gcd b.natAbs : Nat)) H
theorem ok_l_divisor (T : Txt K mg f_is_integer f_is_fraction f_lowest f_added f_negated f_lessened f_multiplied f_divided f_lies_below f_fraction f_check_both f_plus f_minus f_times f_over f_is_below f_l_deck f_l_pick f_l_divisor f_l_fraction f_l_is_it f_l_is_flag f_l_are_reckoned f_law d_is_integer d_is_fraction d_lowest d_added d_negated d_lessened d_multiplied d_divided d_lies_below d_fraction d_check_both d_plus d_minus d_times d_over d_is_below d_l_deck d_l_pick d_l_divisor d_l_fraction d_l_is_it d_l_is_flag d_l_are_reckoned d_law) : FnOk P w K mg base CX0 1 f_l_divisor d_l_divisor ["_law_one", "_law_other"] sp_divisor := by
  refine T.F_l_divisor.ok sc_l_divisor (fun vs H Q E h => ?_) (fun cdv A outer s H vs Q E hr h => ?_)
  · obtain ⟨a, b, rfl, _⟩ := h
    rfl
  · obtain ⟨a, b, rfl, hb, q⟩ := h
    have hbits : Builtin.Int.intBits (b.natAbs : Nat) ≤ 20000 := by
      have h := PyProof.Rows.intBits_le (a := (b.natAbs : Int)) (by rw [Int.natAbs_natCast]; exact hb)
      exact h
    have hlt := bits_lt (z := (b.natAbs : Int)) (Nat.le_refl _)
    rw [Int.natAbs_natCast] at hlt
    refine ⟨_, (pss_cons (ps_set (i := 0) sc_l_divisor.nd rfl (Or.inl rfl) (pe_callB call_absN (by rfl) T.z_abs (by decide +kernel) (pa_cons (pv 0) pa_nil)))
      (pss_cons (ps_set (i := 1) sc_l_divisor.nd rfl (Or.inl rfl) (pe_callB call_absN (by rfl) T.z_abs (by decide +kernel) (pa_cons (pv 1) pa_nil)))
      (pss_cons (ps_for PassesOwn.never rfl (pi_range1 (by rfl) T.z_range (pa_cons (pe_op op_add (pe_op op_mulX pe_int (pe_bits (pv 1))) pe_int) pa_nil)) (pg_name (i := 2) sc_l_divisor.nd rfl (Or.inl rfl))
        (pss_cons (ps_if (pt_cmpR op_eq (pv 1) pe_int (nomark _))
            (pss_one (ps_ret (pv 0)))
            pss_nil)
          (pss_cons (ps_set (i := 3) sc_l_divisor.nd rfl (Or.inl rfl) (pe_op op_mod (pe_callTy call_intN (by rfl) T.z_int (by decide +kernel) (pa_cons (pv 0) pa_nil)) (pv 1)))
          (pss_cons (ps_set (i := 0) sc_l_divisor.nd rfl (Or.inl rfl) (pv 1))
          (pss_one (ps_set (i := 1) sc_l_divisor.nd rfl (Or.inl rfl) (pv 3)))))))
      (pss_one (ps_ret (pv 0)))))), ?_⟩
    walk_at "r"
    · refine ⟨by omega, by omega, ?_⟩
      generalize Builtin.Int.intBits (b.natAbs : Int) = k at *
      have hN : (2 * (k : Int) + 2).toNat = 2 * k + 2 := by omega
      rw [hN]
      refine for_range (lo := 0) (n := 2 * k + 2) (fun i σ H' => ∃ (x y : Nat) (t r : Option V), σ = [some (.int x), some (.int y), t, r] ∧ H' = H ∧ Euc (a.natAbs.gcd b.natAbs) b.natAbs i x y) ?_ ?_ ?_
      · exact ⟨a.natAbs, b.natAbs, none, none, rfl, rfl, ⟨rfl, by simp, fun h => absurd rfl h⟩⟩
      · rintro i σ H' hi ⟨x, y, t, r, rfl, rfl, e⟩
        walk_at "r"
        walk_at "if"
        · rename_i hy
          have hy0 : y = 0 := by omega
          have g := e.g
          rw [hy0, Nat.gcd_zero_right] at g
          walk_at "r"
          rw [g]
          exact q
        · rename_i hy
          walk_at "r"
          exact ⟨y, x % y, _, _, rfl, rfl, e.step (by omega)⟩
      · rintro σ H' ⟨x, y, t, r, rfl, rfl, e⟩
        obtain ⟨_, hx⟩ := e.done hlt
        walk_at "r"
        rw [hx]
        exact q
    · exact cmul_small (by decide) (by omega)
end
end My
namespace My
open PySem PySem.Spec PyProof.Rows L2
section
variable {P : Program} {w : World} {K : PySem.W.Frag} {mg : Str → Option Value} {base : Heap} {f_is_integer f_is_fraction f_lowest f_added f_negated f_lessened f_multiplied f_divided f_lies_below f_fraction f_check_both f_plus f_minus f_times f_over f_is_below f_l_deck f_l_pick f_l_divisor f_l_fraction f_l_is_it f_l_is_flag f_l_are_reckoned f_law : Addr} {d_is_integer d_is_fraction d_lowest d_added d_negated d_lessened d_multiplied d_divided d_lies_below d_fraction d_check_both d_plus d_minus d_times d_over d_is_below d_l_deck d_l_pick d_l_divisor d_l_fraction d_l_is_it d_l_is_flag d_l_are_reckoned d_law : FuncData}
def sp_is_integer : Sp := fun vs H Q _ => ∃ i : Int, vs = [.int i] ∧ Q (.bl true) H
theorem ok_is_integer (T : Txt K mg f_is_integer f_is_fraction f_lowest f_added f_negated f_lessened f_multiplied f_divided f_lies_below f_fraction f_check_both f_plus f_minus f_times f_over f_is_below f_l_deck f_l_pick f_l_divisor f_l_fraction f_l_is_it f_l_is_flag f_l_are_reckoned f_law d_is_integer d_is_fraction d_lowest d_added d_negated d_lessened d_multiplied d_divided d_lies_below d_fraction d_check_both d_plus d_minus d_times d_over d_is_below d_l_deck d_l_pick d_l_divisor d_l_fraction d_l_is_it d_l_is_flag d_l_are_reckoned d_law) : FnOk P w K mg base CX0 1 f_is_integer d_is_integer ["thing"] sp_is_integer := by
  refine T.F_is_integer.ok sc_is_integer (fun vs H Q E h => ?_) (fun cdv A outer s H vs Q E hr h => ?_)
  · obtain ⟨i, rfl, _⟩ := h
    rfl
  · obtain ⟨i, rfl, q⟩ := h
    refine ⟨_, (pss_one (ps_ret (pe_and (pe_callB call_isi (by rfl) T.z_isinstance (by decide +kernel) (pa_cons (pv 0) (pa_cons (pe_bltn (v := .ty "int") (u := .type "int") (by rfl) T.z_int (by decide +kernel) rfl) pa_nil))) (pe_one (pe_not (pe_callB call_isi (by rfl) T.z_isinstance (by decide +kernel) (pa_cons (pv 0) (pa_cons (pe_bltn (v := .ty "bool") (u := .type "bool") (by rfl) T.z_bool (by decide +kernel) rfl) pa_nil)))))))), ?_⟩
    walk_at "r"
    exact q
def sp_is_fraction : Sp := fun vs H Q _ => ∃ v r, vs = [v] ∧ IsF H v r ∧ Q (.bl true) H
theorem ok_is_fraction (T : Txt K mg f_is_integer f_is_fraction f_lowest f_added f_negated f_lessened f_multiplied f_divided f_lies_below f_fraction f_check_both f_plus f_minus f_times f_over f_is_below f_l_deck f_l_pick f_l_divisor f_l_fraction f_l_is_it f_l_is_flag f_l_are_reckoned f_law d_is_integer d_is_fraction d_lowest d_added d_negated d_lessened d_multiplied d_divided d_lies_below d_fraction d_check_both d_plus d_minus d_times d_over d_is_below d_l_deck d_l_pick d_l_divisor d_l_fraction d_l_is_it d_l_is_flag d_l_are_reckoned d_law) : FnOk P w K mg base CX0 2 f_is_fraction d_is_fraction ["thing"] sp_is_fraction := by
  have G_is_integer : FnOk P w K mg base CX0 1 f_is_integer d_is_integer ["thing"] sp_is_integer := ok_is_integer T
  refine T.F_is_fraction.ok sc_is_fraction (fun vs H Q E h => ?_) (fun cdv A outer s H vs Q E hr h => ?_)
  · obtain ⟨v, r, rfl, _⟩ := h
    rfl
  · obtain ⟨v, r, rfl, ⟨p, rfl, hp⟩, q⟩ := h
    refine ⟨_, (pss_cons (ps_if (PW.pt (pw_or (pt_not (pt_val (pe_callB call_isi (by rfl) T.z_isinstance (by decide +kernel) (pa_cons (pv 0) (pa_cons (pe_bltn (v := .ty "tuple") (u := .type "tuple") (by rfl) T.z_tuple (by decide +kernel) rfl) pa_nil))))) (pw_or1 (pt_cmpR op_ne (pe_callB call_lenN (by rfl) T.z_len (by decide +kernel) (pa_cons (pv 0) pa_nil)) pe_int (nomark _)))))
        (pss_one (ps_ret pe_bl))
        pss_nil)
      (pss_cons (ps_asg (pv 0) (pg_tup rfl (pgs_cons (pg_name (i := 1) sc_is_fraction.nd rfl (Or.inl rfl)) (pgs_cons (pg_name (i := 2) sc_is_fraction.nd rfl (Or.inl rfl)) pgs_nil))))
      (pss_cons (ps_if (PW.pt (pw_or (pt_not (pt_val (pe_call G_is_integer (hr.mono (by decide)) (by rfl) T.g_is_integer T.k_is_integer T.b_is_integer .nil pass0 (pa_cons (pv 1) pa_nil)))) (pw_or1 (pt_not (pt_val (pe_call G_is_integer (hr.mono (by decide)) (by rfl) T.g_is_integer T.k_is_integer T.b_is_integer .nil pass0 (pa_cons (pv 2) pa_nil)))))))
        (pss_one (ps_ret pe_bl))
        pss_nil)
      (pss_one (ps_ret (pe_and (pe_cmpR op_ge (pv 2) pe_int (nomark _)) (pe_one (pe_cmpR op_eq (pe_callBfun cr_gcd (by rfl) T.m_gcd (pa_cons (pv 1) (pa_cons (pv 2) pa_nil))) pe_int (nomark _))))))))), ?_⟩
    walk_at "r"
    refine ⟨_, rfl, ?_⟩
    walk_at "r"
    refine ⟨_, rfl, ?_⟩
    walk_at "r"
    have h1 := den_pos r
    have h2 := gcd_den r
    walk_at "r"
    rw [Int.natAbs_natCast, h2]
    exact q
def sp_lowest : Sp := fun vs H Q _ => ∃ n d : Int, vs = [.int n, .int d] ∧ d ≠ 0 ∧ d.natAbs < 2 ^ 8000 ∧ ∀ H' v, Same H H' → IsF H' v (Rat.divInt n d) → Q v H'
theorem ok_lowest (T : Txt K mg f_is_integer f_is_fraction f_lowest f_added f_negated f_lessened f_multiplied f_divided f_lies_below f_fraction f_check_both f_plus f_minus f_times f_over f_is_below f_l_deck f_l_pick f_l_divisor f_l_fraction f_l_is_it f_l_is_flag f_l_are_reckoned f_law d_is_integer d_is_fraction d_lowest d_added d_negated d_lessened d_multiplied d_divided d_lies_below d_fraction d_check_both d_plus d_minus d_times d_over d_is_below d_l_deck d_l_pick d_l_divisor d_l_fraction d_l_is_it d_l_is_flag d_l_are_reckoned d_law) : FnOk P w K mg base CX0 1 f_lowest d_lowest ["top", "bottom"] sp_lowest := by
  refine T.F_lowest.ok sc_lowest (fun vs H Q E h => ?_) (fun cdv A outer s H vs Q E hr h => ?_)
  · obtain ⟨n, d, rfl, _⟩ := h
    rfl
  · obtain ⟨n, d, rfl, hd, hb, q⟩ := h
    have gp : 0 < n.natAbs.gcd d.natAbs := Nat.gcd_pos_of_pos_right _ (by omega)
    have gl : n.natAbs.gcd d.natAbs ≤ d.natAbs := Nat.gcd_le_right _ (by omega)
    obtain ⟨e1, e2⟩ := low_form n d hd
    refine ⟨_, (pss_cons (ps_set (i := 2) sc_lowest.nd rfl (Or.inl rfl) (pe_callBfun cr_gcd (by rfl) T.m_gcd (pa_cons (pv 0) (pa_cons (pv 1) pa_nil))))
      (pss_cons (ps_if (pt_cmpR op_lt (pv 1) pe_int (nomark _))
        (pss_one (ps_set (i := 2) sc_lowest.nd rfl (Or.inl rfl) (pe_un un_neg (pv 2))))
        pss_nil)
      (pss_one (ps_ret (pe_tup (pa_cons (pe_op op_fdivX (pv 0) (pv 2)) (pa_cons (pe_op op_fdivX (pv 1) (pv 2)) pa_nil))))))), ?_⟩
    walk_at "r"
    have d1 : ((n.natAbs.gcd d.natAbs : Nat) : Int) ∣ n := Int.ofNat_dvd_left.mpr (Nat.gcd_dvd_left ..)
    have d2 : ((n.natAbs.gcd d.natAbs : Nat) : Int) ∣ d := Int.ofNat_dvd_left.mpr (Nat.gcd_dvd_right ..)
    generalize n.natAbs.gcd d.natAbs = g at *
    have cb : ∀ i : Int, CDivX i g := fun i => cdivx (b := 8000) (by omega) (by omega) (by decide)
    have cn : ∀ i : Int, CDivX i (-(g : Int)) := fun i => cdivx (b := 8000) (by omega) (by omega) (by decide)
    walk_at "if"
    · rename_i hn
      rw [if_pos hn] at e1 e2
      walk_at "r"
      · intro p np
        exact q _ _ (same_upd np) (isF_new (by rw [e1, fdiv_dvd ((Int.neg_dvd).mpr d1)]) (by rw [e2, fdiv_dvd ((Int.neg_dvd).mpr d2)]))
      · exact cn _
      · exact cn _
    · rename_i hn
      rw [if_neg hn] at e1 e2
      walk_at "r"
      · intro p np
        exact q _ _ (same_upd np) (isF_new (by rw [e1, fdiv_dvd d1]) (by rw [e2, fdiv_dvd d2]))
      · exact cb _
      · exact cb _
/-- two fractions in, one out -/
def sp_two (f : Rat → Rat → Rat) (C : Rat → Rat → Prop) : Sp := fun vs H Q _ => ∃ x y r s, vs = [x, y] ∧ IsF H x r ∧ IsF H y s ∧ Bd 4000 r ∧ Bd 4000 s ∧ C r s ∧ ∀ H' v, Same H H' → IsF H' v (f r s) → Q v H'
def sp_added : Sp := sp_two (· + ·) fun _ _ => True
theorem ok_added (T : Txt K mg f_is_integer f_is_fraction f_lowest f_added f_negated f_lessened f_multiplied f_divided f_lies_below f_fraction f_check_both f_plus f_minus f_times f_over f_is_below f_l_deck f_l_pick f_l_divisor f_l_fraction f_l_is_it f_l_is_flag f_l_are_reckoned f_law d_is_integer d_is_fraction d_lowest d_added d_negated d_lessened d_multiplied d_divided d_lies_below d_fraction d_check_both d_plus d_minus d_times d_over d_is_below d_l_deck d_l_pick d_l_divisor d_l_fraction d_l_is_it d_l_is_flag d_l_are_reckoned d_law) : FnOk P w K mg base CX0 1 f_added d_added ["one", "other"] sp_added := by
  refine T.F_added.ok sc_added (fun vs H Q E h => ?_) (fun cdv A outer s H vs Q E hr h => ?_)
  · obtain ⟨x, y, r, s, rfl, _⟩ := h
    rfl
  · obtain ⟨x, y, r, s, rfl, ⟨p1, rfl, h1⟩, ⟨p2, rfl, h2⟩, b1, b2, -, q⟩ := h
    obtain ⟨m1, m2, m3, m4, m5, m6, m7⟩ := added_math b1 b2 _ _ _ rfl rfl rfl
    refine ⟨_, (pss_cons (ps_set (i := 2) sc_added.nd rfl (Or.inl rfl) (pe_callBfun cr_gcd (by rfl) T.m_gcd (pa_cons (pe_ix ix_tup (pv 0) pe_int (fun _ _ => rfl)) (pa_cons (pe_ix ix_tup (pv 1) pe_int (fun _ _ => rfl)) pa_nil))))
      (pss_cons (ps_set (i := 3) sc_added.nd rfl (Or.inl rfl) (pe_op op_fdivX (pe_ix ix_tup (pv 0) pe_int (fun _ _ => rfl)) (pv 2)))
      (pss_cons (ps_set (i := 4) sc_added.nd rfl (Or.inl rfl) (pe_op op_add (pe_op op_mulX (pe_ix ix_tup (pv 0) pe_int (fun _ _ => rfl)) (pe_op op_fdivX (pe_ix ix_tup (pv 1) pe_int (fun _ _ => rfl)) (pv 2))) (pe_op op_mulX (pe_ix ix_tup (pv 1) pe_int (fun _ _ => rfl)) (pv 3))))
      (pss_cons (ps_set (i := 5) sc_added.nd rfl (Or.inl rfl) (pe_callBfun cr_gcd (by rfl) T.m_gcd (pa_cons (pv 4) (pa_cons (pv 2) pa_nil))))
      (pss_one (ps_ret (pe_tup (pa_cons (pe_op op_fdivX (pv 4) (pv 5)) (pa_cons (pe_op op_mulX (pv 3) (pe_op op_fdivX (pe_ix ix_tup (pv 1) pe_int (fun _ _ => rfl)) (pv 5))) pa_nil))))))))), ?_⟩
    walk_at "r"
    · intro p np
      exact q _ _ (same_upd np) (isF_new m6 m7)
    all_goals first | assumption | exact m1 _ | exact m4 _
def sp_multiplied : Sp := sp_two (· * ·) fun _ _ => True
theorem ok_multiplied (T : Txt K mg f_is_integer f_is_fraction f_lowest f_added f_negated f_lessened f_multiplied f_divided f_lies_below f_fraction f_check_both f_plus f_minus f_times f_over f_is_below f_l_deck f_l_pick f_l_divisor f_l_fraction f_l_is_it f_l_is_flag f_l_are_reckoned f_law d_is_integer d_is_fraction d_lowest d_added d_negated d_lessened d_multiplied d_divided d_lies_below d_fraction d_check_both d_plus d_minus d_times d_over d_is_below d_l_deck d_l_pick d_l_divisor d_l_fraction d_l_is_it d_l_is_flag d_l_are_reckoned d_law) : FnOk P w K mg base CX0 1 f_multiplied d_multiplied ["one", "other"] sp_multiplied := by
  refine T.F_multiplied.ok sc_multiplied (fun vs H Q E h => ?_) (fun cdv A outer s H vs Q E hr h => ?_)
  · obtain ⟨x, y, r, s, rfl, _⟩ := h
    rfl
  · obtain ⟨x, y, r, s, rfl, ⟨p1, rfl, h1⟩, ⟨p2, rfl, h2⟩, b1, b2, -, q⟩ := h
    obtain ⟨m1, m2, m3, m4, m5, m6⟩ := mul_math b1 b2 _ _ rfl rfl
    refine ⟨_, (pss_cons (ps_set (i := 2) sc_multiplied.nd rfl (Or.inl rfl) (pe_callBfun cr_gcd (by rfl) T.m_gcd (pa_cons (pe_ix ix_tup (pv 0) pe_int (fun _ _ => rfl)) (pa_cons (pe_ix ix_tup (pv 1) pe_int (fun _ _ => rfl)) pa_nil))))
      (pss_cons (ps_set (i := 3) sc_multiplied.nd rfl (Or.inl rfl) (pe_callBfun cr_gcd (by rfl) T.m_gcd (pa_cons (pe_ix ix_tup (pv 1) pe_int (fun _ _ => rfl)) (pa_cons (pe_ix ix_tup (pv 0) pe_int (fun _ _ => rfl)) pa_nil))))
      (pss_one (ps_ret (pe_tup (pa_cons (pe_op op_mulX (pe_op op_fdivX (pe_ix ix_tup (pv 0) pe_int (fun _ _ => rfl)) (pv 2)) (pe_op op_fdivX (pe_ix ix_tup (pv 1) pe_int (fun _ _ => rfl)) (pv 3))) (pa_cons (pe_op op_mulX (pe_op op_fdivX (pe_ix ix_tup (pv 0) pe_int (fun _ _ => rfl)) (pv 3)) (pe_op op_fdivX (pe_ix ix_tup (pv 1) pe_int (fun _ _ => rfl)) (pv 2))) pa_nil))))))), ?_⟩
    walk_at "r"
    · intro p np
      exact q _ _ (same_upd np) (isF_new m5 m6)
    all_goals first | assumption | exact m1 _ | exact m2 _
def sp_negated : Sp := fun vs H Q _ => ∃ x r, vs = [x] ∧ IsF H x r ∧ ∀ H' v, Same H H' → IsF H' v (-r) → Q v H'
theorem ok_negated (T : Txt K mg f_is_integer f_is_fraction f_lowest f_added f_negated f_lessened f_multiplied f_divided f_lies_below f_fraction f_check_both f_plus f_minus f_times f_over f_is_below f_l_deck f_l_pick f_l_divisor f_l_fraction f_l_is_it f_l_is_flag f_l_are_reckoned f_law d_is_integer d_is_fraction d_lowest d_added d_negated d_lessened d_multiplied d_divided d_lies_below d_fraction d_check_both d_plus d_minus d_times d_over d_is_below d_l_deck d_l_pick d_l_divisor d_l_fraction d_l_is_it d_l_is_flag d_l_are_reckoned d_law) : FnOk P w K mg base CX0 1 f_negated d_negated ["one"] sp_negated := by
  refine T.F_negated.ok sc_negated (fun vs H Q E h => ?_) (fun cdv A outer s H vs Q E hr h => ?_)
  · obtain ⟨x, r, rfl, _⟩ := h
    rfl
  · obtain ⟨x, r, rfl, ⟨p1, rfl, h1⟩, q⟩ := h
    refine ⟨_, (pss_one (ps_ret (pe_tup (pa_cons (pe_un un_neg (pe_ix ix_tup (pv 0) pe_int (fun _ _ => rfl))) (pa_cons (pe_ix ix_tup (pv 0) pe_int (fun _ _ => rfl)) pa_nil))))), ?_⟩
    walk_at "r"
    intro p np
    exact q _ _ (same_upd np) (isF_new rfl rfl)
def sp_lessened : Sp := sp_two (· - ·) fun _ _ => True
theorem ok_lessened (T : Txt K mg f_is_integer f_is_fraction f_lowest f_added f_negated f_lessened f_multiplied f_divided f_lies_below f_fraction f_check_both f_plus f_minus f_times f_over f_is_below f_l_deck f_l_pick f_l_divisor f_l_fraction f_l_is_it f_l_is_flag f_l_are_reckoned f_law d_is_integer d_is_fraction d_lowest d_added d_negated d_lessened d_multiplied d_divided d_lies_below d_fraction d_check_both d_plus d_minus d_times d_over d_is_below d_l_deck d_l_pick d_l_divisor d_l_fraction d_l_is_it d_l_is_flag d_l_are_reckoned d_law) : FnOk P w K mg base CX0 2 f_lessened d_lessened ["one", "other"] sp_lessened := by
  have G_negated : FnOk P w K mg base CX0 1 f_negated d_negated ["one"] sp_negated := ok_negated T
  have G_added : FnOk P w K mg base CX0 1 f_added d_added ["one", "other"] sp_added := ok_added T
  refine T.F_lessened.ok sc_lessened (fun vs H Q E h => ?_) (fun cdv A outer s H vs Q E hr h => ?_)
  · obtain ⟨x, y, r, s, rfl, _⟩ := h
    rfl
  · obtain ⟨x, y, r, s, rfl, h1, h2, b1, b2, -, q⟩ := h
    refine ⟨_, (pss_one (ps_ret (pe_call G_added (hr.mono (by decide)) (by rfl) T.g_added T.k_added T.b_added .nil pass0 (pa_cons (pv 0) (pa_cons (pe_call G_negated (hr.mono (by decide)) (by rfl) T.g_negated T.k_negated T.b_negated .nil pass0 (pa_cons (pv 1) pa_nil)) pa_nil))))), ?_⟩
    walk_at "r"
    refine ⟨_, _, rfl, h2, fun H1 v s1 hv => ?_⟩
    walk_at "r"
    refine ⟨_, _, _, _, rfl, h1.same s1, hv, b1, b2.neg, trivial, fun H2 u s2 hu => ?_⟩
    exact q _ _ (s1.trans s2) (by show IsF H2 u (r - s); rw [Rat.sub_eq_add_neg]; exact hu)
def sp_divided : Sp := sp_two (· / ·) fun _ s => s ≠ 0
theorem ok_divided (T : Txt K mg f_is_integer f_is_fraction f_lowest f_added f_negated f_lessened f_multiplied f_divided f_lies_below f_fraction f_check_both f_plus f_minus f_times f_over f_is_below f_l_deck f_l_pick f_l_divisor f_l_fraction f_l_is_it f_l_is_flag f_l_are_reckoned f_law d_is_integer d_is_fraction d_lowest d_added d_negated d_lessened d_multiplied d_divided d_lies_below d_fraction d_check_both d_plus d_minus d_times d_over d_is_below d_l_deck d_l_pick d_l_divisor d_l_fraction d_l_is_it d_l_is_flag d_l_are_reckoned d_law) : FnOk P w K mg base CX0 2 f_divided d_divided ["one", "other"] sp_divided := by
  have G_multiplied : FnOk P w K mg base CX0 1 f_multiplied d_multiplied ["one", "other"] sp_multiplied := ok_multiplied T
  refine T.F_divided.ok sc_divided (fun vs H Q E h => ?_) (fun cdv A outer s H vs Q E hr h => ?_)
  · obtain ⟨x, y, r, s, rfl, _⟩ := h
    rfl
  · obtain ⟨x, y, r, s, rfl, ⟨p1, rfl, h1⟩, ⟨p2, rfl, h2⟩, b1, b2, hz, q⟩ := h
    obtain ⟨i1, i2⟩ := inv_num hz
    refine ⟨_, (pss_cons (ps_if (pt_cmpR op_lt (pe_ix ix_tup (pv 1) pe_int (fun _ _ => rfl)) pe_int (nomark _))
        (pss_one (ps_ret (pe_call G_multiplied (hr.mono (by decide)) (by rfl) T.g_multiplied T.k_multiplied T.b_multiplied .nil pass0 (pa_cons (pv 0) (pa_cons (pe_tup (pa_cons (pe_un un_neg (pe_ix ix_tup (pv 1) pe_int (fun _ _ => rfl))) (pa_cons (pe_un un_neg (pe_ix ix_tup (pv 1) pe_int (fun _ _ => rfl))) pa_nil))) pa_nil)))))
        pss_nil)
      (pss_one (ps_ret (pe_call G_multiplied (hr.mono (by decide)) (by rfl) T.g_multiplied T.k_multiplied T.b_multiplied .nil pass0 (pa_cons (pv 0) (pa_cons (pe_tup (pa_cons (pe_ix ix_tup (pv 1) pe_int (fun _ _ => rfl)) (pa_cons (pe_ix ix_tup (pv 1) pe_int (fun _ _ => rfl)) pa_nil))) pa_nil)))))), ?_⟩
    walk_at "r"
    walk_at "if"
    · rename_i hn
      rw [if_pos hn] at i1 i2
      walk_at "r"
      intro p np
      walk_at "r"
      refine ⟨_, _, r, s⁻¹, rfl, ⟨p1, rfl, same_upd np _ _ h1⟩, isF_new i1.symm i2.symm, b1, b2.inv hz, trivial, fun H2 u s2 hu => ?_⟩
      exact q _ _ ((same_upd np).trans s2) hu
    · rename_i hn
      rw [if_neg hn] at i1 i2
      walk_at "r"
      intro p np
      walk_at "r"
      refine ⟨_, _, r, s⁻¹, rfl, ⟨p1, rfl, same_upd np _ _ h1⟩, isF_new i1.symm i2.symm, b1, b2.inv hz, trivial, fun H2 u s2 hu => ?_⟩
      exact q _ _ ((same_upd np).trans s2) hu
def sp_lies_below : Sp := fun vs H Q _ => ∃ x y r s, vs = [x, y] ∧ IsF H x r ∧ IsF H y s ∧ Bd 4000 r ∧ Bd 4000 s ∧ Q (.bl (decide (r < s))) H
theorem ok_lies_below (T : Txt K mg f_is_integer f_is_fraction f_lowest f_added f_negated f_lessened f_multiplied f_divided f_lies_below f_fraction f_check_both f_plus f_minus f_times f_over f_is_below f_l_deck f_l_pick f_l_divisor f_l_fraction f_l_is_it f_l_is_flag f_l_are_reckoned f_law d_is_integer d_is_fraction d_lowest d_added d_negated d_lessened d_multiplied d_divided d_lies_below d_fraction d_check_both d_plus d_minus d_times d_over d_is_below d_l_deck d_l_pick d_l_divisor d_l_fraction d_l_is_it d_l_is_flag d_l_are_reckoned d_law) : FnOk P w K mg base CX0 1 f_lies_below d_lies_below ["one", "other"] sp_lies_below := by
  refine T.F_lies_below.ok sc_lies_below (fun vs H Q E h => ?_) (fun cdv A outer s H vs Q E hr h => ?_)
  · obtain ⟨x, y, r, s, rfl, _⟩ := h
    rfl
  · obtain ⟨x, y, r, s, rfl, ⟨p1, rfl, h1⟩, ⟨p2, rfl, h2⟩, b1, b2, q⟩ := h
    have e : decide (r < s) = decide (r.num * s.den < s.num * r.den) := by
      rw [Bool.eq_iff_iff, decide_eq_true_eq, decide_eq_true_eq]
      exact Rat.lt_iff r s
    rw [e] at q
    refine ⟨_, (pss_one (ps_ret (pe_cmpR op_lt (pe_op op_mulX (pe_ix ix_tup (pv 0) pe_int (fun _ _ => rfl)) (pe_ix ix_tup (pv 1) pe_int (fun _ _ => rfl))) (pe_op op_mulX (pe_ix ix_tup (pv 1) pe_int (fun _ _ => rfl)) (pe_ix ix_tup (pv 0) pe_int (fun _ _ => rfl))) (nomark _)))), ?_⟩
    walk_at "r"
    · exact q
    · exact cmx (p46 b2.1) (by rw [Int.natAbs_natCast]; exact p46 b1.2)
    · exact cmx (p46 b1.1) (by rw [Int.natAbs_natCast]; exact p46 b2.2)
def sp_fraction : Sp := sp_lowest
theorem ok_fraction (T : Txt K mg f_is_integer f_is_fraction f_lowest f_added f_negated f_lessened f_multiplied f_divided f_lies_below f_fraction f_check_both f_plus f_minus f_times f_over f_is_below f_l_deck f_l_pick f_l_divisor f_l_fraction f_l_is_it f_l_is_flag f_l_are_reckoned f_law d_is_integer d_is_fraction d_lowest d_added d_negated d_lessened d_multiplied d_divided d_lies_below d_fraction d_check_both d_plus d_minus d_times d_over d_is_below d_l_deck d_l_pick d_l_divisor d_l_fraction d_l_is_it d_l_is_flag d_l_are_reckoned d_law) : FnOk P w K mg base CX0 2 f_fraction d_fraction ["top", "bottom"] sp_fraction := by
  have G_is_integer : FnOk P w K mg base CX0 1 f_is_integer d_is_integer ["thing"] sp_is_integer := ok_is_integer T
  have G_lowest : FnOk P w K mg base CX0 1 f_lowest d_lowest ["top", "bottom"] sp_lowest := ok_lowest T
  refine T.F_fraction.ok sc_fraction (fun vs H Q E h => ?_) (fun cdv A outer s H vs Q E hr h => ?_)
  · obtain ⟨n, d, rfl, _⟩ := h
    rfl
  · obtain ⟨n, d, rfl, hd, hb, q⟩ := h
    refine ⟨_, (pss_cons (ps_if (PW.pt (pw_or (pt_not (pt_val (pe_call G_is_integer (hr.mono (by decide)) (by rfl) T.g_is_integer T.k_is_integer T.b_is_integer .nil pass0 (pa_cons (pv 0) pa_nil)))) (pw_or (pt_not (pt_val (pe_call G_is_integer (hr.mono (by decide)) (by rfl) T.g_is_integer T.k_is_integer T.b_is_integer .nil pass0 (pa_cons (pv 1) pa_nil)))) (pw_or1 (pt_cmpR op_eq (pv 1) pe_int (nomark _))))))
        (pss_one ps_never)
        pss_nil)
      (pss_one (ps_ret (pe_call G_lowest (hr.mono (by decide)) (by rfl) T.g_lowest T.k_lowest T.b_lowest .nil pass0 (pa_cons (pv 0) (pa_cons (pv 1) pa_nil)))))), ?_⟩
    walk_at "r"
    refine ⟨_, rfl, ?_⟩
    walk_at "r"
    refine ⟨_, rfl, ?_⟩
    walk_at "r"
    exact ⟨_, _, rfl, hd, hb, q⟩
def sp_check_both : Sp := fun vs H Q _ => ∃ x y r s, vs = [x, y] ∧ IsF H x r ∧ IsF H y s ∧ Q .non H
theorem ok_check_both (T : Txt K mg f_is_integer f_is_fraction f_lowest f_added f_negated f_lessened f_multiplied f_divided f_lies_below f_fraction f_check_both f_plus f_minus f_times f_over f_is_below f_l_deck f_l_pick f_l_divisor f_l_fraction f_l_is_it f_l_is_flag f_l_are_reckoned f_law d_is_integer d_is_fraction d_lowest d_added d_negated d_lessened d_multiplied d_divided d_lies_below d_fraction d_check_both d_plus d_minus d_times d_over d_is_below d_l_deck d_l_pick d_l_divisor d_l_fraction d_l_is_it d_l_is_flag d_l_are_reckoned d_law) : FnOk P w K mg base CX0 3 f_check_both d_check_both ["one", "other"] sp_check_both := by
  have G_is_fraction : FnOk P w K mg base CX0 2 f_is_fraction d_is_fraction ["thing"] sp_is_fraction := ok_is_fraction T
  refine T.F_check_both.ok sc_check_both (fun vs H Q E h => ?_) (fun cdv A outer s H vs Q E hr h => ?_)
  · obtain ⟨x, y, r, s, rfl, _⟩ := h
    rfl
  · obtain ⟨x, y, r, s, rfl, h1, h2, q⟩ := h
    refine ⟨_, (pss_cons (ps_if (pt_not (pt_val (pe_call G_is_fraction (hr.mono (by decide)) (by rfl) T.g_is_fraction T.k_is_fraction T.b_is_fraction .nil pass0 (pa_cons (pv 0) pa_nil))))
        (pss_one ps_never)
        pss_nil)
      (pss_one (ps_if (pt_not (pt_val (pe_call G_is_fraction (hr.mono (by decide)) (by rfl) T.g_is_fraction T.k_is_fraction T.b_is_fraction .nil pass0 (pa_cons (pv 1) pa_nil))))
        (pss_one ps_never)
        pss_nil))), ?_⟩
    walk_at "r"
    refine ⟨_, _, rfl, h1, ?_⟩
    walk_at "r"
    refine ⟨_, _, rfl, h2, ?_⟩
    walk_at "r"
    exact q
theorem ok_plus (T : Txt K mg f_is_integer f_is_fraction f_lowest f_added f_negated f_lessened f_multiplied f_divided f_lies_below f_fraction f_check_both f_plus f_minus f_times f_over f_is_below f_l_deck f_l_pick f_l_divisor f_l_fraction f_l_is_it f_l_is_flag f_l_are_reckoned f_law d_is_integer d_is_fraction d_lowest d_added d_negated d_lessened d_multiplied d_divided d_lies_below d_fraction d_check_both d_plus d_minus d_times d_over d_is_below d_l_deck d_l_pick d_l_divisor d_l_fraction d_l_is_it d_l_is_flag d_l_are_reckoned d_law) : FnOk P w K mg base CX0 4 f_plus d_plus ["one", "other"] sp_added := by
  have G_check_both : FnOk P w K mg base CX0 3 f_check_both d_check_both ["one", "other"] sp_check_both := ok_check_both T
  have G_added : FnOk P w K mg base CX0 1 f_added d_added ["one", "other"] sp_added := ok_added T
  refine T.F_plus.ok sc_plus (fun vs H Q E h => ?_) (fun cdv A outer s H vs Q E hr h => ?_)
  · obtain ⟨x, y, r, s, rfl, _⟩ := h
    rfl
  · obtain ⟨x, y, r, s, rfl, h1, h2, b1, b2, c, q⟩ := h
    refine ⟨_, (pss_cons (ps_expr (pe_call G_check_both (hr.mono (by decide)) (by rfl) T.g_check_both T.k_check_both T.b_check_both .nil pass0 (pa_cons (pv 0) (pa_cons (pv 1) pa_nil))))
      (pss_one (ps_ret (pe_call G_added (hr.mono (by decide)) (by rfl) T.g_added T.k_added T.b_added .nil pass0 (pa_cons (pv 0) (pa_cons (pv 1) pa_nil)))))), ?_⟩
    walk_at "r"
    refine ⟨_, _, _, _, rfl, h1, h2, ?_⟩
    walk_at "r"
    exact ⟨_, _, _, _, rfl, h1, h2, b1, b2, c, q⟩
theorem ok_minus (T : Txt K mg f_is_integer f_is_fraction f_lowest f_added f_negated f_lessened f_multiplied f_divided f_lies_below f_fraction f_check_both f_plus f_minus f_times f_over f_is_below f_l_deck f_l_pick f_l_divisor f_l_fraction f_l_is_it f_l_is_flag f_l_are_reckoned f_law d_is_integer d_is_fraction d_lowest d_added d_negated d_lessened d_multiplied d_divided d_lies_below d_fraction d_check_both d_plus d_minus d_times d_over d_is_below d_l_deck d_l_pick d_l_divisor d_l_fraction d_l_is_it d_l_is_flag d_l_are_reckoned d_law) : FnOk P w K mg base CX0 4 f_minus d_minus ["one", "other"] sp_lessened := by
  have G_check_both : FnOk P w K mg base CX0 3 f_check_both d_check_both ["one", "other"] sp_check_both := ok_check_both T
  have G_lessened : FnOk P w K mg base CX0 2 f_lessened d_lessened ["one", "other"] sp_lessened := ok_lessened T
  refine T.F_minus.ok sc_minus (fun vs H Q E h => ?_) (fun cdv A outer s H vs Q E hr h => ?_)
  · obtain ⟨x, y, r, s, rfl, _⟩ := h
    rfl
  · obtain ⟨x, y, r, s, rfl, h1, h2, b1, b2, c, q⟩ := h
    refine ⟨_, (pss_cons (ps_expr (pe_call G_check_both (hr.mono (by decide)) (by rfl) T.g_check_both T.k_check_both T.b_check_both .nil pass0 (pa_cons (pv 0) (pa_cons (pv 1) pa_nil))))
      (pss_one (ps_ret (pe_call G_lessened (hr.mono (by decide)) (by rfl) T.g_lessened T.k_lessened T.b_lessened .nil pass0 (pa_cons (pv 0) (pa_cons (pv 1) pa_nil)))))), ?_⟩
    walk_at "r"
    refine ⟨_, _, _, _, rfl, h1, h2, ?_⟩
    walk_at "r"
    exact ⟨_, _, _, _, rfl, h1, h2, b1, b2, c, q⟩
theorem ok_times (T : Txt K mg f_is_integer f_is_fraction f_lowest f_added f_negated f_lessened f_multiplied f_divided f_lies_below f_fraction f_check_both f_plus f_minus f_times f_over f_is_below f_l_deck f_l_pick f_l_divisor f_l_fraction f_l_is_it f_l_is_flag f_l_are_reckoned f_law d_is_integer d_is_fraction d_lowest d_added d_negated d_lessened d_multiplied d_divided d_lies_below d_fraction d_check_both d_plus d_minus d_times d_over d_is_below d_l_deck d_l_pick d_l_divisor d_l_fraction d_l_is_it d_l_is_flag d_l_are_reckoned d_law) : FnOk P w K mg base CX0 4 f_times d_times ["one", "other"] sp_multiplied := by
  have G_check_both : FnOk P w K mg base CX0 3 f_check_both d_check_both ["one", "other"] sp_check_both := ok_check_both T
  have G_multiplied : FnOk P w K mg base CX0 1 f_multiplied d_multiplied ["one", "other"] sp_multiplied := ok_multiplied T
  refine T.F_times.ok sc_times (fun vs H Q E h => ?_) (fun cdv A outer s H vs Q E hr h => ?_)
  · obtain ⟨x, y, r, s, rfl, _⟩ := h
    rfl
  · obtain ⟨x, y, r, s, rfl, h1, h2, b1, b2, c, q⟩ := h
    refine ⟨_, (pss_cons (ps_expr (pe_call G_check_both (hr.mono (by decide)) (by rfl) T.g_check_both T.k_check_both T.b_check_both .nil pass0 (pa_cons (pv 0) (pa_cons (pv 1) pa_nil))))
      (pss_one (ps_ret (pe_call G_multiplied (hr.mono (by decide)) (by rfl) T.g_multiplied T.k_multiplied T.b_multiplied .nil pass0 (pa_cons (pv 0) (pa_cons (pv 1) pa_nil)))))), ?_⟩
    walk_at "r"
    refine ⟨_, _, _, _, rfl, h1, h2, ?_⟩
    walk_at "r"
    exact ⟨_, _, _, _, rfl, h1, h2, b1, b2, c, q⟩
theorem ok_over (T : Txt K mg f_is_integer f_is_fraction f_lowest f_added f_negated f_lessened f_multiplied f_divided f_lies_below f_fraction f_check_both f_plus f_minus f_times f_over f_is_below f_l_deck f_l_pick f_l_divisor f_l_fraction f_l_is_it f_l_is_flag f_l_are_reckoned f_law d_is_integer d_is_fraction d_lowest d_added d_negated d_lessened d_multiplied d_divided d_lies_below d_fraction d_check_both d_plus d_minus d_times d_over d_is_below d_l_deck d_l_pick d_l_divisor d_l_fraction d_l_is_it d_l_is_flag d_l_are_reckoned d_law) : FnOk P w K mg base CX0 4 f_over d_over ["one", "other"] sp_divided := by
  have G_check_both : FnOk P w K mg base CX0 3 f_check_both d_check_both ["one", "other"] sp_check_both := ok_check_both T
  have G_divided : FnOk P w K mg base CX0 2 f_divided d_divided ["one", "other"] sp_divided := ok_divided T
  refine T.F_over.ok sc_over (fun vs H Q E h => ?_) (fun cdv A outer s H vs Q E hr h => ?_)
  · obtain ⟨x, y, r, s, rfl, _⟩ := h
    rfl
  · obtain ⟨x, y, r, s, rfl, h1, h2, b1, b2, c, q⟩ := h
    have hz : s.num ≠ 0 := fun e => c (Rat.num_eq_zero.mp e)
    obtain ⟨p2, rfl, h2'⟩ := id h2
    refine ⟨_, (pss_cons (ps_expr (pe_call G_check_both (hr.mono (by decide)) (by rfl) T.g_check_both T.k_check_both T.b_check_both .nil pass0 (pa_cons (pv 0) (pa_cons (pv 1) pa_nil))))
      (pss_cons (ps_if (pt_cmpR op_eq (pe_ix ix_tup (pv 1) pe_int (fun _ _ => rfl)) pe_int (nomark _))
        (pss_one ps_never)
        pss_nil)
      (pss_one (ps_ret (pe_call G_divided (hr.mono (by decide)) (by rfl) T.g_divided T.k_divided T.b_divided .nil pass0 (pa_cons (pv 0) (pa_cons (pv 1) pa_nil))))))), ?_⟩
    walk_at "r"
    refine ⟨_, _, _, _, rfl, h1, h2, ?_⟩
    walk_at "r"
    exact ⟨_, _, _, _, rfl, h1, h2, b1, b2, c, q⟩
theorem ok_is_below (T : Txt K mg f_is_integer f_is_fraction f_lowest f_added f_negated f_lessened f_multiplied f_divided f_lies_below f_fraction f_check_both f_plus f_minus f_times f_over f_is_below f_l_deck f_l_pick f_l_divisor f_l_fraction f_l_is_it f_l_is_flag f_l_are_reckoned f_law d_is_integer d_is_fraction d_lowest d_added d_negated d_lessened d_multiplied d_divided d_lies_below d_fraction d_check_both d_plus d_minus d_times d_over d_is_below d_l_deck d_l_pick d_l_divisor d_l_fraction d_l_is_it d_l_is_flag d_l_are_reckoned d_law) : FnOk P w K mg base CX0 4 f_is_below d_is_below ["one", "other"] sp_lies_below := by
  have G_check_both : FnOk P w K mg base CX0 3 f_check_both d_check_both ["one", "other"] sp_check_both := ok_check_both T
  have G_lies_below : FnOk P w K mg base CX0 1 f_lies_below d_lies_below ["one", "other"] sp_lies_below := ok_lies_below T
  refine T.F_is_below.ok sc_is_below (fun vs H Q E h => ?_) (fun cdv A outer s H vs Q E hr h => ?_)
  · obtain ⟨x, y, r, s, rfl, _⟩ := h
    rfl
  · obtain ⟨x, y, r, s, rfl, h1, h2, b1, b2, q⟩ := h
    refine ⟨_, (pss_cons (ps_expr (pe_call G_check_both (hr.mono (by decide)) (by rfl) T.g_check_both T.k_check_both T.b_check_both .nil pass0 (pa_cons (pv 0) (pa_cons (pv 1) pa_nil))))
      (pss_one (ps_ret (pe_call G_lies_below (hr.mono (by decide)) (by rfl) T.g_lies_below T.k_lies_below T.b_lies_below .nil pass0 (pa_cons (pv 0) (pa_cons (pv 1) pa_nil)))))), ?_⟩
    walk_at "r"
    refine ⟨_, _, _, _, rfl, h1, h2, ?_⟩
    walk_at "r"
    exact ⟨_, _, _, _, rfl, h1, h2, b1, b2, q⟩
end
end My
namespace My
open PySem PySem.Spec PyProof.Rows L2
section
variable {P : Program} {w : World} {K : PySem.W.Frag} {mg : Str → Option Value} {base : Heap} {f_is_integer f_is_fraction f_lowest f_added f_negated f_lessened f_multiplied f_divided f_lies_below f_fraction f_check_both f_plus f_minus f_times f_over f_is_below f_l_deck f_l_pick f_l_divisor f_l_fraction f_l_is_it f_l_is_flag f_l_are_reckoned f_law : Addr} {d_is_integer d_is_fraction d_lowest d_added d_negated d_lessened d_multiplied d_divided d_lies_below d_fraction d_check_both d_plus d_minus d_times d_over d_is_below d_l_deck d_l_pick d_l_divisor d_l_fraction d_l_is_it d_l_is_flag d_l_are_reckoned d_law : FuncData}
def sp_fr (M B n : Nat) : Sp := fun vs H Q _ => ∃ (D : Addr) (c : Nat), vs = [.ref D] ∧ Deck M D H c ∧ c ≤ 2 ^ 39 ∧ ∀ H' v r, Fw D H H' → Deck M D H' (c + n) → IsF H' v r → Bd B r → Q v H'
theorem ten18_lt : (10 : Int) ^ (18 : Int).toNat = 1000000000000000000 := by decide
theorem ten12_eq : (10 : Int) ^ (12 : Int).toNat = 1000000000000 := by decide
theorem ten6_eq : (10 : Int) ^ (6 : Int).toNat = 1000000 := by decide
theorem size_at {i : Int} (h0 : 0 ≤ i) (h1 : i < 5) : ∃ z : Int, (4 ≤ z ∧ z ≤ 1000000000000000000) ∧ atI [V.int 4, V.int 10, V.int (10 ^ (6 : Int).toNat), V.int (10 ^ (12 : Int).toNat), V.int (10 ^ (18 : Int).toNat)] i = some (.int z) := by
  obtain ⟨z, hz, e⟩ := at_ints (cells := [4, 10, 10 ^ (6 : Int).toNat, 10 ^ (12 : Int).toNat, 10 ^ (18 : Int).toNat]) h0 (by simpa using h1)
  refine ⟨z, ?_, e⟩
  rw [ten18_lt, ten12_eq, ten6_eq] at hz
  simp only [List.mem_cons, List.not_mem_nil, or_false] at hz
  omega
theorem grow {t p : Int} {k : Nat} (h0 : 0 ≤ t) (h : t.natAbs < 2 ^ (60 * k)) (p0 : 0 ≤ p) (p1 : p < 1000000000000000000) : 0 ≤ t * 10 ^ (18 : Int).toNat + p ∧ (t * 10 ^ (18 : Int).toNat + p).natAbs < 2 ^ (60 * (k + 1)) := by
  rw [ten18_lt]
  have e : (2 : Nat) ^ (60 * (k + 1)) = 2 ^ (60 * k) * 1152921504606846976 := by
    rw [Nat.mul_add, Nat.pow_add]
  rw [e]
  generalize (2 : Nat) ^ (60 * k) = m at *
  have h2 : (t : Int) + 1 ≤ m := by omega
  refine ⟨by omega, ?_⟩
  omega
theorem ok_l_fraction {M : Nat} (hM : 64 ≤ M) (hM2 : M ≤ 1048576) (T : Txt K mg f_is_integer f_is_fraction f_lowest f_added f_negated f_lessened f_multiplied f_divided f_lies_below f_fraction f_check_both f_plus f_minus f_times f_over f_is_below f_l_deck f_l_pick f_l_divisor f_l_fraction f_l_is_it f_l_is_flag f_l_are_reckoned f_law d_is_integer d_is_fraction d_lowest d_added d_negated d_lessened d_multiplied d_divided d_lies_below d_fraction d_check_both d_plus d_minus d_times d_over d_is_below d_l_deck d_l_pick d_l_divisor d_l_fraction d_l_is_it d_l_is_flag d_l_are_reckoned d_law) : FnOk P w K mg base CX0 2 f_l_fraction d_l_fraction ["_law_deck_here"] (sp_fr M 960 40) := by
  have G_l_pick : FnOk P w K mg base CX0 1 f_l_pick d_l_pick ["_law_deck_here", "_law_many"] (sp_pick M) := ok_pick hM hM2 T
  have G_l_divisor : FnOk P w K mg base CX0 1 f_l_divisor d_l_divisor ["_law_one", "_law_other"] sp_divisor := ok_l_divisor T
  refine T.F_l_fraction.ok sc_l_fraction (fun vs H Q E h => ?_) (fun cdv A outer s H vs Q E hr h => ?_)
  · obtain ⟨D, c, rfl, _⟩ := h
    rfl
  · obtain ⟨D, c, rfl, dk, hc, q⟩ := h
    refine ⟨_, (pss_cons (ps_set (i := 1) sc_l_fraction.nd rfl (Or.inl rfl) (pe_call G_l_pick (hr.mono (by decide)) (by rfl) T.g_l_pick T.k_l_pick T.b_l_pick .nil pass0 (pa_cons (pv 0) (pa_cons pe_int pa_nil))))
      (pss_cons (ps_set (i := 2) sc_l_fraction.nd rfl (Or.inl rfl) (pe_ix ix_list (pe_lst (pa_cons pe_int (pa_cons pe_int (pa_cons (pe_op op_pow pe_int pe_int) (pa_cons (pe_op op_pow pe_int pe_int) (pa_cons (pe_op op_pow pe_int pe_int) pa_nil)))))) (pv 1) (fun _ _ => rfl)))
      (pss_cons (ps_set (i := 3) sc_l_fraction.nd rfl (Or.inl rfl) (pe_call G_l_pick (hr.mono (by decide)) (by rfl) T.g_l_pick T.k_l_pick T.b_l_pick .nil pass0 (pa_cons (pv 0) (pa_cons (pv 2) pa_nil))))
      (pss_cons (ps_set (i := 4) sc_l_fraction.nd rfl (Or.inl rfl) (pe_op op_add pe_int (pe_call G_l_pick (hr.mono (by decide)) (by rfl) T.g_l_pick T.k_l_pick T.b_l_pick .nil pass0 (pa_cons (pv 0) (pa_cons (pe_op op_sub (pv 2) pe_int) pa_nil)))))
      (C8.pss_cut (ps_if (pt_cmpR op_eq (pv 1) pe_int (nomark _))
        (pss_one (ps_for PassesOwn.never rfl (pi_range1 (by rfl) T.z_range (pa_cons (pe_call G_l_pick (hr.mono (by decide)) (by rfl) T.g_l_pick T.k_l_pick T.b_l_pick .nil pass0 (pa_cons (pv 0) (pa_cons pe_int pa_nil))) pa_nil)) (pg_name (i := 5) sc_l_fraction.nd rfl (Or.inl rfl))
            (pss_cons (ps_set (i := 3) sc_l_fraction.nd rfl (Or.inl rfl) (pe_op op_add (pe_op op_mulX (pv 3) (pe_op op_pow pe_int pe_int)) (pe_call G_l_pick (hr.mono (by decide)) (by rfl) T.g_l_pick T.k_l_pick T.b_l_pick .nil pass0 (pa_cons (pv 0) (pa_cons (pv 2) pa_nil)))))
              (pss_one (ps_set (i := 4) sc_l_fraction.nd rfl (Or.inl rfl) (pe_op op_add (pe_op op_mulX (pv 4) (pe_op op_pow pe_int pe_int)) (pe_call G_l_pick (hr.mono (by decide)) (by rfl) T.g_l_pick T.k_l_pick T.b_l_pick .nil pass0 (pa_cons (pv 0) (pa_cons (pv 2) pa_nil)))))))))
        pss_nil)
      (pss_cons (ps_set (i := 3) sc_l_fraction.nd rfl (Or.inl rfl) (pe_op op_mulX (pv 3) (pe_op op_sub pe_int (pe_op op_mulX pe_int (pe_call G_l_pick (hr.mono (by decide)) (by rfl) T.g_l_pick T.k_l_pick T.b_l_pick .nil pass0 (pa_cons (pv 0) (pa_cons pe_int pa_nil)))))))
      (pss_cons (ps_set (i := 6) sc_l_fraction.nd rfl (Or.inl rfl) (pe_call G_l_divisor (hr.mono (by decide)) (by rfl) T.g_l_divisor T.k_l_divisor T.b_l_divisor .nil pass0 (pa_cons (pv 3) (pa_cons (pv 4) pa_nil))))
      (pss_one (ps_ret (pe_tup (pa_cons (pe_op op_fdivX (pv 3) (pv 6)) (pa_cons (pe_op op_fdivX (pv 4) (pv 6)) pa_nil)))))))))))), ?_⟩
    walk_at "r"
    refine ⟨_, _, c, rfl, ⟨by decide, by decide⟩, dk, by omega, fun H1 r1 w1 k1 a1 b1 => ?_⟩
    walk_at "r"
    intro L nL
    obtain ⟨size, ⟨hs1, hs2⟩, es⟩ := size_at a1 b1
    walk_at "r"
    refine rd_ixL upd_same es ?_
    have k1' := k1.same (same_upd (o := .lst [V.int 4, V.int 10, V.int (10 ^ (6 : Int).toNat), V.int (10 ^ (12 : Int).toNat), V.int (10 ^ (18 : Int).toNat)]) nL)
    have w1' : Fw D H (upd H1 L (.lst [V.int 4, V.int 10, V.int (10 ^ (6 : Int).toNat), V.int (10 ^ (12 : Int).toNat), V.int (10 ^ (18 : Int).toNat)])) := w1.trans (Same.fw (same_upd nL))
    walk_at "r"
    refine ⟨_, _, _, rfl, ⟨by omega, by omega⟩, k1', by omega, fun H2 r2 w2 k2 a2 b2 => ?_⟩
    walk_at "r"
    refine ⟨_, _, _, rfl, ⟨by omega, by omega⟩, k2, by omega, fun H3 r3 w3 k3 a3 b3 => ?_⟩
    have w3' := (w1'.trans w2).trans w3
    clear w1' k1' w1 w2 w3 k1 k2
    walk_at "r"
    refine ⟨fun σ H' => ∃ (t b : Int) (c' : Nat) (v5 : Option V), σ = [some (.ref D), some (.int r1), some (.int size), some (.int t), some (.int b), v5, none] ∧ Fw D H H' ∧ Deck M D H' c' ∧ c' ≤ c + 35 ∧ 0 ≤ t ∧ 0 < b ∧ t.natAbs < 2 ^ 960 ∧ b.natAbs < 2 ^ 960, ?_, ?_⟩
    rotate_left
    · rintro σ H' ⟨t, b, c', v5, rfl, w', k', hc', t0, b0, t1, b1⟩
      walk_at "r"
      · refine ⟨_, _, _, rfl, ⟨by decide, by decide⟩, k', by omega, fun H8 r8 w8 k8 a8 b8 => ?_⟩
        walk_at "r"
        · have hna := sign_na (t := t) a8 b8
          refine ⟨_, _, rfl, Nat.lt_of_lt_of_le b1 (pow_le (by decide)), ?_⟩
          obtain ⟨m1, m2, m3⟩ := low_math (n := t * (1 - 2 * r8)) b0 (Nat.lt_of_lt_of_le b1 (pow_le (by decide))) _ rfl
          walk_at "r"
          · intro p np
            refine q _ _ _ ((w'.trans w8).trans (Same.fw (same_upd np))) ((k8.same (same_upd np)).mono (by omega)) (isF_new m2 m3) (Bd.divInt (by omega) (by rw [hna]; exact t1) b1)
          all_goals exact m1 _
        · exact cmul_big t1 (by omega) (by decide)
        · exact cmul_small (by decide) (by omega)
    walk_at "r"
    walk_at "if"
    · walk_at "r"
      refine ⟨_, _, _, rfl, ⟨by decide, by decide⟩, k3, by omega, fun H4 r4 w4 k4 a4 b4 => ?_⟩
      walk_at "r"
      refine ⟨by omega, by omega, ?_⟩
      refine for_range (lo := 0) (n := r4.toNat) (fun i σ H' => ∃ (t b : Int) (c' : Nat) (v5 : Option V), σ = [some (.ref D), some (.int r1), some (.int size), some (.int t), some (.int b), v5, none] ∧ Fw D H H' ∧ Deck M D H' c' ∧ c' ≤ c + 4 + 2 * i ∧ 0 ≤ t ∧ 0 < b ∧ t.natAbs < 2 ^ (60 * (i + 1)) ∧ b.natAbs < 2 ^ (60 * (i + 1))) ?_ ?_ ?_
      · exact ⟨_, _, _, none, rfl, w3'.trans w4, k4, by omega, a2, by omega, by omega, by omega⟩
      · rintro i σ H' hi ⟨t, b, c', v5, rfl, w', k', hc', t0, b0, t1, b1⟩
        walk_at "r"
        · refine ⟨_, _, _, rfl, ⟨by omega, by omega⟩, k', by omega, fun H5 r5 w5 k5 a5 b5 => ?_⟩
          walk_at "r"
          · refine ⟨_, _, _, rfl, ⟨by omega, by omega⟩, k5, by omega, fun H6 r6 w6 k6 a6 b6 => ?_⟩
            obtain ⟨g1, g2⟩ := grow t0 t1 a5 (by omega)
            obtain ⟨g3, g4⟩ := grow (Int.le_of_lt b0) b1 a6 (by omega)
            walk_at "r"
            refine ⟨_, _, _, _, rfl, (w'.trans w5).trans w6, k6, by omega, g1, ?_, g2, g4⟩
            have := ten18_lt
            rw [this]
            omega
          · rw [ten18_lt]
            exact cmul_big b1 (by decide) (by omega)
        · rw [ten18_lt]
          exact cmul_big t1 (by decide) (by omega)
      · rintro σ H' ⟨t, b, c', v5, rfl, w', k', hc', t0, b0, t1, b1⟩
        have hp : 60 * (r4.toNat + 1) ≤ 960 := by omega
        exact ⟨t, b, c', v5, rfl, w', k', by omega, t0, b0, Nat.lt_of_lt_of_le t1 (pow_le hp), Nat.lt_of_lt_of_le b1 (pow_le hp)⟩
    · walk_at "r"
      refine ⟨r2, 1 + r3, _, none, rfl, w3', k3, by omega, a2, by omega, ?_, ?_⟩
      · exact Nat.lt_of_lt_of_le (m := 2 ^ 64) (by omega) (pow_le (by decide))
      · exact Nat.lt_of_lt_of_le (m := 2 ^ 64) (by omega) (pow_le (by decide))
end
end My
namespace My
open PySem PySem.Spec PyProof.Rows L2
section
variable {P : Program} {w : World} {K : PySem.W.Frag} {mg : Str → Option Value} {base : Heap} {f_is_integer f_is_fraction f_lowest f_added f_negated f_lessened f_multiplied f_divided f_lies_below f_fraction f_check_both f_plus f_minus f_times f_over f_is_below f_l_deck f_l_pick f_l_divisor f_l_fraction f_l_is_it f_l_is_flag f_l_are_reckoned f_law : Addr} {d_is_integer d_is_fraction d_lowest d_added d_negated d_lessened d_multiplied d_divided d_lies_below d_fraction d_check_both d_plus d_minus d_times d_over d_is_below d_l_deck d_l_pick d_l_divisor d_l_fraction d_l_is_it d_l_is_flag d_l_are_reckoned d_law : FuncData}
def sp_is_it : Sp := fun vs H Q _ => ∃ v r top bottom, vs = [v, .int top, .int bottom] ∧ IsF H v r ∧ Bd 4000 r ∧ bottom ≠ 0 ∧ top.natAbs < 2 ^ 20000 ∧ bottom.natAbs < 2 ^ 20000 ∧ Rat.divInt top bottom = r ∧ Q (.bl true) H
theorem ok_l_is_it (T : Txt K mg f_is_integer f_is_fraction f_lowest f_added f_negated f_lessened f_multiplied f_divided f_lies_below f_fraction f_check_both f_plus f_minus f_times f_over f_is_below f_l_deck f_l_pick f_l_divisor f_l_fraction f_l_is_it f_l_is_flag f_l_are_reckoned f_law d_is_integer d_is_fraction d_lowest d_added d_negated d_lessened d_multiplied d_divided d_lies_below d_fraction d_check_both d_plus d_minus d_times d_over d_is_below d_l_deck d_l_pick d_l_divisor d_l_fraction d_l_is_it d_l_is_flag d_l_are_reckoned d_law) : FnOk P w K mg base CX0 2 f_l_is_it d_l_is_it ["_law_thing", "_law_top", "_law_bottom"] sp_is_it := by
  have G_l_divisor : FnOk P w K mg base CX0 1 f_l_divisor d_l_divisor ["_law_one", "_law_other"] sp_divisor := ok_l_divisor T
  refine T.F_l_is_it.ok sc_l_is_it (fun vs H Q E h => ?_) (fun cdv A outer s H vs Q E hr h => ?_)
  · obtain ⟨v, r, t, b, rfl, _⟩ := h
    rfl
  · obtain ⟨v, r, t, b, rfl, ⟨p, rfl, hp⟩, bd, hb, ht, hbb, e, q⟩ := h
    have hd := den_pos r
    have hg := gcd_den r
    have cr := (rat_cross hb).mp e
    refine ⟨_, (pss_cons (ps_if (PW.pt (pw_or (pt_not (pt_val (pe_callB call_isi (by rfl) T.z_isinstance (by decide +kernel) (pa_cons (pv 0) (pa_cons (pe_bltn (v := .ty "tuple") (u := .type "tuple") (by rfl) T.z_tuple (by decide +kernel) rfl) pa_nil))))) (pw_or1 (pt_cmpR op_ne (pe_callB call_lenN (by rfl) T.z_len (by decide +kernel) (pa_cons (pv 0) pa_nil)) pe_int (nomark _)))))
        (pss_one (ps_ret pe_bl))
        pss_nil)
      (pss_cons (ps_for PassesOwn.never rfl (pi_tup (pv 0)) (pg_name (i := 3) sc_l_is_it.nd rfl (Or.inl rfl))
        (pss_one (ps_if (PW.pt (pw_or (pt_not (pt_val (pe_callB call_isi (by rfl) T.z_isinstance (by decide +kernel) (pa_cons (pv 3) (pa_cons (pe_bltn (v := .ty "int") (u := .type "int") (by rfl) T.z_int (by decide +kernel) rfl) pa_nil))))) (pw_or1 (pt_val (pe_callB call_isi (by rfl) T.z_isinstance (by decide +kernel) (pa_cons (pv 3) (pa_cons (pe_bltn (v := .ty "bool") (u := .type "bool") (by rfl) T.z_bool (by decide +kernel) rfl) pa_nil)))))))
            (pss_one (ps_ret pe_bl))
            pss_nil)))
      (pss_cons (ps_if (PW.pt (pw_or (pt_cmpR op_lt (pe_ix ix_tup (pv 0) pe_int (fun _ _ => rfl)) pe_int (nomark _)) (pw_or1 (pt_cmpR op_ne (pe_call G_l_divisor (hr.mono (by decide)) (by rfl) T.g_l_divisor T.k_l_divisor T.b_l_divisor .nil pass0 (pa_cons (pe_ix ix_tup (pv 0) pe_int (fun _ _ => rfl)) (pa_cons (pe_ix ix_tup (pv 0) pe_int (fun _ _ => rfl)) pa_nil))) pe_int (nomark _)))))
        (pss_one (ps_ret pe_bl))
        pss_nil)
      (pss_one (ps_ret (pe_cmpR op_eq (pe_op op_mulX (pe_ix ix_tup (pv 0) pe_int (fun _ _ => rfl)) (pv 2)) (pe_op op_mulX (pv 1) (pe_ix ix_tup (pv 0) pe_int (fun _ _ => rfl))) (nomark _))))))), ?_⟩
    walk_at "r"
    refine ⟨⟨_, .of hp⟩, ?_⟩
    refine for_tup (K := K) (a := p) (xs := frV r) (fun i σ H' => ∃ t3, σ = [some (.ref p), some (.int t), some (.int b), t3] ∧ H' = H) ⟨_, rfl, rfl⟩ ?_ ?_ ?_
    · rintro i σ H' _ ⟨t3, rfl, rfl⟩
      exact .of hp
    · rintro i x σ H' hx ⟨t3, rfl, rfl⟩
      obtain ⟨z, rfl⟩ : ∃ z, x = .int z := by
        match i, hx with
        | 0, hx => exact ⟨_, (Option.some.inj hx).symm⟩
        | 1, hx => exact ⟨_, (Option.some.inj hx).symm⟩
      walk_at "r"
      exact rfl
    · rintro σ H' ⟨t3, rfl, rfl⟩
      walk_at "r"
      refine ⟨_, _, rfl, by rw [Int.natAbs_natCast]; exact p46 bd.2, ?_⟩
      rw [Int.natAbs_natCast, hg]
      walk_at "r"
      · rw [decide_eq_true (show r.num * b = t * (r.den : Int) from cr.symm)]
        exact q
      · exact cmx ht (by rw [Int.natAbs_natCast]; exact p46 bd.2)
      · exact cmx (p46 bd.1) hbb
def sp_is_flag : Sp := fun vs H Q _ => ∃ b : Bool, vs = [.bl b, .bl b] ∧ Q (.bl true) H
theorem ok_l_is_flag (T : Txt K mg f_is_integer f_is_fraction f_lowest f_added f_negated f_lessened f_multiplied f_divided f_lies_below f_fraction f_check_both f_plus f_minus f_times f_over f_is_below f_l_deck f_l_pick f_l_divisor f_l_fraction f_l_is_it f_l_is_flag f_l_are_reckoned f_law d_is_integer d_is_fraction d_lowest d_added d_negated d_lessened d_multiplied d_divided d_lies_below d_fraction d_check_both d_plus d_minus d_times d_over d_is_below d_l_deck d_l_pick d_l_divisor d_l_fraction d_l_is_it d_l_is_flag d_l_are_reckoned d_law) : FnOk P w K mg base CX0 1 f_l_is_flag d_l_is_flag ["_law_flag", "_law_due"] sp_is_flag := by
  refine T.F_l_is_flag.ok sc_l_is_flag (fun vs H Q E h => ?_) (fun cdv A outer s H vs Q E hr h => ?_)
  · obtain ⟨b, rfl, _⟩ := h
    rfl
  · obtain ⟨b, rfl, q⟩ := h
    refine ⟨_, (pss_cons (ps_if (pt_val (pv 1))
        (pss_one (ps_ret (pe_cmpR op_isBl (pv 0) pe_bl (nomark _))))
        pss_nil)
      (pss_one (ps_ret (pe_cmpR op_isBl (pv 0) pe_bl (nomark _))))), ?_⟩
    cases b with
    | true =>
      walk_at "r"
      exact q
    | false =>
      walk_at "r"
      exact q
theorem cr_add (r s : Rat) : Rat.divInt (r.num * s.den + s.num * r.den) ((r.den : Int) * s.den) = r + s := by
  have rz : (r.den : Int) ≠ 0 := Int.ne_of_gt (den_pos r)
  have sz : (s.den : Int) ≠ 0 := Int.ne_of_gt (den_pos s)
  have key := Rat.divInt_add_divInt r.num s.num rz sz
  rw [low_self, low_self] at key
  exact key.symm
theorem cr_sub (r s : Rat) : Rat.divInt (r.num * s.den - s.num * r.den) ((r.den : Int) * s.den) = r - s := by
  have key := cr_add r (-s)
  rw [Rat.neg_num, Rat.neg_den, Int.neg_mul, ← Int.sub_eq_add_neg] at key
  rw [Rat.sub_eq_add_neg]
  exact key
theorem cr_mul (r s : Rat) : Rat.divInt (r.num * s.num) ((r.den : Int) * s.den) = r * s := by
  have key := Rat.divInt_mul_divInt r.num s.num (d₁ := r.den) (d₂ := s.den)
  rw [low_self, low_self] at key
  exact key.symm
theorem cr_div (r s : Rat) : Rat.divInt (r.num * s.den) ((r.den : Int) * s.num) = r / s := by
  have key := Rat.divInt_mul_divInt r.num s.den (d₁ := r.den) (d₂ := s.num)
  rw [low_self, ← Rat.inv_divInt, low_self] at key
  rw [Rat.div_def]
  exact key.symm
def sp_reck : Sp := fun vs H Q _ => ∃ x y r s, vs = [x, y] ∧ IsF H x r ∧ IsF H y s ∧ Bd 960 r ∧ Bd 960 s ∧ ∀ H', Same H H' → Q (.bl true) H'
theorem ok_l_are_reckoned (T : Txt K mg f_is_integer f_is_fraction f_lowest f_added f_negated f_lessened f_multiplied f_divided f_lies_below f_fraction f_check_both f_plus f_minus f_times f_over f_is_below f_l_deck f_l_pick f_l_divisor f_l_fraction f_l_is_it f_l_is_flag f_l_are_reckoned f_law d_is_integer d_is_fraction d_lowest d_added d_negated d_lessened d_multiplied d_divided d_lies_below d_fraction d_check_both d_plus d_minus d_times d_over d_is_below d_l_deck d_l_pick d_l_divisor d_l_fraction d_l_is_it d_l_is_flag d_l_are_reckoned d_law) : FnOk P w K mg base CX0 5 f_l_are_reckoned d_l_are_reckoned ["_law_one", "_law_other"] sp_reck := by
  have G_plus : FnOk P w K mg base CX0 4 f_plus d_plus ["one", "other"] sp_added := ok_plus T
  have G_minus : FnOk P w K mg base CX0 4 f_minus d_minus ["one", "other"] sp_lessened := ok_minus T
  have G_times : FnOk P w K mg base CX0 4 f_times d_times ["one", "other"] sp_multiplied := ok_times T
  have G_over : FnOk P w K mg base CX0 4 f_over d_over ["one", "other"] sp_divided := ok_over T
  have G_is_below : FnOk P w K mg base CX0 4 f_is_below d_is_below ["one", "other"] sp_lies_below := ok_is_below T
  have G_l_is_it : FnOk P w K mg base CX0 2 f_l_is_it d_l_is_it ["_law_thing", "_law_top", "_law_bottom"] sp_is_it := ok_l_is_it T
  have G_l_is_flag : FnOk P w K mg base CX0 1 f_l_is_flag d_l_is_flag ["_law_flag", "_law_due"] sp_is_flag := ok_l_is_flag T
  refine T.F_l_are_reckoned.ok sc_l_are_reckoned (fun vs H Q E h => ?_) (fun cdv A outer sh H vs Q E hr h => ?_)
  · obtain ⟨x, y, r, s, rfl, _⟩ := h
    rfl
  · obtain ⟨x, y, r, s, rfl, ⟨p1, rfl, h1⟩, ⟨p2, rfl, h2⟩, b1, b2, q⟩ := h
    have B1 : Bd 4000 r := b1.mono (by decide)
    have B2 : Bd 4000 s := b2.mono (by decide)
    have rp := den_pos r
    have sp := den_pos s
    have m1 : (r.num * (s.den : Int)).natAbs < 2 ^ 1920 := by rw [Int.natAbs_mul, Int.natAbs_natCast]; exact nat_mul_lt b1.1 b2.2
    have m2 : (s.num * (r.den : Int)).natAbs < 2 ^ 1920 := by rw [Int.natAbs_mul, Int.natAbs_natCast]; exact nat_mul_lt b2.1 b1.2
    have m3 : ((r.den : Int) * (s.den : Int)).natAbs < 2 ^ 1920 := by rw [Int.natAbs_mul, Int.natAbs_natCast, Int.natAbs_natCast]; exact nat_mul_lt b1.2 b2.2
    have m4 : (r.num * s.num).natAbs < 2 ^ 1920 := by rw [Int.natAbs_mul]; exact nat_mul_lt b1.1 b2.1
    have m5 : ((r.den : Int) * s.num).natAbs < 2 ^ 1920 := by rw [Int.natAbs_mul, Int.natAbs_natCast]; exact nat_mul_lt b1.2 b2.1
    have up : ∀ {n : Nat}, n < 2 ^ 1920 → n < 2 ^ 20000 := fun h => Nat.lt_of_lt_of_le h (pow_le (by decide))
    have up2 : ∀ {i j : Int}, i.natAbs < 2 ^ 1920 → j.natAbs < 2 ^ 1920 → (i + j).natAbs < 2 ^ 20000 ∧ (i - j).natAbs < 2 ^ 20000 := fun {i j} h h' => by
      have e : (2 : Nat) ^ 1920 + 2 ^ 1920 ≤ 2 ^ 20000 := by
        have : (2 : Nat) ^ 1921 ≤ 2 ^ 20000 := pow_le (by decide)
        rw [Nat.pow_succ] at this
        omega
      generalize (2 : Nat) ^ 1920 = a at *
      generalize (2 : Nat) ^ 20000 = b at *
      omega
    have z1 : (r.den : Int) * s.den ≠ 0 := Int.mul_ne_zero (by omega) (by omega)
    have c : ∀ {i j : Int}, i.natAbs < 2 ^ 960 → j.natAbs < 2 ^ 960 → CMulX i j := fun h h' => cmx (Nat.lt_of_lt_of_le h (pow_le (by decide))) (Nat.lt_of_lt_of_le h' (pow_le (by decide)))
    have rd' : ((r.den : Int)).natAbs < 2 ^ 960 := by rw [Int.natAbs_natCast]; exact b1.2
    have sd' : ((s.den : Int)).natAbs < 2 ^ 960 := by rw [Int.natAbs_natCast]; exact b2.2
    have b11 := b1.1
    have b21 := b2.1
    have h1' := h1
    have h2' := h2
    have i1 : IsF H (.ref p1) r := ⟨_, rfl, h1⟩
    have i2 : IsF H (.ref p2) s := ⟨_, rfl, h2⟩
    refine ⟨_, (pss_cons (ps_if (pt_not (pt_val (pe_call G_l_is_it (hr.mono (by decide)) (by rfl) T.g_l_is_it T.k_l_is_it T.b_l_is_it .nil pass0 (pa_cons (pe_call G_plus (hr.mono (by decide)) (by rfl) T.g_plus T.k_plus T.b_plus .nil pass0 (pa_cons (pv 0) (pa_cons (pv 1) pa_nil))) (pa_cons (pe_op op_add (pe_op op_mulX (pe_ix ix_tup (pv 0) pe_int (fun _ _ => rfl)) (pe_ix ix_tup (pv 1) pe_int (fun _ _ => rfl))) (pe_op op_mulX (pe_ix ix_tup (pv 1) pe_int (fun _ _ => rfl)) (pe_ix ix_tup (pv 0) pe_int (fun _ _ => rfl)))) (pa_cons (pe_op op_mulX (pe_ix ix_tup (pv 0) pe_int (fun _ _ => rfl)) (pe_ix ix_tup (pv 1) pe_int (fun _ _ => rfl))) pa_nil))))))
        (pss_one (ps_ret pe_bl))
        pss_nil)
      (pss_cons (ps_if (pt_not (pt_val (pe_call G_l_is_it (hr.mono (by decide)) (by rfl) T.g_l_is_it T.k_l_is_it T.b_l_is_it .nil pass0 (pa_cons (pe_call G_minus (hr.mono (by decide)) (by rfl) T.g_minus T.k_minus T.b_minus .nil pass0 (pa_cons (pv 0) (pa_cons (pv 1) pa_nil))) (pa_cons (pe_op op_sub (pe_op op_mulX (pe_ix ix_tup (pv 0) pe_int (fun _ _ => rfl)) (pe_ix ix_tup (pv 1) pe_int (fun _ _ => rfl))) (pe_op op_mulX (pe_ix ix_tup (pv 1) pe_int (fun _ _ => rfl)) (pe_ix ix_tup (pv 0) pe_int (fun _ _ => rfl)))) (pa_cons (pe_op op_mulX (pe_ix ix_tup (pv 0) pe_int (fun _ _ => rfl)) (pe_ix ix_tup (pv 1) pe_int (fun _ _ => rfl))) pa_nil))))))
        (pss_one (ps_ret pe_bl))
        pss_nil)
      (pss_cons (ps_if (pt_not (pt_val (pe_call G_l_is_it (hr.mono (by decide)) (by rfl) T.g_l_is_it T.k_l_is_it T.b_l_is_it .nil pass0 (pa_cons (pe_call G_times (hr.mono (by decide)) (by rfl) T.g_times T.k_times T.b_times .nil pass0 (pa_cons (pv 0) (pa_cons (pv 1) pa_nil))) (pa_cons (pe_op op_mulX (pe_ix ix_tup (pv 0) pe_int (fun _ _ => rfl)) (pe_ix ix_tup (pv 1) pe_int (fun _ _ => rfl))) (pa_cons (pe_op op_mulX (pe_ix ix_tup (pv 0) pe_int (fun _ _ => rfl)) (pe_ix ix_tup (pv 1) pe_int (fun _ _ => rfl))) pa_nil))))))
        (pss_one (ps_ret pe_bl))
        pss_nil)
      (C8.pss_cut (ps_if (PW.pt (pw_and (pt_cmpR op_ne (pe_ix ix_tup (pv 1) pe_int (fun _ _ => rfl)) pe_int (nomark _)) (pw_and1 (pt_not (pt_val (pe_call G_l_is_it (hr.mono (by decide)) (by rfl) T.g_l_is_it T.k_l_is_it T.b_l_is_it .nil pass0 (pa_cons (pe_call G_over (hr.mono (by decide)) (by rfl) T.g_over T.k_over T.b_over .nil pass0 (pa_cons (pv 0) (pa_cons (pv 1) pa_nil))) (pa_cons (pe_op op_mulX (pe_ix ix_tup (pv 0) pe_int (fun _ _ => rfl)) (pe_ix ix_tup (pv 1) pe_int (fun _ _ => rfl))) (pa_cons (pe_op op_mulX (pe_ix ix_tup (pv 0) pe_int (fun _ _ => rfl)) (pe_ix ix_tup (pv 1) pe_int (fun _ _ => rfl))) pa_nil)))))))))
        (pss_one (ps_ret pe_bl))
        pss_nil)
      (pss_one (ps_ret (pe_call G_l_is_flag (hr.mono (by decide)) (by rfl) T.g_l_is_flag T.k_l_is_flag T.b_l_is_flag .nil pass0 (pa_cons (pe_call G_is_below (hr.mono (by decide)) (by rfl) T.g_is_below T.k_is_below T.b_is_below .nil pass0 (pa_cons (pv 0) (pa_cons (pv 1) pa_nil))) (pa_cons (pe_cmpR op_lt (pe_op op_mulX (pe_ix ix_tup (pv 0) pe_int (fun _ _ => rfl)) (pe_ix ix_tup (pv 1) pe_int (fun _ _ => rfl))) (pe_op op_mulX (pe_ix ix_tup (pv 1) pe_int (fun _ _ => rfl)) (pe_ix ix_tup (pv 0) pe_int (fun _ _ => rfl))) (nomark _)) pa_nil))))))))), ?_⟩
    walk_at "r"
    refine ⟨_, _, r, s, rfl, i1, i2, B1, B2, trivial, fun H1 v1 s1 (e1 : IsF H1 v1 (r + s)) => ?_⟩
    have h1 := s1 _ _ h1
    have h2 := s1 _ _ h2
    walk_at "r"
    · refine ⟨_, _, _, _, rfl, e1, (b1.add b2).mono (by decide), z1, (up2 m1 m2).1, up m3, cr_add r s, ?_⟩
      walk_at "r"
      refine ⟨_, _, r, s, rfl, i1.same s1, i2.same s1, B1, B2, trivial, fun H2 v2 s2 (e2 : IsF H2 v2 (r - s)) => ?_⟩
      have h1 := s2 _ _ h1
      have h2 := s2 _ _ h2
      have s2 := s1.trans s2
      walk_at "r"
      · refine ⟨_, _, _, _, rfl, e2, (b1.sub b2).mono (by decide), z1, (up2 m1 m2).2, up m3, cr_sub r s, ?_⟩
        walk_at "r"
        refine ⟨_, _, r, s, rfl, i1.same s2, i2.same s2, B1, B2, trivial, fun H3 v3 s3 (e3 : IsF H3 v3 (r * s)) => ?_⟩
        have h1 := s3 _ _ h1
        have h2 := s3 _ _ h2
        have s3 := s2.trans s3
        walk_at "r"
        · refine ⟨_, _, _, _, rfl, e3, (b1.mul b2).mono (by decide), z1, up m4, up m3, cr_mul r s, ?_⟩
          walk_at "r"
          refine ⟨fun σ H' => σ = [some (.ref p1), some (.ref p2)] ∧ Same H H', ?_, ?_⟩
          · walk_at "r"
            walk_at "if"
            · rename_i hz
              have hs0 : s ≠ 0 := fun e => hz (by rw [e]; rfl)
              walk_at "r"
              refine ⟨_, _, r, s, rfl, i1.same s3, i2.same s3, B1, B2, hs0, fun H4 v4 s4 (e4 : IsF H4 v4 (r / s)) => ?_⟩
              have h1 := s4 _ _ h1
              have h2 := s4 _ _ h2
              have s4 := s3.trans s4
              walk_at "r"
              · refine ⟨_, _, _, _, rfl, e4, (b1.div hs0 b2).mono (by decide), Int.mul_ne_zero (by omega) hz, up m1, up m5, cr_div r s, ?_⟩
                walk_at "r"
                exact ⟨rfl, s4⟩
              all_goals exact c (by assumption) (by assumption)
            · walk_at "r"
              exact ⟨rfl, s3⟩
          · rintro σ H4 ⟨rfl, s4⟩
            have h1 := s4 _ _ h1'
            have h2 := s4 _ _ h2'
            have el : decide (r < s) = decide (r.num * s.den < s.num * r.den) := by
              rw [Bool.eq_iff_iff, decide_eq_true_eq, decide_eq_true_eq]
              exact Rat.lt_iff r s
            walk_at "r"
            refine ⟨_, _, r, s, rfl, i1.same s4, i2.same s4, B1, B2, ?_⟩
            walk_at "r"
            · refine ⟨_, by rw [el]; rfl, ?_⟩
              exact q _ s4
            all_goals exact c (by assumption) (by assumption)
        all_goals exact c (by assumption) (by assumption)
      all_goals exact c (by assumption) (by assumption)
    all_goals exact c (by assumption) (by assumption)
end
end My
namespace My
open PySem PySem.Spec PyProof.Rows L2
section
variable {P : Program} {w : World} {K : PySem.W.Frag} {mg : Str → Option Value} {base : Heap} {f_is_integer f_is_fraction f_lowest f_added f_negated f_lessened f_multiplied f_divided f_lies_below f_fraction f_check_both f_plus f_minus f_times f_over f_is_below f_l_deck f_l_pick f_l_divisor f_l_fraction f_l_is_it f_l_is_flag f_l_are_reckoned f_law : Addr} {d_is_integer d_is_fraction d_lowest d_added d_negated d_lessened d_multiplied d_divided d_lies_below d_fraction d_check_both d_plus d_minus d_times d_over d_is_below d_l_deck d_l_pick d_l_divisor d_l_fraction d_l_is_it d_l_is_flag d_l_are_reckoned d_law : FuncData}
def sp_law (K : PySem.W.Frag) : Sp := fun vs H Q _ => ∃ (a : Addr) (ns : List Int), vs = [.ref a] ∧ SqL K H a (ns.map V.int) ∧ ns.length ≤ 63 ∧ (∀ z ∈ ns, Builtin.Int.intBits z ≤ 1048576) ∧ ∀ H', Q (.bl true) H'
theorem just_one (r s : Rat) : (([decide (r < s), decide (r = s), decide (s < r)].count true : Nat) : Int) = 1 := by
  by_cases h1 : r < s
  · have h2 : ¬ r = s := Rat.ne_of_lt h1
    have h3 : ¬ s < r := fun h => Rat.not_le.mpr h1 (Rat.le_of_lt h)
    simp [h1, h2, h3]
  · by_cases h2 : r = s
    · subst h2
      simp [h1]
    · have h3 : s < r := Rat.lt_of_le_of_ne (Rat.not_lt.mp h1) (fun e => h2 e.symm)
      simp [h1, h2, h3]
/-- three fractions and the deck: what holds between the steps of a turn -/
structure Mid (D : Addr) (n : Nat) (x y z : V) (r s t : Rat) (H : Hp) : Prop where
  d : Deck 1048576 D H n
  x : IsF H x r
  y : IsF H y s
  z : IsF H z t
theorem Mid.same {D : Addr} {n : Nat} {x y z : V} {r s t : Rat} {H H' : Hp} (m : Mid D n x y z r s t H) (e : Same H H') : Mid D n x y z r s t H' := ⟨m.d.same e, m.x.same e, m.y.same e, m.z.same e⟩
theorem ok_law (T : Txt K mg f_is_integer f_is_fraction f_lowest f_added f_negated f_lessened f_multiplied f_divided f_lies_below f_fraction f_check_both f_plus f_minus f_times f_over f_is_below f_l_deck f_l_pick f_l_divisor f_l_fraction f_l_is_it f_l_is_flag f_l_are_reckoned f_law d_is_integer d_is_fraction d_lowest d_added d_negated d_lessened d_multiplied d_divided d_lies_below d_fraction d_check_both d_plus d_minus d_times d_over d_is_below d_l_deck d_l_pick d_l_divisor d_l_fraction d_l_is_it d_l_is_flag d_l_are_reckoned d_law) : FnOk P w K mg base CX0 6 f_law d_law ["_law_script"] (sp_law K) := by
  have G_plus : FnOk P w K mg base CX0 4 f_plus d_plus ["one", "other"] sp_added := ok_plus T
  have G_minus : FnOk P w K mg base CX0 4 f_minus d_minus ["one", "other"] sp_lessened := ok_minus T
  have G_times : FnOk P w K mg base CX0 4 f_times d_times ["one", "other"] sp_multiplied := ok_times T
  have G_over : FnOk P w K mg base CX0 4 f_over d_over ["one", "other"] sp_divided := ok_over T
  have G_is_below : FnOk P w K mg base CX0 4 f_is_below d_is_below ["one", "other"] sp_lies_below := ok_is_below T
  have G_fraction : FnOk P w K mg base CX0 2 f_fraction d_fraction ["top", "bottom"] sp_fraction := ok_fraction T
  have G_l_are_reckoned : FnOk P w K mg base CX0 5 f_l_are_reckoned d_l_are_reckoned ["_law_one", "_law_other"] sp_reck := ok_l_are_reckoned T
  have G_l_deck : FnOk P w K mg base CX0 1 f_l_deck d_l_deck ["_law_script"] (sp_deck K) := ok_l_deck T
  have G_l_pick : FnOk P w K mg base CX0 1 f_l_pick d_l_pick ["_law_deck_here", "_law_many"] (sp_pick 1048576) := ok_pick (by decide) (by decide) T
  have G_l_fraction : FnOk P w K mg base CX0 2 f_l_fraction d_l_fraction ["_law_deck_here"] (sp_fr 1048576 960 40) := ok_l_fraction (by decide) (by decide) T
  refine T.F_law.ok sc_law (fun vs H Q E h => ?_) (fun cdv A outer sh H vs Q E hr h => ?_)
  · obtain ⟨a, ns, rfl, _⟩ := h
    rfl
  · obtain ⟨a, ns, rfl, hS, hl, hb, q⟩ := h
    refine ⟨_, (pss_cons (ps_set (i := 1) sc_law.nd rfl (Or.inl rfl) (pe_call G_l_deck (hr.mono (by decide)) (by rfl) T.g_l_deck T.k_l_deck T.b_l_deck .nil pass0 (pa_cons (pv 0) pa_nil)))
      (pss_cons (ps_for PassesOwn.never rfl (pi_range1 (by rfl) T.z_range (pa_cons (pe_op op_add pe_int (pe_callB (call_minN rfl) (by rfl) T.z_min (by decide +kernel) (pa_cons (pe_callB call_lenN (by rfl) T.z_len (by decide +kernel) (pa_cons (pv 0) pa_nil)) (pa_cons pe_int pa_nil)))) pa_nil)) (pg_name (i := 2) sc_law.nd rfl (Or.inl rfl))
        (pss_cons (ps_set (i := 3) sc_law.nd rfl (Or.inl rfl) (pe_call G_l_fraction (hr.mono (by decide)) (by rfl) T.g_l_fraction T.k_l_fraction T.b_l_fraction .nil pass0 (pa_cons (pv 1) pa_nil)))
          (pss_cons (ps_set (i := 4) sc_law.nd rfl (Or.inl rfl) (pe_ix ix_list (pe_lst (pa_cons (pe_call G_l_fraction (hr.mono (by decide)) (by rfl) T.g_l_fraction T.k_l_fraction T.b_l_fraction .nil pass0 (pa_cons (pv 1) pa_nil)) (pa_cons (pv 3) pa_nil))) (pe_callTy call_intN (by rfl) T.z_int (by decide +kernel) (pa_cons (pe_cmpR op_eq (pe_call G_l_pick (hr.mono (by decide)) (by rfl) T.g_l_pick T.k_l_pick T.b_l_pick .nil pass0 (pa_cons (pv 1) (pa_cons pe_int pa_nil))) pe_int (nomark _)) pa_nil)) (fun _ _ => rfl)))
          (C8.pss_cut (ps_set (i := 5) sc_law.nd rfl (Or.inl rfl) (pe_call G_l_fraction (hr.mono (by decide)) (by rfl) T.g_l_fraction T.k_l_fraction T.b_l_fraction .nil pass0 (pa_cons (pv 1) pa_nil)))
          (C8.pss_cut (ps_if (PW.pt (pw_or (pt_not (pt_val (pe_call G_l_are_reckoned (hr.mono (by decide)) (by rfl) T.g_l_are_reckoned T.k_l_are_reckoned T.b_l_are_reckoned .nil pass0 (pa_cons (pv 3) (pa_cons (pv 4) pa_nil))))) (pw_or1 (pt_not (pt_val (pe_call G_l_are_reckoned (hr.mono (by decide)) (by rfl) T.g_l_are_reckoned T.k_l_are_reckoned T.b_l_are_reckoned .nil pass0 (pa_cons (pv 4) (pa_cons (pv 5) pa_nil))))))))
            (pss_one (ps_ret pe_bl))
            pss_nil)
          (C8.pss_cut (ps_if (PW.pt (pw_or (pt_cmpR (op_neD hr.units) (pe_call G_minus (hr.mono (by decide)) (by rfl) T.g_minus T.k_minus T.b_minus .nil pass0 (pa_cons (pe_call G_plus (hr.mono (by decide)) (by rfl) T.g_plus T.k_plus T.b_plus .nil pass0 (pa_cons (pv 3) (pa_cons (pv 4) pa_nil))) (pa_cons (pv 4) pa_nil))) (pv 3) (nomark _)) (pw_or1 (pt_cmpR (op_neD hr.units) (pe_call G_plus (hr.mono (by decide)) (by rfl) T.g_plus T.k_plus T.b_plus .nil pass0 (pa_cons (pv 3) (pa_cons (pv 4) pa_nil))) (pe_call G_plus (hr.mono (by decide)) (by rfl) T.g_plus T.k_plus T.b_plus .nil pass0 (pa_cons (pv 4) (pa_cons (pv 3) pa_nil))) (nomark _)))))
            (pss_one (ps_ret pe_bl))
            pss_nil)
          (C8.pss_cut (ps_if (PW.pt (pw_or (pt_cmpR (op_neD hr.units) (pe_call G_times (hr.mono (by decide)) (by rfl) T.g_times T.k_times T.b_times .nil pass0 (pa_cons (pv 3) (pa_cons (pv 4) pa_nil))) (pe_call G_times (hr.mono (by decide)) (by rfl) T.g_times T.k_times T.b_times .nil pass0 (pa_cons (pv 4) (pa_cons (pv 3) pa_nil))) (nomark _)) (pw_or1 (pt_cmpR (op_neD hr.units) (pe_call G_plus (hr.mono (by decide)) (by rfl) T.g_plus T.k_plus T.b_plus .nil pass0 (pa_cons (pe_call G_plus (hr.mono (by decide)) (by rfl) T.g_plus T.k_plus T.b_plus .nil pass0 (pa_cons (pv 3) (pa_cons (pv 4) pa_nil))) (pa_cons (pv 5) pa_nil))) (pe_call G_plus (hr.mono (by decide)) (by rfl) T.g_plus T.k_plus T.b_plus .nil pass0 (pa_cons (pv 3) (pa_cons (pe_call G_plus (hr.mono (by decide)) (by rfl) T.g_plus T.k_plus T.b_plus .nil pass0 (pa_cons (pv 4) (pa_cons (pv 5) pa_nil))) pa_nil))) (nomark _)))))
            (pss_one (ps_ret pe_bl))
            pss_nil)
          (C8.pss_cut (ps_if (pt_cmpR (op_neD hr.units) (pe_call G_times (hr.mono (by decide)) (by rfl) T.g_times T.k_times T.b_times .nil pass0 (pa_cons (pv 3) (pa_cons (pe_call G_plus (hr.mono (by decide)) (by rfl) T.g_plus T.k_plus T.b_plus .nil pass0 (pa_cons (pv 4) (pa_cons (pv 5) pa_nil))) pa_nil))) (pe_call G_plus (hr.mono (by decide)) (by rfl) T.g_plus T.k_plus T.b_plus .nil pass0 (pa_cons (pe_call G_times (hr.mono (by decide)) (by rfl) T.g_times T.k_times T.b_times .nil pass0 (pa_cons (pv 3) (pa_cons (pv 4) pa_nil))) (pa_cons (pe_call G_times (hr.mono (by decide)) (by rfl) T.g_times T.k_times T.b_times .nil pass0 (pa_cons (pv 3) (pa_cons (pv 5) pa_nil))) pa_nil))) (nomark _))
            (pss_one (ps_ret pe_bl))
            pss_nil)
          (C8.pss_cut (ps_if (PW.pt (pw_and (pt_cmpR op_ne (pe_ix ix_tup (pv 4) pe_int (fun _ _ => rfl)) pe_int (nomark _)) (pw_and1 (PW.pt (pw_or (pt_cmpR (op_neD hr.units) (pe_call G_over (hr.mono (by decide)) (by rfl) T.g_over T.k_over T.b_over .nil pass0 (pa_cons (pe_call G_times (hr.mono (by decide)) (by rfl) T.g_times T.k_times T.b_times .nil pass0 (pa_cons (pv 3) (pa_cons (pv 4) pa_nil))) (pa_cons (pv 4) pa_nil))) (pv 3) (nomark _)) (pw_or1 (pt_cmpR (op_neD hr.units) (pe_call G_times (hr.mono (by decide)) (by rfl) T.g_times T.k_times T.b_times .nil pass0 (pa_cons (pe_call G_over (hr.mono (by decide)) (by rfl) T.g_over T.k_over T.b_over .nil pass0 (pa_cons (pv 3) (pa_cons (pv 4) pa_nil))) (pa_cons (pv 4) pa_nil))) (pv 3) (nomark _))))))))
            (pss_one (ps_ret pe_bl))
            pss_nil)
          (C8.pss_cut (ps_if (pt_cmpR op_ne (pe_bm PySem.F.plainAttrs_list PySem.F.slot_list_count PySem.F.type_list_count mt_bcount (pe_lst (pa_cons (pe_call G_is_below (hr.mono (by decide)) (by rfl) T.g_is_below T.k_is_below T.b_is_below .nil pass0 (pa_cons (pv 3) (pa_cons (pv 4) pa_nil))) (pa_cons (pe_cmpR (op_eqD hr.units) (pv 3) (pv 4) (nomark _)) (pa_cons (pe_call G_is_below (hr.mono (by decide)) (by rfl) T.g_is_below T.k_is_below T.b_is_below .nil pass0 (pa_cons (pv 4) (pa_cons (pv 3) pa_nil))) pa_nil)))) (pa_cons pe_bl pa_nil)) pe_int (nomark _))
            (pss_one (ps_ret pe_bl))
            pss_nil)
          (C8.pss_cut (ps_if (pt_cmpR op_ne (pe_call G_is_below (hr.mono (by decide)) (by rfl) T.g_is_below T.k_is_below T.b_is_below .nil pass0 (pa_cons (pe_call G_plus (hr.mono (by decide)) (by rfl) T.g_plus T.k_plus T.b_plus .nil pass0 (pa_cons (pv 3) (pa_cons (pv 5) pa_nil))) (pa_cons (pe_call G_plus (hr.mono (by decide)) (by rfl) T.g_plus T.k_plus T.b_plus .nil pass0 (pa_cons (pv 4) (pa_cons (pv 5) pa_nil))) pa_nil))) (pe_call G_is_below (hr.mono (by decide)) (by rfl) T.g_is_below T.k_is_below T.b_is_below .nil pass0 (pa_cons (pv 3) (pa_cons (pv 4) pa_nil))) (nomark _))
            (pss_one (ps_ret pe_bl))
            pss_nil)
          (pss_one (ps_if (PW.pt (pw_or (pt_cmpR (op_neD hr.units) (pe_call G_fraction (hr.mono (by decide)) (by rfl) T.g_fraction T.k_fraction T.b_fraction .nil pass0 (pa_cons (pe_ix ix_tup (pv 3) pe_int (fun _ _ => rfl)) (pa_cons (pe_ix ix_tup (pv 3) pe_int (fun _ _ => rfl)) pa_nil))) (pv 3) (nomark _)) (pw_or1 (pt_cmpR (op_neD hr.units) (pe_call G_minus (hr.mono (by decide)) (by rfl) T.g_minus T.k_minus T.b_minus .nil pass0 (pa_cons (pv 3) (pa_cons (pv 3) pa_nil))) (pe_tup (pa_cons pe_int (pa_cons pe_int pa_nil))) (nomark _)))))
            (pss_one (ps_ret pe_bl))
            pss_nil)))))))))))))
      (pss_one (ps_ret pe_bl)))), ?_⟩
    walk_at "r"
    refine ⟨_, _, rfl, hS, hl, hb, fun H1 D s1 k1 => ?_⟩
    walk_at "r"
    refine rd_lenS ?_ (s1.seq hS)
    walk_at "r"
    refine ⟨by omega, by omega, ?_⟩
    have hm : min ((ns.map V.int).length : Int) 20 ≤ 20 := Int.min_le_right _ _
    refine for_range (lo := 0) (n := (2 + min ((ns.map V.int).length : Int) 12).toNat) (fun i σ H' => ∃ (t2 t3 t4 t5 : Option V), σ = [some (.ref a), some (.ref D), t2, t3, t4, t5] ∧ Deck 1048576 D H' (200 * i)) ?_ ?_ ?_
    · exact ⟨_, _, _, _, rfl, k1⟩
    · rintro i σ H' hi ⟨t2, t3, t4, t5, rfl, k⟩
      have hi2 : i < 20 := by omega
      walk_at "r"
      refine ⟨_, _, rfl, k, by omega, fun H2 v1 r w2 k2 e1 b1 => ?_⟩
      walk_at "r"
      refine ⟨_, _, rfl, k2, by omega, fun H3 v2 s w3 k3 e2 b2 => ?_⟩
      have e1 := e1.fw k2 w3
      walk_at "r"
      intro L nL
      have k3' := k3
      have k3 := k3.same (same_upd (o := .lst [v2, v1]) nL)
      have e1 := e1.same (same_upd (o := .lst [v2, v1]) nL)
      have e2 := e2.same (same_upd (o := .lst [v2, v1]) nL)
      have hL : L ≠ D := k3'.ne nL
      walk_at "r"
      refine ⟨_, _, _, rfl, ⟨by decide, by decide⟩, k3, by omega, fun H4 r4 w4 k4 a4 b4 => ?_⟩
      have hL4 : H4 L = some (.lst [v2, v1]) := w4 _ _ hL upd_same
      have e1 := e1.fw k3 w4
      have e2 := e2.fw k3 w4
      obtain ⟨v, s', ev, ey, bs⟩ : ∃ v s', atI [v2, v1] (if decide (r4 = 7) = true then 1 else 0) = some v ∧ IsF H4 v s' ∧ Bd 960 s' := by
        by_cases h7 : r4 = 7
        · rw [if_pos (decide_eq_true h7)]
          exact ⟨v1, r, rfl, e1, b1⟩
        · rw [if_neg (by simpa using h7)]
          exact ⟨v2, s, rfl, e2, b2⟩
      walk_at "r"
      refine rd_ixL hL4 ev ?_
      clear ev hL4 e2 b2 w4 hL k3 nL w3 w2 k2
      obtain ⟨p1, rfl, _⟩ := id e1
      obtain ⟨p2, rfl, _⟩ := id ey
      walk_at "r"
      refine ⟨fun σ H' => ∃ p3 t, σ = [some (.ref a), some (.ref D), some (.int (0 + i)), some (.ref p1), some (.ref p2), some (.ref p3)] ∧ Bd 960 t ∧ Mid D (200 * (i + 1)) (.ref p1) (.ref p2) (.ref p3) r s' t H', ?_, ?_⟩
      · walk_at "r"
        refine ⟨_, _, rfl, k4, by omega, fun H5 v5 t w5 k5 e5 b5 => ?_⟩
        have e1 := e1.fw k4 w5
        have ey := ey.fw k4 w5
        obtain ⟨p3, rfl, _⟩ := id e5
        walk_at "r"
        exact ⟨p3, t, rfl, b5, k5.mono (by omega), e1, ey, e5⟩
      rintro σ H5 ⟨p3, t, rfl, bt, m⟩
      clear e1 ey k4
      have B1 : Bd 4000 r := b1.mono (by decide)
      have B2 : Bd 4000 s' := bs.mono (by decide)
      have B3 : Bd 4000 t := bt.mono (by decide)
      -- reckoned
      refine ⟨fun σ H' => σ = [some (.ref a), some (.ref D), some (.int (0 + i)), some (.ref p1), some (.ref p2), some (.ref p3)] ∧ Mid D (200 * (i + 1)) (.ref p1) (.ref p2) (.ref p3) r s' t H', ?_, ?_⟩
      · walk_at "r"
        refine ⟨_, _, _, _, rfl, m.x, m.y, b1, bs, fun H6 s6 => ?_⟩
        have m := m.same s6
        walk_at "r"
        refine ⟨_, _, _, _, rfl, m.y, m.z, bs, bt, fun H7 s7 => ?_⟩
        have m := m.same s7
        walk_at "r"
        exact ⟨rfl, m⟩
      clear m
      rintro σ H5 ⟨rfl, m⟩
      -- minus undoes plus, plus either way
      refine ⟨fun σ H' => σ = [some (.ref a), some (.ref D), some (.int (0 + i)), some (.ref p1), some (.ref p2), some (.ref p3)] ∧ Mid D (200 * (i + 1)) (.ref p1) (.ref p2) (.ref p3) r s' t H', ?_, ?_⟩
      · have q1 : r + s' - s' = r := Rat.add_sub_cancel
        have q2 : r + s' = s' + r := Rat.add_comm r s'
        walk_at "r"
        refine ⟨_, _, _, _, rfl, m.x, m.y, B1, B2, trivial, fun H6 u6 s6 (e6 : IsF H6 u6 (r + s')) => ?_⟩
        have m := m.same s6
        walk_at "r"
        refine ⟨_, _, _, _, rfl, e6, m.y, (b1.add bs).mono (by decide), B2, trivial, fun H7 u7 s7 (e7 : IsF H7 u7 (r + s' - s')) => ?_⟩
        have m := m.same s7
        walk_at "r"
        refine neF e7 m.x ?_
        walk_at "r"
        refine ⟨_, _, _, _, rfl, m.x, m.y, B1, B2, trivial, fun H8 u8 s8 (e8 : IsF H8 u8 (r + s')) => ?_⟩
        have m := m.same s8
        walk_at "r"
        refine ⟨_, _, _, _, rfl, m.y, m.x, B2, B1, trivial, fun H9 u9 s9 (e9 : IsF H9 u9 (s' + r)) => ?_⟩
        have m := m.same s9
        have e8 := e8.same s9
        walk_at "r"
        refine neF e8 e9 ?_
        walk_at "r"
        exact ⟨rfl, m⟩
      clear m
      rintro σ H5 ⟨rfl, m⟩
      -- times either way, plus of three
      refine ⟨fun σ H' => σ = [some (.ref a), some (.ref D), some (.int (0 + i)), some (.ref p1), some (.ref p2), some (.ref p3)] ∧ Mid D (200 * (i + 1)) (.ref p1) (.ref p2) (.ref p3) r s' t H', ?_, ?_⟩
      · have q1 : r * s' = s' * r := Rat.mul_comm r s'
        have q2 : r + s' + t = r + (s' + t) := Rat.add_assoc r s' t
        walk_at "r"
        refine ⟨_, _, _, _, rfl, m.x, m.y, B1, B2, trivial, fun H6 u6 s6 (e6 : IsF H6 u6 (r * s')) => ?_⟩
        have m := m.same s6
        walk_at "r"
        refine ⟨_, _, _, _, rfl, m.y, m.x, B2, B1, trivial, fun H7 u7 s7 (e7 : IsF H7 u7 (s' * r)) => ?_⟩
        have m := m.same s7
        have e6 := e6.same s7
        walk_at "r"
        refine neF e6 e7 ?_
        walk_at "r"
        refine ⟨_, _, _, _, rfl, m.x, m.y, B1, B2, trivial, fun H8 u8 s8 (e8 : IsF H8 u8 (r + s')) => ?_⟩
        have m := m.same s8
        walk_at "r"
        refine ⟨_, _, _, _, rfl, e8, m.z, (b1.add bs).mono (by decide), B3, trivial, fun H9 u9 s9 (e9 : IsF H9 u9 (r + s' + t)) => ?_⟩
        have m := m.same s9
        walk_at "r"
        refine ⟨_, _, _, _, rfl, m.y, m.z, B2, B3, trivial, fun Ha ua sa (ea : IsF Ha ua (s' + t)) => ?_⟩
        have m := m.same sa
        have e9 := e9.same sa
        walk_at "r"
        refine ⟨_, _, _, _, rfl, m.x, ea, B1, (bs.add bt).mono (by decide), trivial, fun Hb ub sb (eb : IsF Hb ub (r + (s' + t))) => ?_⟩
        have m := m.same sb
        have e9 := e9.same sb
        walk_at "r"
        refine neF e9 eb ?_
        walk_at "r"
        exact ⟨rfl, m⟩
      clear m
      rintro σ H5 ⟨rfl, m⟩
      -- times over plus
      refine ⟨fun σ H' => σ = [some (.ref a), some (.ref D), some (.int (0 + i)), some (.ref p1), some (.ref p2), some (.ref p3)] ∧ Mid D (200 * (i + 1)) (.ref p1) (.ref p2) (.ref p3) r s' t H', ?_, ?_⟩
      · have q1 : r * (s' + t) = r * s' + r * t := Rat.mul_add r s' t
        walk_at "r"
        refine ⟨_, _, _, _, rfl, m.y, m.z, B2, B3, trivial, fun H6 u6 s6 (e6 : IsF H6 u6 (s' + t)) => ?_⟩
        have m := m.same s6
        walk_at "r"
        refine ⟨_, _, _, _, rfl, m.x, e6, B1, (bs.add bt).mono (by decide), trivial, fun H7 u7 s7 (e7 : IsF H7 u7 (r * (s' + t))) => ?_⟩
        have m := m.same s7
        walk_at "r"
        refine ⟨_, _, _, _, rfl, m.x, m.y, B1, B2, trivial, fun H8 u8 s8 (e8 : IsF H8 u8 (r * s')) => ?_⟩
        have m := m.same s8
        have e7 := e7.same s8
        walk_at "r"
        refine ⟨_, _, _, _, rfl, m.x, m.z, B1, B3, trivial, fun H9 u9 s9 (e9 : IsF H9 u9 (r * t)) => ?_⟩
        have m := m.same s9
        have e7 := e7.same s9
        have e8 := e8.same s9
        walk_at "r"
        refine ⟨_, _, _, _, rfl, e8, e9, (b1.mul bs).mono (by decide), (b1.mul bt).mono (by decide), trivial, fun Ha ua sa (ea : IsF Ha ua (r * s' + r * t)) => ?_⟩
        have m := m.same sa
        have e7 := e7.same sa
        walk_at "r"
        refine neF e7 ea ?_
        walk_at "r"
        exact ⟨rfl, m⟩
      clear m
      rintro σ H5 ⟨rfl, m⟩
      -- over undoes times
      refine ⟨fun σ H' => σ = [some (.ref a), some (.ref D), some (.int (0 + i)), some (.ref p1), some (.ref p2), some (.ref p3)] ∧ Mid D (200 * (i + 1)) (.ref p1) (.ref p2) (.ref p3) r s' t H', ?_, ?_⟩
      · have hy := m.y.at
        walk_at "r"
        walk_at "if"
        · rename_i hz
          have hs0 : s' ≠ 0 := fun e => hz (by rw [e]; rfl)
          have q1 : r * s' / s' = r := Rat.mul_div_cancel hs0
          have q2 : r / s' * s' = r := Rat.div_mul_cancel hs0
          walk_at "r"
          refine ⟨_, _, _, _, rfl, m.x, m.y, B1, B2, trivial, fun H6 u6 s6 (e6 : IsF H6 u6 (r * s')) => ?_⟩
          have m := m.same s6
          walk_at "r"
          refine ⟨_, _, _, _, rfl, e6, m.y, (b1.mul bs).mono (by decide), B2, hs0, fun H7 u7 s7 (e7 : IsF H7 u7 (r * s' / s')) => ?_⟩
          have m := m.same s7
          walk_at "r"
          refine neF e7 m.x ?_
          walk_at "r"
          refine ⟨_, _, _, _, rfl, m.x, m.y, B1, B2, hs0, fun H8 u8 s8 (e8 : IsF H8 u8 (r / s')) => ?_⟩
          have m := m.same s8
          walk_at "r"
          refine ⟨_, _, _, _, rfl, e8, m.y, (b1.div hs0 bs).mono (by decide), B2, trivial, fun H9 u9 s9 (e9 : IsF H9 u9 (r / s' * s')) => ?_⟩
          have m := m.same s9
          walk_at "r"
          refine neF e9 m.x ?_
          walk_at "r"
          exact ⟨rfl, m⟩
        · walk_at "r"
          exact ⟨rfl, m⟩
      clear m
      rintro σ H5 ⟨rfl, m⟩
      -- just one of below, the same, above
      refine ⟨fun σ H' => σ = [some (.ref a), some (.ref D), some (.int (0 + i)), some (.ref p1), some (.ref p2), some (.ref p3)] ∧ Mid D (200 * (i + 1)) (.ref p1) (.ref p2) (.ref p3) r s' t H', ?_, ?_⟩
      · have q1 := just_one r s'
        walk_at "r"
        refine ⟨_, _, _, _, rfl, m.x, m.y, B1, B2, ?_⟩
        walk_at "r"
        refine eqF m.x m.y ?_
        walk_at "r"
        refine ⟨_, _, _, _, rfl, m.y, m.x, B2, B1, ?_⟩
        walk_at "r"
        intro p np
        refine ⟨Or.inl ⟨rfl, _, .of upd_same⟩, ?_⟩
        walk_at "r"
        refine ⟨_, [decide (r < s'), decide (r = s'), decide (s' < r)], true, rfl, rfl, .of upd_same, ?_⟩
        walk_at "r"
        exact ⟨rfl, m.same (same_upd np)⟩
      clear m
      rintro σ H5 ⟨rfl, m⟩
      -- a third one on either side
      refine ⟨fun σ H' => σ = [some (.ref a), some (.ref D), some (.int (0 + i)), some (.ref p1), some (.ref p2), some (.ref p3)] ∧ Mid D (200 * (i + 1)) (.ref p1) (.ref p2) (.ref p3) r s' t H', ?_, ?_⟩
      · have q1 : decide (r + t < s' + t) = decide (r < s') := by
          rw [Bool.eq_iff_iff, decide_eq_true_eq, decide_eq_true_eq]
          exact Rat.add_lt_add_right
        walk_at "r"
        refine ⟨_, _, _, _, rfl, m.x, m.z, B1, B3, trivial, fun H6 u6 s6 (e6 : IsF H6 u6 (r + t)) => ?_⟩
        have m := m.same s6
        walk_at "r"
        refine ⟨_, _, _, _, rfl, m.y, m.z, B2, B3, trivial, fun H7 u7 s7 (e7 : IsF H7 u7 (s' + t)) => ?_⟩
        have m := m.same s7
        have e6 := e6.same s7
        walk_at "r"
        refine ⟨_, _, _, _, rfl, e6, e7, (b1.add bt).mono (by decide), (bs.add bt).mono (by decide), ?_⟩
        walk_at "r"
        refine ⟨_, _, _, _, rfl, m.x, m.y, B1, B2, ?_⟩
        walk_at "r"
        exact ⟨rfl, m⟩
      clear m
      rintro σ H5 ⟨rfl, m⟩
      -- fraction again, less itself
      have q1 : Rat.divInt r.num r.den = r := low_self r
      have q2 : r - r = 0 := Rat.sub_self
      have hx := m.x.at
      have dp := den_pos r
      walk_at "r"
      refine ⟨_, _, rfl, by omega, by rw [Int.natAbs_natCast]; exact Nat.lt_of_lt_of_le b1.2 (pow_le (by decide)), fun H6 u6 s6 e6 => ?_⟩
      have m := m.same s6
      walk_at "r"
      refine neF e6 m.x ?_
      walk_at "r"
      refine ⟨_, _, _, _, rfl, m.x, m.x, B1, B1, trivial, fun H7 u7 s7 (e7 : IsF H7 u7 (r - r)) => ?_⟩
      have m := m.same s7
      walk_at "r"
      intro p np
      refine neF (e7.same (same_upd np)) (isF_new (r := 0) rfl rfl) ?_
      walk_at "r"
      exact ⟨_, _, _, _, rfl, m.d.same (same_upd np)⟩
    · rintro σ H' ⟨t2, t3, t4, t5, rfl, k⟩
      walk_at "r"
      exact q _
theorem ok_all (T : Txt K mg f_is_integer f_is_fraction f_lowest f_added f_negated f_lessened f_multiplied f_divided f_lies_below f_fraction f_check_both f_plus f_minus f_times f_over f_is_below f_l_deck f_l_pick f_l_divisor f_l_fraction f_l_is_it f_l_is_flag f_l_are_reckoned f_law d_is_integer d_is_fraction d_lowest d_added d_negated d_lessened d_multiplied d_divided d_lies_below d_fraction d_check_both d_plus d_minus d_times d_over d_is_below d_l_deck d_l_pick d_l_divisor d_l_fraction d_l_is_it d_l_is_flag d_l_are_reckoned d_law) : FnOk P w K mg base CX0 6 f_law d_law ["_law_script"] (sp_law K) := ok_law T
end
end My
namespace My
open PySem PySem.Spec PyProof.Rows L2
theorem all_mk {l : PySem.W.OpenLaw} {w : World} {K : PySem.W.Frag} {h : Heap} {mg : Str → Option Value} {fa : Addr} (X : K.In h) (G : h.Ns mainGlobals mg) (hfa : mg "law" = some (.ref fa))
    {od0 an0 : Option Addr} {sl0 : Array (Option Value)} {oc0 kV0 dc0 pm0 cd0 ct0 : Value} {f_is_integer : Addr}
    {od1 an1 : Option Addr} {sl1 : Array (Option Value)} {oc1 kV1 dc1 pm1 cd1 ct1 : Value} {f_is_fraction : Addr}
    {od2 an2 : Option Addr} {sl2 : Array (Option Value)} {oc2 kV2 dc2 pm2 cd2 ct2 : Value} {f_lowest : Addr}
    {od3 an3 : Option Addr} {sl3 : Array (Option Value)} {oc3 kV3 dc3 pm3 cd3 ct3 : Value} {f_added : Addr}
    {od4 an4 : Option Addr} {sl4 : Array (Option Value)} {oc4 kV4 dc4 pm4 cd4 ct4 : Value} {f_negated : Addr}
    {od5 an5 : Option Addr} {sl5 : Array (Option Value)} {oc5 kV5 dc5 pm5 cd5 ct5 : Value} {f_lessened : Addr}
    {od6 an6 : Option Addr} {sl6 : Array (Option Value)} {oc6 kV6 dc6 pm6 cd6 ct6 : Value} {f_multiplied : Addr}
    {od7 an7 : Option Addr} {sl7 : Array (Option Value)} {oc7 kV7 dc7 pm7 cd7 ct7 : Value} {f_divided : Addr}
    {od8 an8 : Option Addr} {sl8 : Array (Option Value)} {oc8 kV8 dc8 pm8 cd8 ct8 : Value} {f_lies_below : Addr}
    {od9 an9 : Option Addr} {sl9 : Array (Option Value)} {oc9 kV9 dc9 pm9 cd9 ct9 : Value} {f_fraction : Addr}
    {od10 an10 : Option Addr} {sl10 : Array (Option Value)} {oc10 kV10 dc10 pm10 cd10 ct10 : Value} {f_check_both : Addr}
    {od11 an11 : Option Addr} {sl11 : Array (Option Value)} {oc11 kV11 dc11 pm11 cd11 ct11 : Value} {f_plus : Addr}
    {od12 an12 : Option Addr} {sl12 : Array (Option Value)} {oc12 kV12 dc12 pm12 cd12 ct12 : Value} {f_minus : Addr}
    {od13 an13 : Option Addr} {sl13 : Array (Option Value)} {oc13 kV13 dc13 pm13 cd13 ct13 : Value} {f_times : Addr}
    {od14 an14 : Option Addr} {sl14 : Array (Option Value)} {oc14 kV14 dc14 pm14 cd14 ct14 : Value} {f_over : Addr}
    {od15 an15 : Option Addr} {sl15 : Array (Option Value)} {oc15 kV15 dc15 pm15 cd15 ct15 : Value} {f_is_below : Addr}
    {od16 an16 : Option Addr} {sl16 : Array (Option Value)} {oc16 kV16 dc16 pm16 cd16 ct16 : Value} {f_l_deck : Addr}
    {od17 an17 : Option Addr} {sl17 : Array (Option Value)} {oc17 kV17 dc17 pm17 cd17 ct17 : Value} {f_l_pick : Addr}
    {od18 an18 : Option Addr} {sl18 : Array (Option Value)} {oc18 kV18 dc18 pm18 cd18 ct18 : Value} {f_l_divisor : Addr}
    {od19 an19 : Option Addr} {sl19 : Array (Option Value)} {oc19 kV19 dc19 pm19 cd19 ct19 : Value} {f_l_fraction : Addr}
    {od20 an20 : Option Addr} {sl20 : Array (Option Value)} {oc20 kV20 dc20 pm20 cd20 ct20 : Value} {f_l_is_it : Addr}
    {od21 an21 : Option Addr} {sl21 : Array (Option Value)} {oc21 kV21 dc21 pm21 cd21 ct21 : Value} {f_l_is_flag : Addr}
    {od22 an22 : Option Addr} {sl22 : Array (Option Value)} {oc22 kV22 dc22 pm22 cd22 ct22 : Value} {f_l_are_reckoned : Addr}
    {od23 an23 : Option Addr} {sl23 : Array (Option Value)} {oc23 kV23 dc23 pm23 cd23 ct23 : Value} {f_law : Addr}
    (z_abs : PySem.W.nsIn K mainGlobals "abs" = some none)
    (z_bool : PySem.W.nsIn K mainGlobals "bool" = some none)
    (z_int : PySem.W.nsIn K mainGlobals "int" = some none)
    (z_isinstance : PySem.W.nsIn K mainGlobals "isinstance" = some none)
    (z_len : PySem.W.nsIn K mainGlobals "len" = some none)
    (z_min : PySem.W.nsIn K mainGlobals "min" = some none)
    (z_range : PySem.W.nsIn K mainGlobals "range" = some none)
    (z_tuple : PySem.W.nsIn K mainGlobals "tuple" = some none)
    (m_gcd : PySem.W.nsIn K mainGlobals "gcd" = some (some (.builtin "math.gcd")))
    (a_is_integer : PySem.W.nsIn K mainGlobals "is_integer" = some (some (.ref f_is_integer)))
    (l_is_integer : K.lookup f_is_integer = some ⟨oc0, od0, .func (PySem.W.fnOf "is_integer" "is_integer" (defArgs s_is_integer) (defBody s_is_integer) (defScope s_is_integer) .none kV0 dc0 pm0 an0 cd0 ct0), sl0⟩)
    (c_is_integer : PySem.W.codeIn K cd0 "is_integer" = true)
    (k_is_integer : PySem.W.keepIn K (.ref f_is_integer) = true)
    (a_is_fraction : PySem.W.nsIn K mainGlobals "is_fraction" = some (some (.ref f_is_fraction)))
    (l_is_fraction : K.lookup f_is_fraction = some ⟨oc1, od1, .func (PySem.W.fnOf "is_fraction" "is_fraction" (defArgs s_is_fraction) (defBody s_is_fraction) (defScope s_is_fraction) .none kV1 dc1 pm1 an1 cd1 ct1), sl1⟩)
    (c_is_fraction : PySem.W.codeIn K cd1 "is_fraction" = true)
    (k_is_fraction : PySem.W.keepIn K (.ref f_is_fraction) = true)
    (a_lowest : PySem.W.nsIn K mainGlobals "lowest" = some (some (.ref f_lowest)))
    (l_lowest : K.lookup f_lowest = some ⟨oc2, od2, .func (PySem.W.fnOf "lowest" "lowest" (defArgs s_lowest) (defBody s_lowest) (defScope s_lowest) .none kV2 dc2 pm2 an2 cd2 ct2), sl2⟩)
    (c_lowest : PySem.W.codeIn K cd2 "lowest" = true)
    (k_lowest : PySem.W.keepIn K (.ref f_lowest) = true)
    (a_added : PySem.W.nsIn K mainGlobals "added" = some (some (.ref f_added)))
    (l_added : K.lookup f_added = some ⟨oc3, od3, .func (PySem.W.fnOf "added" "added" (defArgs s_added) (defBody s_added) (defScope s_added) .none kV3 dc3 pm3 an3 cd3 ct3), sl3⟩)
    (c_added : PySem.W.codeIn K cd3 "added" = true)
    (k_added : PySem.W.keepIn K (.ref f_added) = true)
    (a_negated : PySem.W.nsIn K mainGlobals "negated" = some (some (.ref f_negated)))
    (l_negated : K.lookup f_negated = some ⟨oc4, od4, .func (PySem.W.fnOf "negated" "negated" (defArgs s_negated) (defBody s_negated) (defScope s_negated) .none kV4 dc4 pm4 an4 cd4 ct4), sl4⟩)
    (c_negated : PySem.W.codeIn K cd4 "negated" = true)
    (k_negated : PySem.W.keepIn K (.ref f_negated) = true)
    (a_lessened : PySem.W.nsIn K mainGlobals "lessened" = some (some (.ref f_lessened)))
    (l_lessened : K.lookup f_lessened = some ⟨oc5, od5, .func (PySem.W.fnOf "lessened" "lessened" (defArgs s_lessened) (defBody s_lessened) (defScope s_lessened) .none kV5 dc5 pm5 an5 cd5 ct5), sl5⟩)
    (c_lessened : PySem.W.codeIn K cd5 "lessened" = true)
    (k_lessened : PySem.W.keepIn K (.ref f_lessened) = true)
    (a_multiplied : PySem.W.nsIn K mainGlobals "multiplied" = some (some (.ref f_multiplied)))
    (l_multiplied : K.lookup f_multiplied = some ⟨oc6, od6, .func (PySem.W.fnOf "multiplied" "multiplied" (defArgs s_multiplied) (defBody s_multiplied) (defScope s_multiplied) .none kV6 dc6 pm6 an6 cd6 ct6), sl6⟩)
    (c_multiplied : PySem.W.codeIn K cd6 "multiplied" = true)
    (k_multiplied : PySem.W.keepIn K (.ref f_multiplied) = true)
    (a_divided : PySem.W.nsIn K mainGlobals "divided" = some (some (.ref f_divided)))
    (l_divided : K.lookup f_divided = some ⟨oc7, od7, .func (PySem.W.fnOf "divided" "divided" (defArgs s_divided) (defBody s_divided) (defScope s_divided) .none kV7 dc7 pm7 an7 cd7 ct7), sl7⟩)
    (c_divided : PySem.W.codeIn K cd7 "divided" = true)
    (k_divided : PySem.W.keepIn K (.ref f_divided) = true)
    (a_lies_below : PySem.W.nsIn K mainGlobals "lies_below" = some (some (.ref f_lies_below)))
    (l_lies_below : K.lookup f_lies_below = some ⟨oc8, od8, .func (PySem.W.fnOf "lies_below" "lies_below" (defArgs s_lies_below) (defBody s_lies_below) (defScope s_lies_below) .none kV8 dc8 pm8 an8 cd8 ct8), sl8⟩)
    (c_lies_below : PySem.W.codeIn K cd8 "lies_below" = true)
    (k_lies_below : PySem.W.keepIn K (.ref f_lies_below) = true)
    (a_fraction : PySem.W.nsIn K mainGlobals "fraction" = some (some (.ref f_fraction)))
    (l_fraction : K.lookup f_fraction = some ⟨oc9, od9, .func (PySem.W.fnOf "fraction" "fraction" (defArgs s_fraction) (defBody s_fraction) (defScope s_fraction) .none kV9 dc9 pm9 an9 cd9 ct9), sl9⟩)
    (c_fraction : PySem.W.codeIn K cd9 "fraction" = true)
    (k_fraction : PySem.W.keepIn K (.ref f_fraction) = true)
    (a_check_both : PySem.W.nsIn K mainGlobals "check_both" = some (some (.ref f_check_both)))
    (l_check_both : K.lookup f_check_both = some ⟨oc10, od10, .func (PySem.W.fnOf "check_both" "check_both" (defArgs s_check_both) (defBody s_check_both) (defScope s_check_both) .none kV10 dc10 pm10 an10 cd10 ct10), sl10⟩)
    (c_check_both : PySem.W.codeIn K cd10 "check_both" = true)
    (k_check_both : PySem.W.keepIn K (.ref f_check_both) = true)
    (a_plus : PySem.W.nsIn K mainGlobals "plus" = some (some (.ref f_plus)))
    (l_plus : K.lookup f_plus = some ⟨oc11, od11, .func (PySem.W.fnOf "plus" "plus" (defArgs s_plus) (defBody s_plus) (defScope s_plus) .none kV11 dc11 pm11 an11 cd11 ct11), sl11⟩)
    (c_plus : PySem.W.codeIn K cd11 "plus" = true)
    (k_plus : PySem.W.keepIn K (.ref f_plus) = true)
    (a_minus : PySem.W.nsIn K mainGlobals "minus" = some (some (.ref f_minus)))
    (l_minus : K.lookup f_minus = some ⟨oc12, od12, .func (PySem.W.fnOf "minus" "minus" (defArgs s_minus) (defBody s_minus) (defScope s_minus) .none kV12 dc12 pm12 an12 cd12 ct12), sl12⟩)
    (c_minus : PySem.W.codeIn K cd12 "minus" = true)
    (k_minus : PySem.W.keepIn K (.ref f_minus) = true)
    (a_times : PySem.W.nsIn K mainGlobals "times" = some (some (.ref f_times)))
    (l_times : K.lookup f_times = some ⟨oc13, od13, .func (PySem.W.fnOf "times" "times" (defArgs s_times) (defBody s_times) (defScope s_times) .none kV13 dc13 pm13 an13 cd13 ct13), sl13⟩)
    (c_times : PySem.W.codeIn K cd13 "times" = true)
    (k_times : PySem.W.keepIn K (.ref f_times) = true)
    (a_over : PySem.W.nsIn K mainGlobals "over" = some (some (.ref f_over)))
    (l_over : K.lookup f_over = some ⟨oc14, od14, .func (PySem.W.fnOf "over" "over" (defArgs s_over) (defBody s_over) (defScope s_over) .none kV14 dc14 pm14 an14 cd14 ct14), sl14⟩)
    (c_over : PySem.W.codeIn K cd14 "over" = true)
    (k_over : PySem.W.keepIn K (.ref f_over) = true)
    (a_is_below : PySem.W.nsIn K mainGlobals "is_below" = some (some (.ref f_is_below)))
    (l_is_below : K.lookup f_is_below = some ⟨oc15, od15, .func (PySem.W.fnOf "is_below" "is_below" (defArgs s_is_below) (defBody s_is_below) (defScope s_is_below) .none kV15 dc15 pm15 an15 cd15 ct15), sl15⟩)
    (c_is_below : PySem.W.codeIn K cd15 "is_below" = true)
    (k_is_below : PySem.W.keepIn K (.ref f_is_below) = true)
    (a_l_deck : PySem.W.nsIn K mainGlobals "_law_deck" = some (some (.ref f_l_deck)))
    (l_l_deck : K.lookup f_l_deck = some ⟨oc16, od16, .func (PySem.W.fnOf "_law_deck" "_law_deck" (defArgs s_l_deck) (defBody s_l_deck) (defScope s_l_deck) .none kV16 dc16 pm16 an16 cd16 ct16), sl16⟩)
    (c_l_deck : PySem.W.codeIn K cd16 "_law_deck" = true)
    (k_l_deck : PySem.W.keepIn K (.ref f_l_deck) = true)
    (a_l_pick : PySem.W.nsIn K mainGlobals "_law_pick" = some (some (.ref f_l_pick)))
    (l_l_pick : K.lookup f_l_pick = some ⟨oc17, od17, .func (PySem.W.fnOf "_law_pick" "_law_pick" (defArgs s_l_pick) (defBody s_l_pick) (defScope s_l_pick) .none kV17 dc17 pm17 an17 cd17 ct17), sl17⟩)
    (c_l_pick : PySem.W.codeIn K cd17 "_law_pick" = true)
    (k_l_pick : PySem.W.keepIn K (.ref f_l_pick) = true)
    (a_l_divisor : PySem.W.nsIn K mainGlobals "_law_divisor" = some (some (.ref f_l_divisor)))
    (l_l_divisor : K.lookup f_l_divisor = some ⟨oc18, od18, .func (PySem.W.fnOf "_law_divisor" "_law_divisor" (defArgs s_l_divisor) (defBody s_l_divisor) (defScope s_l_divisor) .none kV18 dc18 pm18 an18 cd18 ct18), sl18⟩)
    (c_l_divisor : PySem.W.codeIn K cd18 "_law_divisor" = true)
    (k_l_divisor : PySem.W.keepIn K (.ref f_l_divisor) = true)
    (a_l_fraction : PySem.W.nsIn K mainGlobals "_law_fraction" = some (some (.ref f_l_fraction)))
    (l_l_fraction : K.lookup f_l_fraction = some ⟨oc19, od19, .func (PySem.W.fnOf "_law_fraction" "_law_fraction" (defArgs s_l_fraction) (defBody s_l_fraction) (defScope s_l_fraction) .none kV19 dc19 pm19 an19 cd19 ct19), sl19⟩)
    (c_l_fraction : PySem.W.codeIn K cd19 "_law_fraction" = true)
    (k_l_fraction : PySem.W.keepIn K (.ref f_l_fraction) = true)
    (a_l_is_it : PySem.W.nsIn K mainGlobals "_law_is_it" = some (some (.ref f_l_is_it)))
    (l_l_is_it : K.lookup f_l_is_it = some ⟨oc20, od20, .func (PySem.W.fnOf "_law_is_it" "_law_is_it" (defArgs s_l_is_it) (defBody s_l_is_it) (defScope s_l_is_it) .none kV20 dc20 pm20 an20 cd20 ct20), sl20⟩)
    (c_l_is_it : PySem.W.codeIn K cd20 "_law_is_it" = true)
    (k_l_is_it : PySem.W.keepIn K (.ref f_l_is_it) = true)
    (a_l_is_flag : PySem.W.nsIn K mainGlobals "_law_is_flag" = some (some (.ref f_l_is_flag)))
    (l_l_is_flag : K.lookup f_l_is_flag = some ⟨oc21, od21, .func (PySem.W.fnOf "_law_is_flag" "_law_is_flag" (defArgs s_l_is_flag) (defBody s_l_is_flag) (defScope s_l_is_flag) .none kV21 dc21 pm21 an21 cd21 ct21), sl21⟩)
    (c_l_is_flag : PySem.W.codeIn K cd21 "_law_is_flag" = true)
    (k_l_is_flag : PySem.W.keepIn K (.ref f_l_is_flag) = true)
    (a_l_are_reckoned : PySem.W.nsIn K mainGlobals "_law_are_reckoned" = some (some (.ref f_l_are_reckoned)))
    (l_l_are_reckoned : K.lookup f_l_are_reckoned = some ⟨oc22, od22, .func (PySem.W.fnOf "_law_are_reckoned" "_law_are_reckoned" (defArgs s_l_are_reckoned) (defBody s_l_are_reckoned) (defScope s_l_are_reckoned) .none kV22 dc22 pm22 an22 cd22 ct22), sl22⟩)
    (c_l_are_reckoned : PySem.W.codeIn K cd22 "_law_are_reckoned" = true)
    (k_l_are_reckoned : PySem.W.keepIn K (.ref f_l_are_reckoned) = true)
    (a_law : PySem.W.nsIn K mainGlobals "law" = some (some (.ref f_law)))
    (l_law : K.lookup f_law = some ⟨oc23, od23, .func (PySem.W.fnOf "law" "law" (defArgs s_law) (defBody s_law) (defScope s_law) .none kV23 dc23 pm23 an23 cd23 ct23), sl23⟩)
    (c_law : PySem.W.codeIn K cd23 "law" = true)
    (k_law : PySem.W.keepIn K (.ref f_law) = true)
    : ∃ fd : FuncData, (∀ (s : Shared) (v : Value), BindsTo s fd ⟨[v], []⟩ [("_law_script", v)]) ∧ ∀ base : Heap, K.In base → base.Ns mainGlobals mg → FnOk l.prog w K mg base CX0 6 fa fd ["_law_script"] (sp_law K) := by
  have e := hfa.symm.trans (PySem.W.mg_of X G a_law)
  cases e
  have T : Txt K mg f_is_integer f_is_fraction f_lowest f_added f_negated f_lessened f_multiplied f_divided f_lies_below f_fraction f_check_both f_plus f_minus f_times f_over f_is_below f_l_deck f_l_pick f_l_divisor f_l_fraction f_l_is_it f_l_is_flag f_l_are_reckoned fa _ _ _ _ _ _ _ _ _ _ _ _ _ _ _ _ _ _ _ _ _ _ _ _ := {
    z_abs := PySem.W.mg_none_of X G z_abs
    z_bool := PySem.W.mg_none_of X G z_bool
    z_int := PySem.W.mg_none_of X G z_int
    z_isinstance := PySem.W.mg_none_of X G z_isinstance
    z_len := PySem.W.mg_none_of X G z_len
    z_min := PySem.W.mg_none_of X G z_min
    z_range := PySem.W.mg_none_of X G z_range
    z_tuple := PySem.W.mg_none_of X G z_tuple
    m_gcd := PySem.W.mg_of X G m_gcd
    g_is_integer := PySem.W.mg_of X G a_is_integer
    F_is_integer := fun_mk (st := s_is_integer) l_is_integer c_is_integer k_is_integer
    k_is_integer := k_is_integer
    b_is_integer := (fun_mk (st := s_is_integer) l_is_integer c_is_integer k_is_integer).binds (ps := ["thing"]) fun _ _ _ _ _ _ us hl => match us, hl with | [_], _ => rfl
    g_is_fraction := PySem.W.mg_of X G a_is_fraction
    F_is_fraction := fun_mk (st := s_is_fraction) l_is_fraction c_is_fraction k_is_fraction
    k_is_fraction := k_is_fraction
    b_is_fraction := (fun_mk (st := s_is_fraction) l_is_fraction c_is_fraction k_is_fraction).binds (ps := ["thing"]) fun _ _ _ _ _ _ us hl => match us, hl with | [_], _ => rfl
    g_lowest := PySem.W.mg_of X G a_lowest
    F_lowest := fun_mk (st := s_lowest) l_lowest c_lowest k_lowest
    k_lowest := k_lowest
    b_lowest := (fun_mk (st := s_lowest) l_lowest c_lowest k_lowest).binds (ps := ["top", "bottom"]) fun _ _ _ _ _ _ us hl => match us, hl with | [_, _], _ => rfl
    g_added := PySem.W.mg_of X G a_added
    F_added := fun_mk (st := s_added) l_added c_added k_added
    k_added := k_added
    b_added := (fun_mk (st := s_added) l_added c_added k_added).binds (ps := ["one", "other"]) fun _ _ _ _ _ _ us hl => match us, hl with | [_, _], _ => rfl
    g_negated := PySem.W.mg_of X G a_negated
    F_negated := fun_mk (st := s_negated) l_negated c_negated k_negated
    k_negated := k_negated
    b_negated := (fun_mk (st := s_negated) l_negated c_negated k_negated).binds (ps := ["one"]) fun _ _ _ _ _ _ us hl => match us, hl with | [_], _ => rfl
    g_lessened := PySem.W.mg_of X G a_lessened
    F_lessened := fun_mk (st := s_lessened) l_lessened c_lessened k_lessened
    k_lessened := k_lessened
    b_lessened := (fun_mk (st := s_lessened) l_lessened c_lessened k_lessened).binds (ps := ["one", "other"]) fun _ _ _ _ _ _ us hl => match us, hl with | [_, _], _ => rfl
    g_multiplied := PySem.W.mg_of X G a_multiplied
    F_multiplied := fun_mk (st := s_multiplied) l_multiplied c_multiplied k_multiplied
    k_multiplied := k_multiplied
    b_multiplied := (fun_mk (st := s_multiplied) l_multiplied c_multiplied k_multiplied).binds (ps := ["one", "other"]) fun _ _ _ _ _ _ us hl => match us, hl with | [_, _], _ => rfl
    g_divided := PySem.W.mg_of X G a_divided
    F_divided := fun_mk (st := s_divided) l_divided c_divided k_divided
    k_divided := k_divided
    b_divided := (fun_mk (st := s_divided) l_divided c_divided k_divided).binds (ps := ["one", "other"]) fun _ _ _ _ _ _ us hl => match us, hl with | [_, _], _ => rfl
    g_lies_below := PySem.W.mg_of X G a_lies_below
    F_lies_below := fun_mk (st := s_lies_below) l_lies_below c_lies_below k_lies_below
    k_lies_below := k_lies_below
    b_lies_below := (fun_mk (st := s_lies_below) l_lies_below c_lies_below k_lies_below).binds (ps := ["one", "other"]) fun _ _ _ _ _ _ us hl => match us, hl with | [_, _], _ => rfl
    g_fraction := PySem.W.mg_of X G a_fraction
    F_fraction := fun_mk (st := s_fraction) l_fraction c_fraction k_fraction
    k_fraction := k_fraction
    b_fraction := (fun_mk (st := s_fraction) l_fraction c_fraction k_fraction).binds (ps := ["top", "bottom"]) fun _ _ _ _ _ _ us hl => match us, hl with | [_, _], _ => rfl
    g_check_both := PySem.W.mg_of X G a_check_both
    F_check_both := fun_mk (st := s_check_both) l_check_both c_check_both k_check_both
    k_check_both := k_check_both
    b_check_both := (fun_mk (st := s_check_both) l_check_both c_check_both k_check_both).binds (ps := ["one", "other"]) fun _ _ _ _ _ _ us hl => match us, hl with | [_, _], _ => rfl
    g_plus := PySem.W.mg_of X G a_plus
    F_plus := fun_mk (st := s_plus) l_plus c_plus k_plus
    k_plus := k_plus
    b_plus := (fun_mk (st := s_plus) l_plus c_plus k_plus).binds (ps := ["one", "other"]) fun _ _ _ _ _ _ us hl => match us, hl with | [_, _], _ => rfl
    g_minus := PySem.W.mg_of X G a_minus
    F_minus := fun_mk (st := s_minus) l_minus c_minus k_minus
    k_minus := k_minus
    b_minus := (fun_mk (st := s_minus) l_minus c_minus k_minus).binds (ps := ["one", "other"]) fun _ _ _ _ _ _ us hl => match us, hl with | [_, _], _ => rfl
    g_times := PySem.W.mg_of X G a_times
    F_times := fun_mk (st := s_times) l_times c_times k_times
    k_times := k_times
    b_times := (fun_mk (st := s_times) l_times c_times k_times).binds (ps := ["one", "other"]) fun _ _ _ _ _ _ us hl => match us, hl with | [_, _], _ => rfl
    g_over := PySem.W.mg_of X G a_over
    F_over := fun_mk (st := s_over) l_over c_over k_over
    k_over := k_over
    b_over := (fun_mk (st := s_over) l_over c_over k_over).binds (ps := ["one", "other"]) fun _ _ _ _ _ _ us hl => match us, hl with | [_, _], _ => rfl
    g_is_below := PySem.W.mg_of X G a_is_below
    F_is_below := fun_mk (st := s_is_below) l_is_below c_is_below k_is_below
    k_is_below := k_is_below
    b_is_below := (fun_mk (st := s_is_below) l_is_below c_is_below k_is_below).binds (ps := ["one", "other"]) fun _ _ _ _ _ _ us hl => match us, hl with | [_, _], _ => rfl
    g_l_deck := PySem.W.mg_of X G a_l_deck
    F_l_deck := fun_mk (st := s_l_deck) l_l_deck c_l_deck k_l_deck
    k_l_deck := k_l_deck
    b_l_deck := (fun_mk (st := s_l_deck) l_l_deck c_l_deck k_l_deck).binds (ps := ["_law_script"]) fun _ _ _ _ _ _ us hl => match us, hl with | [_], _ => rfl
    g_l_pick := PySem.W.mg_of X G a_l_pick
    F_l_pick := fun_mk (st := s_l_pick) l_l_pick c_l_pick k_l_pick
    k_l_pick := k_l_pick
    b_l_pick := (fun_mk (st := s_l_pick) l_l_pick c_l_pick k_l_pick).binds (ps := ["_law_deck_here", "_law_many"]) fun _ _ _ _ _ _ us hl => match us, hl with | [_, _], _ => rfl
    g_l_divisor := PySem.W.mg_of X G a_l_divisor
    F_l_divisor := fun_mk (st := s_l_divisor) l_l_divisor c_l_divisor k_l_divisor
    k_l_divisor := k_l_divisor
    b_l_divisor := (fun_mk (st := s_l_divisor) l_l_divisor c_l_divisor k_l_divisor).binds (ps := ["_law_one", "_law_other"]) fun _ _ _ _ _ _ us hl => match us, hl with | [_, _], _ => rfl
    g_l_fraction := PySem.W.mg_of X G a_l_fraction
    F_l_fraction := fun_mk (st := s_l_fraction) l_l_fraction c_l_fraction k_l_fraction
    k_l_fraction := k_l_fraction
    b_l_fraction := (fun_mk (st := s_l_fraction) l_l_fraction c_l_fraction k_l_fraction).binds (ps := ["_law_deck_here"]) fun _ _ _ _ _ _ us hl => match us, hl with | [_], _ => rfl
    g_l_is_it := PySem.W.mg_of X G a_l_is_it
    F_l_is_it := fun_mk (st := s_l_is_it) l_l_is_it c_l_is_it k_l_is_it
    k_l_is_it := k_l_is_it
    b_l_is_it := (fun_mk (st := s_l_is_it) l_l_is_it c_l_is_it k_l_is_it).binds (ps := ["_law_thing", "_law_top", "_law_bottom"]) fun _ _ _ _ _ _ us hl => match us, hl with | [_, _, _], _ => rfl
    g_l_is_flag := PySem.W.mg_of X G a_l_is_flag
    F_l_is_flag := fun_mk (st := s_l_is_flag) l_l_is_flag c_l_is_flag k_l_is_flag
    k_l_is_flag := k_l_is_flag
    b_l_is_flag := (fun_mk (st := s_l_is_flag) l_l_is_flag c_l_is_flag k_l_is_flag).binds (ps := ["_law_flag", "_law_due"]) fun _ _ _ _ _ _ us hl => match us, hl with | [_, _], _ => rfl
    g_l_are_reckoned := PySem.W.mg_of X G a_l_are_reckoned
    F_l_are_reckoned := fun_mk (st := s_l_are_reckoned) l_l_are_reckoned c_l_are_reckoned k_l_are_reckoned
    k_l_are_reckoned := k_l_are_reckoned
    b_l_are_reckoned := (fun_mk (st := s_l_are_reckoned) l_l_are_reckoned c_l_are_reckoned k_l_are_reckoned).binds (ps := ["_law_one", "_law_other"]) fun _ _ _ _ _ _ us hl => match us, hl with | [_, _], _ => rfl
    g_law := PySem.W.mg_of X G a_law
    F_law := fun_mk (st := s_law) l_law c_law k_law
    k_law := k_law
    b_law := (fun_mk (st := s_law) l_law c_law k_law).binds (ps := ["_law_script"]) fun _ _ _ _ _ _ us hl => match us, hl with | [_], _ => rfl
  }
  exact ⟨_, fun s v => .of_eq rfl, fun base _ _ => ok_all T⟩
end My
open PySem PySem.W PyProof.Rows
set_option maxRecDepth 100000 in
set_option maxHeartbeats 0 in
theorem PySem.Challenge.cw_rootstalls_k02_whole_fractions_reckoned_holds : PySem.Challenge.rw_rootstalls_k02_whole_fractions_reckoned.Holds := by
  w_on; o_law; k_head; (case hw => w_witness2)
  k_fill
  refine L2.walk_ofB (l := PySem.Challenge.rw_rootstalls_k02_whole_fractions_reckoned) (n := 63) (k := 6) (x := "_law_script") (CX := fun _ => L2.CX0) (sp := fun w => My.sp_law _) rfl (by decide) rfl ⟨rfl, by decide, by decide⟩ (fun w h Y => PySem.W.kIn_of Y) ?F (fun _ _ a ns hl hb _ hS => ⟨a, ns, rfl, hS, hl, hb, fun _ => rfl⟩) (fun _ _ _ _ _ h => h)
  case F =>
    intro w mg fa h KX G hmg
    refine' My.all_mk KX G hmg ?z_abs ?z_bool ?z_int ?z_isinstance ?z_len ?z_min ?z_range ?z_tuple ?m_gcd ?a_is_integer ?l_is_integer ?c_is_integer ?k_is_integer ?a_is_fraction ?l_is_fraction ?c_is_fraction ?k_is_fraction ?a_lowest ?l_lowest ?c_lowest ?k_lowest ?a_added ?l_added ?c_added ?k_added ?a_negated ?l_negated ?c_negated ?k_negated ?a_lessened ?l_lessened ?c_lessened ?k_lessened ?a_multiplied ?l_multiplied ?c_multiplied ?k_multiplied ?a_divided ?l_divided ?c_divided ?k_divided ?a_lies_below ?l_lies_below ?c_lies_below ?k_lies_below ?a_fraction ?l_fraction ?c_fraction ?k_fraction ?a_check_both ?l_check_both ?c_check_both ?k_check_both ?a_plus ?l_plus ?c_plus ?k_plus ?a_minus ?l_minus ?c_minus ?k_minus ?a_times ?l_times ?c_times ?k_times ?a_over ?l_over ?c_over ?k_over ?a_is_below ?l_is_below ?c_is_below ?k_is_below ?a_l_deck ?l_l_deck ?c_l_deck ?k_l_deck ?a_l_pick ?l_l_pick ?c_l_pick ?k_l_pick ?a_l_divisor ?l_l_divisor ?c_l_divisor ?k_l_divisor ?a_l_fraction ?l_l_fraction ?c_l_fraction ?k_l_fraction ?a_l_is_it ?l_l_is_it ?c_l_is_it ?k_l_is_it ?a_l_is_flag ?l_l_is_flag ?c_l_is_flag ?k_l_is_flag ?a_l_are_reckoned ?l_l_are_reckoned ?c_l_are_reckoned ?k_l_are_reckoned ?a_law ?l_law ?c_law ?k_law
    (case z_abs => k_is)
    (case z_bool => k_is)
    (case z_int => k_is)
    (case z_isinstance => k_is)
    (case z_len => k_is)
    (case z_min => k_is)
    (case z_range => k_is)
    (case z_tuple => k_is)
    (case m_gcd => k_is)
    (case a_is_integer => k_is)
    (case l_is_integer => k_is)
    (case c_is_integer => k_is)
    (case k_is_integer => k_is)
    (case a_is_fraction => k_is)
    (case l_is_fraction => k_is)
    (case c_is_fraction => k_is)
    (case k_is_fraction => k_is)
    (case a_lowest => k_is)
    (case l_lowest => k_is)
    (case c_lowest => k_is)
    (case k_lowest => k_is)
    (case a_added => k_is)
    (case l_added => k_is)
    (case c_added => k_is)
    (case k_added => k_is)
    (case a_negated => k_is)
    (case l_negated => k_is)
    (case c_negated => k_is)
    (case k_negated => k_is)
    (case a_lessened => k_is)
    (case l_lessened => k_is)
    (case c_lessened => k_is)
    (case k_lessened => k_is)
    (case a_multiplied => k_is)
    (case l_multiplied => k_is)
    (case c_multiplied => k_is)
    (case k_multiplied => k_is)
    (case a_divided => k_is)
    (case l_divided => k_is)
    (case c_divided => k_is)
    (case k_divided => k_is)
    (case a_lies_below => k_is)
    (case l_lies_below => k_is)
    (case c_lies_below => k_is)
    (case k_lies_below => k_is)
    (case a_fraction => k_is)
    (case l_fraction => k_is)
    (case c_fraction => k_is)
    (case k_fraction => k_is)
    (case a_check_both => k_is)
    (case l_check_both => k_is)
    (case c_check_both => k_is)
    (case k_check_both => k_is)
    (case a_plus => k_is)
    (case l_plus => k_is)
    (case c_plus => k_is)
    (case k_plus => k_is)
    (case a_minus => k_is)
    (case l_minus => k_is)
    (case c_minus => k_is)
    (case k_minus => k_is)
    (case a_times => k_is)
    (case l_times => k_is)
    (case c_times => k_is)
    (case k_times => k_is)
    (case a_over => k_is)
    (case l_over => k_is)
    (case c_over => k_is)
    (case k_over => k_is)
    (case a_is_below => k_is)
    (case l_is_below => k_is)
    (case c_is_below => k_is)
    (case k_is_below => k_is)
    (case a_l_deck => k_is)
    (case l_l_deck => k_is)
    (case c_l_deck => k_is)
    (case k_l_deck => k_is)
    (case a_l_pick => k_is)
    (case l_l_pick => k_is)
    (case c_l_pick => k_is)
    (case k_l_pick => k_is)
    (case a_l_divisor => k_is)
    (case l_l_divisor => k_is)
    (case c_l_divisor => k_is)
    (case k_l_divisor => k_is)
    (case a_l_fraction => k_is)
    (case l_l_fraction => k_is)
    (case c_l_fraction => k_is)
    (case k_l_fraction => k_is)
    (case a_l_is_it => k_is)
    (case l_l_is_it => k_is)
    (case c_l_is_it => k_is)
    (case k_l_is_it => k_is)
    (case a_l_is_flag => k_is)
    (case l_l_is_flag => k_is)
    (case c_l_is_flag => k_is)
    (case k_l_is_flag => k_is)
    (case a_l_are_reckoned => k_is)
    (case l_l_are_reckoned => k_is)
    (case c_l_are_reckoned => k_is)
    (case k_l_are_reckoned => k_is)
    (case a_law => k_is)
    (case l_law => k_is)
    (case c_law => k_is)
    (case k_law => k_is)
