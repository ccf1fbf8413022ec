import PyProof.Rows.All
import Wide.All
import OpenK.AllK
import Wide.FinOn
import HandS.ForMost
import HandS.WideBits
import HandS.Gcd
import HandS.IsInst
import HandS.Style
import HandS.SetFor
import HandS.EndBits
import HandS.Codes
import HandS.ForExc
import HandS.Small
import HandS.Exc
import HandS.ExcOwn
import HandS.TryOnly
import HandS.WordsExc
import HandS.ExcInit
import HandS.ExcField
import Flt.RightSqrt
import HandS.GenYield
import HandS.OwnEq
import HandS.TupAny
import PyProof.Draws
import KE.DataMinMax
import HandS.Zip
import KE.GoesZip
import HandS.TupMul
import HandS.Strs
import HandS.Conv
import HandS.DictComp
import HandS.WordsDict
import HandS.Dict
import HandS.Iter
import KE.KDictZip
import HandS.TryMany
import PySem.Challenge.RW_rootstalls_k17_scales_judged
set_option Elab.async false
set_option linter.all false
set_option maxRecDepth 100000
set_option maxHeartbeats 4000000
namespace My
/-! ### fractions in lowest terms are the rationals -/
theorem rat_of {n : Int} {d : Nat} {r : Rat} (hd : d ≠ 0) (hc : n.natAbs.Coprime d) (h : Rat.divInt n (d : Int) = r) : r.num = n ∧ r.den = d := by
  subst h
  rw [← Rat.mk_eq_divInt (nz := hd) (c := hc)]
  exact ⟨rfl, rfl⟩
theorem rat_cross {n d : Int} {r : Rat} (hd : d ≠ 0) : Rat.divInt n d = r ↔ n * r.den = r.num * d := by
  have h := Rat.num_divInt_den r
  have hz : (r.den : Int) ≠ 0 := by
    have := r.den_pos
    omega
  constructor
  · intro e
    rw [← h] at e
    exact (Rat.divInt_eq_divInt_iff hd hz).mp e
  · intro e
    rw [← h]
    exact (Rat.divInt_eq_divInt_iff hd hz).mpr e
theorem den_pos (r : Rat) : (0 : Int) < r.den := by
  have := r.den_pos
  omega
theorem gcd_den (r : Rat) : Nat.gcd r.num.natAbs r.den = 1 := r.reduced
/-- the sum -/
theorem add_form (r s : Rat) (g ad bd : Nat) (top : Int) (g1 : Nat) (hg : g = r.den.gcd s.den) (had : ad = r.den / g) (hbd : bd = s.den / g) (ht : top = r.num * bd + s.num * ad) (h1 : g1 = top.natAbs.gcd g) :
    (r + s).num = top / g1 ∧ (r + s).den = ad * (s.den / g1) := by
  have hd := r.den_pos
  have hs := s.den_pos
  have gpos : 0 < g := hg ▸ Nat.gcd_pos_of_pos_left _ hd
  have ae : ad * g = r.den := had ▸ Nat.div_mul_cancel (hg ▸ Nat.gcd_dvd_left ..)
  have be : bd * g = s.den := hbd ▸ Nat.div_mul_cancel (hg ▸ Nat.gcd_dvd_right ..)
  have adpos : 0 < ad := by
    rcases Nat.eq_zero_or_pos ad with e | e
    · rw [e] at ae
      omega
    · exact e
  have aux : top.natAbs.gcd g = top.natAbs.gcd (ad * s.den) := by
    rw [ht]
    exact Rat.add.aux r s hg had hbd
  have g1pos : 0 < g1 := h1 ▸ Nat.gcd_pos_of_pos_right _ gpos
  have d1 : g1 ∣ top.natAbs := h1 ▸ Nat.gcd_dvd_left ..
  have d2 : g1 ∣ g := h1 ▸ Nat.gcd_dvd_right ..
  have d3 : g1 ∣ s.den := Nat.dvd_trans d2 ⟨bd, by rw [← be, Nat.mul_comm]⟩
  have e1 : ad * (s.den / g1) = ad * s.den / g1 := (Nat.mul_div_assoc ad d3).symm
  have d4 : g1 ∣ ad * s.den := Nat.dvd_trans d3 (Nat.dvd_mul_left ..)
  rw [e1]
  have tz : (g1 : Int) ∣ top := Int.ofNat_dvd_left.mpr d1
  have tm : top / g1 * g1 = top := Int.ediv_mul_cancel tz
  have dm : ad * s.den / g1 * g1 = ad * s.den := Nat.div_mul_cancel d4
  have nz : ad * s.den / g1 ≠ 0 := by
    intro e
    rw [e] at dm
    have : 0 < ad * s.den := Nat.mul_pos adpos hs
    omega
  refine rat_of nz ?_ ?_
  · have na : (top / (g1 : Int)).natAbs = top.natAbs / g1 := by
      rw [Int.natAbs_ediv_of_dvd tz, Int.natAbs_natCast]
    rw [na, h1, aux]
    exact Nat.coprime_div_gcd_div_gcd (Nat.gcd_pos_of_pos_right _ (Nat.mul_pos adpos hs))
  · have z1 : (g1 : Int) ≠ 0 := by omega
    have z2 : (g : Int) ≠ 0 := by omega
    rw [← Rat.divInt_mul_right z1, tm, ← Int.natCast_mul, dm, ← Rat.divInt_mul_right z2]
    have er := Rat.num_divInt_den r
    have es := Rat.num_divInt_den s
    have rz : (r.den : Int) ≠ 0 := by omega
    have sz : (s.den : Int) ≠ 0 := by omega
    have key := Rat.divInt_add_divInt r.num s.num rz sz
    rw [er, es] at key
    rw [key]
    have k1 : top * g = r.num * s.den + s.num * r.den := by
      rw [ht, ← be, ← ae, Int.natCast_mul, Int.natCast_mul, Int.add_mul, Int.mul_assoc, Int.mul_assoc]
    have k2 : ((ad * s.den : Nat) : Int) * (g : Int) = r.den * s.den := by
      rw [← ae, Int.natCast_mul, Int.natCast_mul, Int.mul_assoc, Int.mul_comm (s.den : Int), ← Int.mul_assoc]
    rw [k1, k2]
/-- the product -/
theorem mul_form (r s : Rat) (g1 g2 : Nat) (h1 : g1 = r.num.natAbs.gcd s.den) (h2 : g2 = s.num.natAbs.gcd r.den) :
    (r * s).num = r.num / g1 * (s.num / g2) ∧ (r * s).den = r.den / g2 * (s.den / g1) := by
  subst h1 h2
  have e : r * s = Rat.mul r s := rfl
  rw [e]
  unfold Rat.mul
  refine ⟨?_, ?_⟩
  · show r.num.divExact _ _ * s.num.divExact _ _ = _
    rw [Int.divExact_eq_tdiv, Int.divExact_eq_tdiv, Int.tdiv_eq_ediv_of_dvd, Int.tdiv_eq_ediv_of_dvd]
    · exact Int.ofNat_dvd_left.mpr (Nat.gcd_dvd_left ..)
    · exact Int.ofNat_dvd_left.mpr (Nat.gcd_dvd_left ..)
  · show r.den.divExact _ _ * s.den.divExact _ _ = _
    rw [Nat.divExact_eq_div, Nat.divExact_eq_div]
/-- lowest terms of any pair -/
theorem low_form (n d : Int) (hd : d ≠ 0) : (Rat.divInt n d).num = (if d < 0 then n / (-(n.natAbs.gcd d.natAbs : Nat) : Int) else n / (n.natAbs.gcd d.natAbs : Nat)) ∧
    ((Rat.divInt n d).den : Int) = (if d < 0 then d / (-(n.natAbs.gcd d.natAbs : Nat) : Int) else d / (n.natAbs.gcd d.natAbs : Nat)) := by
  have pos : ∀ (n d : Int), 0 < d → (Rat.divInt n d).num = n / (n.natAbs.gcd d.natAbs : Nat) ∧ ((Rat.divInt n d).den : Int) = d / (n.natAbs.gcd d.natAbs : Nat) := by
    intro n d h
    have gp : 0 < n.natAbs.gcd d.natAbs := Nat.gcd_pos_of_pos_right _ (by omega)
    have z1 : ((n.natAbs.gcd d.natAbs : Nat) : Int) ≠ 0 := by omega
    have dn : ((n.natAbs.gcd d.natAbs : Nat) : Int) ∣ n := Int.ofNat_dvd_left.mpr (Nat.gcd_dvd_left ..)
    have dd : ((n.natAbs.gcd d.natAbs : Nat) : Int) ∣ d := Int.ofNat_dvd_left.mpr (Nat.gcd_dvd_right ..)
    have e : d / ((n.natAbs.gcd d.natAbs : Nat) : Int) = ((d.natAbs / n.natAbs.gcd d.natAbs : Nat) : Int) := by
      rw [Int.natCast_ediv]
      congr 1
      omega
    have dpos : d.natAbs / n.natAbs.gcd d.natAbs ≠ 0 := Nat.ne_of_gt (Nat.div_pos (Nat.le_of_dvd (by omega) (Nat.gcd_dvd_right ..)) gp)
    have key := rat_of (n := n / ((n.natAbs.gcd d.natAbs : Nat) : Int)) (d := d.natAbs / n.natAbs.gcd d.natAbs) (r := Rat.divInt n d) dpos
      (by
        rw [Int.natAbs_ediv_of_dvd dn, Int.natAbs_natCast]
        exact Nat.coprime_div_gcd_div_gcd gp)
      (by rw [← e, ← Rat.divInt_mul_right z1, Int.ediv_mul_cancel dn, Int.ediv_mul_cancel dd])
    exact ⟨key.1, by rw [key.2, e]⟩
  rcases Int.lt_or_gt_of_ne hd with h | h
  · rw [if_pos h, if_pos h, ← Rat.neg_divInt_neg]
    have k := pos (-n) (-d) (by omega)
    rw [Int.natAbs_neg, Int.natAbs_neg] at k
    rw [k.1, k.2]
    have dn : ((n.natAbs.gcd d.natAbs : Nat) : Int) ∣ n := Int.ofNat_dvd_left.mpr (Nat.gcd_dvd_left ..)
    have dd : ((n.natAbs.gcd d.natAbs : Nat) : Int) ∣ d := Int.ofNat_dvd_left.mpr (Nat.gcd_dvd_right ..)
    rw [Int.neg_ediv_of_dvd dn, Int.neg_ediv_of_dvd dd, Int.ediv_neg, Int.ediv_neg]
    exact ⟨rfl, rfl⟩
  · have k := pos n d h
    rw [if_neg (by omega), if_neg (by omega)]
    exact k
theorem low_self (r : Rat) : Rat.divInt r.num r.den = r := Rat.num_divInt_den r
/-! ### sizes -/
def Bd (k : Nat) (r : Rat) : Prop := r.num.natAbs < 2 ^ k ∧ r.den < 2 ^ k
theorem Bd.mono {k l : Nat} {r : Rat} (h : Bd k r) (hl : k ≤ l) : Bd l r := ⟨Nat.lt_of_lt_of_le h.1 (Nat.pow_le_pow_right (by decide) hl), Nat.lt_of_lt_of_le h.2 (Nat.pow_le_pow_right (by decide) hl)⟩
theorem nat_mul_lt {a b k l : Nat} (ha : a < 2 ^ k) (hb : b < 2 ^ l) : a * b < 2 ^ (k + l) := by
  rw [Nat.pow_add]
  exact Nat.mul_lt_mul'' ha hb
theorem Bd.divInt {k : Nat} {n d : Int} (hd : d ≠ 0) (h1 : n.natAbs < 2 ^ k) (h2 : d.natAbs < 2 ^ k) : Bd k (Rat.divInt n d) := by
  obtain ⟨a, b⟩ := low_form n d hd
  have dn : ((n.natAbs.gcd d.natAbs : Nat) : Int) ∣ n := Int.ofNat_dvd_left.mpr (Nat.gcd_dvd_left ..)
  have dd : ((n.natAbs.gcd d.natAbs : Nat) : Int) ∣ d := Int.ofNat_dvd_left.mpr (Nat.gcd_dvd_right ..)
  have dp := (Rat.divInt n d).den_pos
  refine ⟨Nat.lt_of_le_of_lt ?_ h1, Nat.lt_of_le_of_lt ?_ h2⟩
  · rw [a]
    split
    · rw [Int.ediv_neg, Int.natAbs_neg, Int.natAbs_ediv_of_dvd dn]
      exact Nat.div_le_self _ _
    · rw [Int.natAbs_ediv_of_dvd dn]
      exact Nat.div_le_self _ _
  · have e : (Rat.divInt n d).den = ((Rat.divInt n d).den : Int).natAbs := (Int.natAbs_natCast _).symm
    rw [e, b]
    split
    · rw [Int.ediv_neg, Int.natAbs_neg, Int.natAbs_ediv_of_dvd dd]
      exact Nat.div_le_self _ _
    · rw [Int.natAbs_ediv_of_dvd dd]
      exact Nat.div_le_self _ _
theorem Bd.add {k l : Nat} {r s : Rat} (hr : Bd k r) (hs : Bd l s) : Bd (k + l + 1) (r + s) := by
  have rz : (r.den : Int) ≠ 0 := Int.ne_of_gt (den_pos r)
  have sz : (s.den : Int) ≠ 0 := Int.ne_of_gt (den_pos s)
  have key := Rat.divInt_add_divInt r.num s.num rz sz
  rw [low_self, low_self] at key
  rw [key]
  have a := nat_mul_lt hr.1 hs.2
  have b := nat_mul_lt hs.1 hr.2
  have c := nat_mul_lt hr.2 hs.2
  rw [Nat.add_comm l k] at b
  refine Bd.divInt (Int.mul_ne_zero rz sz) ?_ ?_
  · have h1 : (r.num * (s.den : Int) + s.num * (r.den : Int)).natAbs ≤ (r.num * (s.den : Int)).natAbs + (s.num * (r.den : Int)).natAbs := Int.natAbs_add_le _ _
    rw [Int.natAbs_mul, Int.natAbs_mul, Int.natAbs_natCast, Int.natAbs_natCast] at h1
    rw [Nat.pow_succ]
    omega
  · rw [Int.natAbs_mul, Int.natAbs_natCast, Int.natAbs_natCast, Nat.pow_succ]
    omega
theorem Bd.mul {k l : Nat} {r s : Rat} (hr : Bd k r) (hs : Bd l s) : Bd (k + l) (r * s) := by
  have rz : (r.den : Int) ≠ 0 := Int.ne_of_gt (den_pos r)
  have sz : (s.den : Int) ≠ 0 := Int.ne_of_gt (den_pos s)
  have key := Rat.divInt_mul_divInt r.num s.num (d₁ := r.den) (d₂ := s.den)
  rw [low_self, low_self] at key
  rw [key]
  refine Bd.divInt (Int.mul_ne_zero rz sz) ?_ ?_
  · rw [Int.natAbs_mul]
    exact nat_mul_lt hr.1 hs.1
  · rw [Int.natAbs_mul, Int.natAbs_natCast, Int.natAbs_natCast]
    exact nat_mul_lt hr.2 hs.2
theorem Bd.neg {k : Nat} {r : Rat} (hr : Bd k r) : Bd k (-r) := by
  refine ⟨?_, ?_⟩
  · rw [Rat.neg_num, Int.natAbs_neg]
    exact hr.1
  · rw [Rat.neg_den]
    exact hr.2
theorem Bd.sub {k l : Nat} {r s : Rat} (hr : Bd k r) (hs : Bd l s) : Bd (k + l + 1) (r - s) := by
  rw [Rat.sub_eq_add_neg]
  exact hr.add hs.neg
theorem inv_num {s : Rat} (h : s ≠ 0) : (if s.num < 0 then -(s.den : Int) else s.den) = (s⁻¹).num ∧ (if s.num < 0 then -s.num else s.num) = (s⁻¹).den := by
  have hn : s.num ≠ 0 := fun e => h (Rat.num_eq_zero.mp e)
  rw [Rat.num_inv, Rat.den_inv, if_neg hn]
  split
  · rename_i g
    rw [Int.sign_eq_neg_one_of_neg g]
    omega
  · rename_i g
    rw [Int.sign_eq_one_of_pos (by omega)]
    omega
theorem Bd.inv {k : Nat} {s : Rat} (h : s ≠ 0) (hs : Bd k s) : Bd k s⁻¹ := by
  obtain ⟨a, b⟩ := inv_num h
  have dp := den_pos s
  refine ⟨?_, ?_⟩
  · rw [← a]
    have := hs.2
    split <;> omega
  · have := hs.1
    have e : (s⁻¹).den = ((s⁻¹).den : Int).natAbs := (Int.natAbs_natCast _).symm
    rw [e, ← b]
    split <;> omega
theorem Bd.div {k l : Nat} {r s : Rat} (h : s ≠ 0) (hr : Bd k r) (hs : Bd l s) : Bd (k + l) (r / s) := by
  rw [Rat.div_def]
  exact hr.mul (hs.inv h)
end My
namespace My
/-! ### tables: striking, completing the square -/
abbrev Tbl := Nat → Nat → Rat
theorem zdiv (x : Rat) : 0 / x = 0 := by rw [Rat.div_def, Rat.zero_mul]
def Sg (f : Nat → Rat) : List Nat → Rat
  | [] => 0
  | a :: l => f a + Sg f l
theorem Sg_nil (f : Nat → Rat) : Sg f [] = 0 := rfl
theorem Sg_cons (f : Nat → Rat) (a : Nat) (l : List Nat) : Sg f (a :: l) = f a + Sg f l := rfl
theorem Sg_congr {f g : Nat → Rat} : ∀ {l : List Nat}, (∀ i ∈ l, f i = g i) → Sg f l = Sg g l
  | [], _ => rfl
  | a :: l, h => by
    rw [Sg_cons, Sg_cons, h a (List.mem_cons_self ..), Sg_congr fun i hi => h i (List.mem_cons_of_mem _ hi)]
theorem Sg_add (f g : Nat → Rat) : ∀ l : List Nat, Sg (fun i => f i + g i) l = Sg f l + Sg g l
  | [] => by
    show (0 : Rat) = 0 + 0
    grind
  | a :: l => by
    rw [Sg_cons, Sg_cons, Sg_cons, Sg_add f g l]
    grind
theorem Sg_mul (c : Rat) (f : Nat → Rat) : ∀ l : List Nat, Sg (fun i => c * f i) l = c * Sg f l
  | [] => by simp [Sg]
  | a :: l => by
    rw [Sg_cons, Sg_cons, Sg_mul c f l]
    grind
theorem Sg_zero {f : Nat → Rat} {l : List Nat} (h : ∀ i ∈ l, f i = 0) : Sg f l = 0 := by
  rw [Sg_congr (g := fun i => 0 * (0 : Rat)) fun i hi => (h i hi).trans (by simp), Sg_mul]
  simp
theorem Sg_nonneg {f : Nat → Rat} : ∀ {l : List Nat}, (∀ i ∈ l, 0 ≤ f i) → 0 ≤ Sg f l
  | [], _ => by
    show (0 : Rat) ≤ 0
    grind
  | a :: l, h => by
    have h1 := h a (List.mem_cons_self ..)
    have h2 := Sg_nonneg (l := l) fun i hi => h i (List.mem_cons_of_mem _ hi)
    rw [Sg_cons]
    grind
theorem Sg_le {f g : Nat → Rat} {l : List Nat} (h : ∀ i ∈ l, f i ≤ g i) : Sg f l ≤ Sg g l := by
  have e : Sg (fun i => f i + (g i + -1 * f i)) l = Sg g l := Sg_congr fun i _ => by grind
  rw [Sg_add] at e
  have p : 0 ≤ Sg (fun i => g i + -1 * f i) l := Sg_nonneg fun i hi => by
    have := h i hi
    grind
  grind
theorem Sg_perm {f : Nat → Rat} {l l' : List Nat} (p : l.Perm l') : Sg f l = Sg f l' := by
  induction p with
  | nil => rfl
  | cons x p ih => rw [Sg_cons, Sg_cons, ih]
  | swap x y l =>
    rw [Sg_cons, Sg_cons, Sg_cons, Sg_cons]
    grind
  | trans _ _ ih1 ih2 => exact ih1.trans ih2
theorem Sg_take {f : Nat → Rat} {l : List Nat} {k : Nat} (h : k ∈ l) : Sg f l = f k + Sg f (l.erase k) := Sg_perm (List.perm_cons_erase h)
theorem Sg_swap (f : Nat → Nat → Rat) (l' : List Nat) : ∀ l : List Nat, Sg (fun i => Sg (f i) l') l = Sg (fun j => Sg (fun i => f i j) l) l'
  | [] => by
    rw [Sg_nil]
    exact (Sg_zero fun _ _ => rfl).symm
  | a :: l => by
    rw [Sg_cons, Sg_swap f l' l, ← Sg_add]
    exact Sg_congr fun j _ => (Sg_cons (fun i => f i j) a l).symm
/-- the quadratic form over these wares -/
def Qf (M : Tbl) (ls : List Nat) (x : Nat → Rat) : Rat := Sg (fun i => x i * Sg (fun j => M i j * x j) ls) ls
def row (M : Tbl) (ls : List Nat) (x : Nat → Rat) (i : Nat) : Rat := Sg (fun j => M i j * x j) ls
def strike (M : Tbl) (k : Nat) : Tbl := fun i j => M i j - M i k * M k j / M k k
theorem strike_symm {M : Tbl} (h : ∀ i j, M i j = M j i) (k : Nat) : ∀ i j, strike M k i j = strike M k j i := fun i j => by
  unfold strike
  rw [h i j, h i k, h k j, Rat.mul_comm]
/-- the slant has a wrong sign -/
def wrong (M : Tbl) (ls : List Nat) (k : Nat) : Prop := M k k < 0 ∨ (M k k = 0 ∧ ∃ j ∈ ls, j ≠ k ∧ M k j ≠ 0)
instance (M : Tbl) (ls : List Nat) (k : Nat) : Decidable (wrong M ls k) := by
  unfold wrong
  infer_instance
/-- the off side of a table is never above 0 -/
def OpT (M : Tbl) (ls : List Nat) : Prop := ∀ i ∈ ls, ∀ j ∈ ls, i ≠ j → M i j ≤ 0
theorem not_wrong {M : Tbl} {ls : List Nat} {k : Nat} (h : ¬ wrong M ls k) : 0 < M k k ∨ (M k k = 0 ∧ ∀ j ∈ ls, j ≠ k → M k j = 0) := by
  unfold wrong at h
  by_cases p : 0 < M k k
  · exact .inl p
  · refine .inr ⟨?_, fun j hj hk => ?_⟩
    · have : ¬ M k k < 0 := fun z => h (.inl z)
      grind
    · have : ¬ M k k < 0 := fun z => h (.inl z)
      have e : M k k = 0 := by grind
      exact Classical.byContradiction fun z => h (.inr ⟨e, j, hj, hk, z⟩)
theorem strike_op {M : Tbl} {ls : List Nat} {k : Nat} (hk : k ∈ ls) (hs : ∀ i j, M i j = M j i) (h : OpT M ls) (hw : ¬ wrong M ls k) (nd : ls.Nodup) : OpT (strike M k) (ls.erase k) := by
  intro i hi j hj hij
  obtain ⟨ik, iL⟩ := (List.Nodup.mem_erase_iff nd).mp hi
  obtain ⟨jk, jL⟩ := (List.Nodup.mem_erase_iff nd).mp hj
  have a := h i iL j jL hij
  have b := h i iL k hk ik
  have c := h k hk j jL (Ne.symm jk)
  unfold strike
  rcases not_wrong hw with p | ⟨e, z⟩
  · have bc : 0 ≤ M i k * M k j := by
      have := Rat.mul_nonneg (a := -M i k) (b := -M k j) (by grind) (by grind)
      grind
    have d : 0 ≤ M i k * M k j / M k k := by
      rw [Rat.div_def]
      exact Rat.mul_nonneg bc (Rat.le_of_lt (Rat.inv_pos.mpr p))
    grind
  · rw [z j jL jk, Rat.mul_zero, zdiv]
    grind
theorem Qf_split {M : Tbl} {ls : List Nat} {k : Nat} (hk : k ∈ ls) (hs : ∀ i j, M i j = M j i) (x : Nat → Rat) :
    Qf M ls x = M k k * (x k * x k) + 2 * (x k * row M (ls.erase k) x k) + Qf M (ls.erase k) x := by
  unfold Qf
  rw [Sg_take hk, Sg_take (f := fun j => M k j * x j) hk]
  have e : Sg (fun i => x i * Sg (fun j => M i j * x j) ls) (ls.erase k) = Sg (fun i => x k * (M k i * x i) + x i * Sg (fun j => M i j * x j) (ls.erase k)) (ls.erase k) := Sg_congr fun i _ => by
    rw [Sg_take (f := fun j => M i j * x j) hk, hs i k]
    grind
  rw [e, Sg_add, Sg_mul]
  unfold row
  grind
theorem Qf_strike0 {M : Tbl} {ls : List Nat} {k : Nat} (hs : ∀ i j, M i j = M j i) (x : Nat → Rat) :
    Qf (strike M k) (ls.erase k) x = Qf M (ls.erase k) x - row M (ls.erase k) x k * row M (ls.erase k) x k / M k k := by
  unfold Qf
  have e : Sg (fun i => x i * Sg (fun j => strike M k i j * x j) (ls.erase k)) (ls.erase k) =
      Sg (fun i => x i * Sg (fun j => M i j * x j) (ls.erase k) + (-(row M (ls.erase k) x k / M k k)) * (M k i * x i)) (ls.erase k) := Sg_congr fun i _ => by
    have e2 : Sg (fun j => strike M k i j * x j) (ls.erase k) = Sg (fun j => M i j * x j + (-(M i k / M k k)) * (M k j * x j)) (ls.erase k) := Sg_congr fun j _ => by
      unfold strike
      rw [Rat.div_def, Rat.div_def]
      grind
    rw [e2, Sg_add, Sg_mul, hs i k]
    unfold row
    rw [Rat.div_def, Rat.div_def]
    grind
  rw [e, Sg_add, Sg_mul]
  show _ + -(row M (ls.erase k) x k / M k k) * row M (ls.erase k) x k = _
  rw [Rat.div_def, Rat.div_def]
  grind
/-- completing the square -/
theorem Qf_strike {M : Tbl} {ls : List Nat} {k : Nat} (hk : k ∈ ls) (hs : ∀ i j, M i j = M j i) (hz : M k k ≠ 0) (x : Nat → Rat) :
    Qf M ls x = M k k * ((x k + row M (ls.erase k) x k / M k k) * (x k + row M (ls.erase k) x k / M k k)) + Qf (strike M k) (ls.erase k) x := by
  rw [Qf_split hk hs, Qf_strike0 hs]
  have h1 : M k k * (row M (ls.erase k) x k / M k k) = row M (ls.erase k) x k := by
    rw [Rat.mul_comm]
    exact Rat.div_mul_cancel hz
  have h2 : row M (ls.erase k) x k * row M (ls.erase k) x k / M k k = row M (ls.erase k) x k * (row M (ls.erase k) x k / M k k) := by
    rw [Rat.div_def, Rat.div_def, Rat.mul_assoc]
  rw [h2]
  generalize row M (ls.erase k) x k / M k k = q at *
  grind
theorem row_zero {M : Tbl} {ls : List Nat} {k : Nat} (nd : ls.Nodup) (hz : ∀ j ∈ ls, j ≠ k → M k j = 0) (x : Nat → Rat) : row M (ls.erase k) x k = 0 := Sg_zero fun j hj => by
  obtain ⟨jk, jL⟩ := (List.Nodup.mem_erase_iff nd).mp hj
  rw [hz j jL jk, Rat.zero_mul]
theorem Qf_alone {M : Tbl} {ls : List Nat} {k : Nat} (hk : k ∈ ls) (nd : ls.Nodup) (hs : ∀ i j, M i j = M j i) (hz : ∀ j ∈ ls, j ≠ k → M k j = 0) (x : Nat → Rat) :
    Qf M ls x = M k k * (x k * x k) + Qf (strike M k) (ls.erase k) x := by
  rw [Qf_split hk hs, Qf_strike0 hs, row_zero nd hz, Rat.mul_zero, Rat.mul_zero, Rat.mul_zero, zdiv]
  grind
theorem sq_nonneg (x : Rat) : 0 ≤ x * x := by
  rcases Rat.le_total (a := 0) (b := x) with h | h
  · exact Rat.mul_nonneg h h
  · have := Rat.mul_nonneg (a := -x) (b := -x) (by grind) (by grind)
    grind
theorem Qf_step {M : Tbl} {ls : List Nat} {k : Nat} (hk : k ∈ ls) (nd : ls.Nodup) (hs : ∀ i j, M i j = M j i) (hw : ¬ wrong M ls k) (x : Nat → Rat) : Qf (strike M k) (ls.erase k) x ≤ Qf M ls x := by
  rcases not_wrong hw with p | ⟨e, z⟩
  · rw [Qf_strike hk hs (by grind)]
    have := Rat.mul_nonneg (Rat.le_of_lt p) (sq_nonneg (x k + row M (ls.erase k) x k / M k k))
    grind
  · rw [Qf_alone hk nd hs z, e, Rat.zero_mul]
    grind
end My
namespace My
/-! ### a row of strikes -/
abbrev Stp := Nat × Tbl × List Nat
def hasTie (M : Tbl) (ls : List Nat) (k : Nat) : Prop := ∃ j ∈ ls, j ≠ k ∧ M k j ≠ 0
instance (M : Tbl) (ls : List Nat) (k : Nat) : Decidable (hasTie M ls k) := by
  unfold hasTie
  infer_instance
def runS : Tbl → List Nat → List Nat → List Stp
  | _, _, [] => []
  | M, ls, k :: o => if wrong M ls k then [] else (k, M, ls) :: runS (strike M k) (ls.erase k) o
def endM : Tbl → List Nat → List Nat → Tbl
  | M, _, [] => M
  | M, ls, k :: o => if wrong M ls k then M else endM (strike M k) (ls.erase k) o
def endL : Tbl → List Nat → List Nat → List Nat
  | _, ls, [] => ls
  | M, ls, k :: o => if wrong M ls k then ls else endL (strike M k) (ls.erase k) o
def endW : Tbl → List Nat → List Nat → Option Nat
  | _, _, [] => none
  | M, ls, k :: o => if wrong M ls k then some k else endW (strike M k) (ls.erase k) o
def fill1 (alone : Rat) (s : Stp) (z : Nat → Rat) : Nat → Rat := fun i => if i = s.1 then (if hasTie s.2.1 s.2.2 s.1 then -row s.2.1 (s.2.2.erase s.1) z s.1 / s.2.1 s.1 s.1 else alone) else z i
def fillB (alone : Rat) (st : List Stp) (y : Nat → Rat) : Nat → Rat := st.foldr (fill1 alone) y
theorem row_congr {M : Tbl} {ls : List Nat} {x z : Nat → Rat} {i : Nat} (h : ∀ j ∈ ls, x j = z j) : row M ls x i = row M ls z i := Sg_congr fun j hj => by rw [h j hj]
theorem Qf_congr {M : Tbl} {ls : List Nat} {x z : Nat → Rat} (h : ∀ j ∈ ls, x j = z j) : Qf M ls x = Qf M ls z := Sg_congr fun i hi => by
  rw [h i hi]
  exact congrArg (z i * ·) (row_congr (i := i) h)
theorem mem_er {ls : List Nat} {k j : Nat} (nd : ls.Nodup) : j ∈ ls.erase k ↔ j ≠ k ∧ j ∈ ls := List.Nodup.mem_erase_iff nd
theorem fill1_off {a : Rat} {k : Nat} {M : Tbl} {ls : List Nat} {z : Nat → Rat} (nd : ls.Nodup) : ∀ j ∈ ls.erase k, fill1 a (k, M, ls) z j = z j := fun j hj => by
  unfold fill1
  rw [if_neg ((mem_er nd).mp hj).1]
theorem tie_pos {M : Tbl} {ls : List Nat} {k : Nat} (hw : ¬ wrong M ls k) (ht : hasTie M ls k) : 0 < M k k := by
  rcases not_wrong hw with p | ⟨e, z⟩
  · exact p
  · obtain ⟨j, hj, hk, hn⟩ := ht
    exact absurd (z j hj hk) hn
theorem no_tie {M : Tbl} {ls : List Nat} {k : Nat} (ht : ¬ hasTie M ls k) : ∀ j ∈ ls, j ≠ k → M k j = 0 := fun j hj hk => Classical.byContradiction fun z => ht ⟨j, hj, hk, z⟩
theorem wrong_sl {M : Tbl} {ls : List Nat} {k : Nat} (hw : ¬ wrong M ls k) : 0 ≤ M k k := by
  rcases not_wrong hw with p | ⟨e, z⟩
  · exact Rat.le_of_lt p
  · rw [e]
    grind
theorem fill1_Q {k : Nat} {M : Tbl} {ls : List Nat} {z : Nat → Rat} (hk : k ∈ ls) (nd : ls.Nodup) (hs : ∀ i j, M i j = M j i) (hw : ¬ wrong M ls k) : Qf M ls (fill1 0 (k, M, ls) z) = Qf (strike M k) (ls.erase k) z := by
  have off := fill1_off (a := 0) (M := M) (z := z) (k := k) nd
  by_cases ht : hasTie M ls k
  · have p := tie_pos hw ht
    rw [Qf_strike hk hs (by grind), row_congr off, Qf_congr off]
    have e : fill1 0 (k, M, ls) z k = -row M (ls.erase k) z k / M k k := by
      unfold fill1
      rw [if_pos rfl, if_pos ht]
    rw [e, Rat.div_def, Rat.div_def]
    grind
  · rw [Qf_alone hk nd hs (no_tie ht), Qf_congr off]
    have e : fill1 0 (k, M, ls) z k = 0 := by
      unfold fill1
      rw [if_pos rfl, if_neg ht]
    rw [e]
    grind
theorem runS_pos {M : Tbl} {ls : List Nat} {k : Nat} {o : List Nat} (hw : wrong M ls k) : runS M ls (k :: o) = [] ∧ endM M ls (k :: o) = M ∧ endL M ls (k :: o) = ls ∧ endW M ls (k :: o) = some k := by
  simp [runS, endM, endL, endW, hw]
theorem runS_neg {M : Tbl} {ls : List Nat} {k : Nat} {o : List Nat} (hw : ¬ wrong M ls k) : runS M ls (k :: o) = (k, M, ls) :: runS (strike M k) (ls.erase k) o ∧ endM M ls (k :: o) = endM (strike M k) (ls.erase k) o ∧
    endL M ls (k :: o) = endL (strike M k) (ls.erase k) o ∧ endW M ls (k :: o) = endW (strike M k) (ls.erase k) o := by
  simp [runS, endM, endL, endW, hw]
/-- an order of wares of the table -/
structure Odr (M : Tbl) (ls o : List Nat) : Prop where
  sy : ∀ i j, M i j = M j i
  op : OpT M ls
  nd : ls.Nodup
  on : o.Nodup
  il : ∀ k ∈ o, k ∈ ls
theorem Odr.hd {M : Tbl} {ls : List Nat} {k : Nat} {o : List Nat} (h : Odr M ls (k :: o)) : k ∈ ls := h.il k (List.mem_cons_self ..)
theorem Odr.tl {M : Tbl} {ls : List Nat} {k : Nat} {o : List Nat} (h : Odr M ls (k :: o)) (hw : ¬ wrong M ls k) : Odr (strike M k) (ls.erase k) o := by
  have n := List.nodup_cons.mp h.on
  exact ⟨strike_symm h.sy k, strike_op h.hd h.sy h.op hw h.nd, h.nd.erase k, n.2, fun j hj => (mem_er h.nd).mpr ⟨fun z => n.1 (z ▸ hj), h.il j (List.mem_cons_of_mem _ hj)⟩⟩
/-- the induction over a row of strikes -/
theorem run_ind {C : Tbl → List Nat → List Nat → Prop} (h0 : ∀ M ls, Odr M ls [] → C M ls []) (hp : ∀ M ls k o, Odr M ls (k :: o) → wrong M ls k → C M ls (k :: o))
    (hn : ∀ M ls k o, Odr M ls (k :: o) → ¬ wrong M ls k → C (strike M k) (ls.erase k) o → C M ls (k :: o)) : ∀ (o : List Nat) (M : Tbl) (ls : List Nat), Odr M ls o → C M ls o
  | [], M, ls, h => h0 M ls h
  | k :: o, M, ls, h => by
    by_cases hw : wrong M ls k
    · exact hp M ls k o h hw
    · exact hn M ls k o h hw (run_ind h0 hp hn o _ _ (h.tl hw))
theorem fill_Q {M : Tbl} {ls o : List Nat} (h : Odr M ls o) (y : Nat → Rat) : Qf M ls (fillB 0 (runS M ls o) y) = Qf (endM M ls o) (endL M ls o) y := by
  refine run_ind (C := fun M ls o => Qf M ls (fillB 0 (runS M ls o) y) = Qf (endM M ls o) (endL M ls o) y) ?_ ?_ ?_ o M ls h
  · intro M ls h
    rfl
  · intro M ls k o h hw
    obtain ⟨e1, e2, e3, _⟩ := runS_pos (o := o) hw
    rw [e1, e2, e3]
    rfl
  · intro M ls k o h hw ih
    obtain ⟨e1, e2, e3, _⟩ := runS_neg (o := o) hw
    rw [e1, e2, e3, ← ih]
    exact fill1_Q h.hd h.nd h.sy hw
/-- all wares can be struck: the form is never below 0 -/
theorem Qf_nonneg {M : Tbl} {ls o : List Nat} (h : Odr M ls o) (hl : ∀ k ∈ ls, k ∈ o) (hw : endW M ls o = none) (x : Nat → Rat) : 0 ≤ Qf M ls x := by
  refine run_ind (C := fun M ls o => (∀ k ∈ ls, k ∈ o) → endW M ls o = none → 0 ≤ Qf M ls x) ?_ ?_ ?_ o M ls h hl hw
  · intro M ls h hl _
    have e : ls = [] := by
      cases ls with
      | nil => rfl
      | cons a l => exact absurd (hl a (List.mem_cons_self ..)) (by simp)
    subst e
    exact Rat.le_refl
  · intro M ls k o h hw _ hn
    rw [(runS_pos hw).2.2.2] at hn
    cases hn
  · intro M ls k o h hw ih hl hn
    rw [(runS_neg hw).2.2.2] at hn
    refine Rat.le_trans (ih (fun j hj => ?_) hn) (Qf_step h.hd h.nd h.sy hw x)
    obtain ⟨jk, jL⟩ := (mem_er h.nd).mp hj
    rcases List.mem_cons.mp (hl j jL) with z | z
    · exact absurd z jk
    · exact z
/-- what is left, and that the wrong one is among it -/
theorem end_ok {M : Tbl} {ls o : List Nat} (h : Odr M ls o) : (∀ i j, endM M ls o i j = endM M ls o j i) ∧ OpT (endM M ls o) (endL M ls o) ∧ (endL M ls o).Nodup ∧ (∀ j ∈ endL M ls o, j ∈ ls) ∧
    (∀ k, endW M ls o = some k → k ∈ endL M ls o ∧ wrong (endM M ls o) (endL M ls o) k) ∧ (endW M ls o = none → ∀ j, j ∈ endL M ls o ↔ j ∈ ls ∧ ¬ j ∈ o) := by
  refine run_ind (C := fun M ls o => (∀ i j, endM M ls o i j = endM M ls o j i) ∧ OpT (endM M ls o) (endL M ls o) ∧ (endL M ls o).Nodup ∧ (∀ j ∈ endL M ls o, j ∈ ls) ∧
    (∀ k, endW M ls o = some k → k ∈ endL M ls o ∧ wrong (endM M ls o) (endL M ls o) k) ∧ (endW M ls o = none → ∀ j, j ∈ endL M ls o ↔ j ∈ ls ∧ ¬ j ∈ o)) ?_ ?_ ?_ o M ls h
  · intro M ls h
    exact ⟨h.sy, h.op, h.nd, fun j hj => hj, (fun k hk => nomatch hk), fun _ j => ⟨fun hj => ⟨hj, List.not_mem_nil⟩, fun hj => hj.1⟩⟩
  · intro M ls k o h hw
    obtain ⟨_, e2, e3, e4⟩ := runS_pos (o := o) hw
    rw [e2, e3, e4]
    refine ⟨h.sy, h.op, h.nd, fun j hj => hj, fun j hj => ?_, fun z => by cases z⟩
    cases hj
    exact ⟨h.hd, hw⟩
  · intro M ls k o h hw ih
    obtain ⟨_, e2, e3, e4⟩ := runS_neg (o := o) hw
    rw [e2, e3, e4]
    obtain ⟨a, b, c, d, e, f⟩ := ih
    refine ⟨a, b, c, fun j hj => ((mem_er h.nd).mp (d j hj)).2, e, fun z j => ?_⟩
    rw [f z j, mem_er h.nd]
    simp only [List.mem_cons, not_or]
    constructor
    · rintro ⟨⟨a, b⟩, c⟩
      exact ⟨b, a, c⟩
    · rintro ⟨b, a, c⟩
      exact ⟨⟨a, b⟩, c⟩
/-- amounts filled back are amounts -/
theorem fill_nonneg {M : Tbl} {ls o : List Nat} (h : Odr M ls o) {a : Rat} (ha : 0 ≤ a) {y : Nat → Rat} (hy : ∀ j ∈ endL M ls o, 0 ≤ y j) : ∀ j ∈ ls, 0 ≤ fillB a (runS M ls o) y j := by
  refine run_ind (C := fun M ls o => (∀ j ∈ endL M ls o, 0 ≤ y j) → ∀ j ∈ ls, 0 ≤ fillB a (runS M ls o) y j) ?_ ?_ ?_ o M ls h hy
  · intro M ls h hy
    exact hy
  · intro M ls k o h hw hy
    obtain ⟨e1, _, e3, _⟩ := runS_pos (o := o) hw
    rw [e3] at hy
    rw [e1]
    exact hy
  · intro M ls k o h hw ih hy
    obtain ⟨e1, _, e3, _⟩ := runS_neg (o := o) hw
    rw [e3] at hy
    rw [e1]
    intro j hj
    have ih := ih hy
    show 0 ≤ fill1 a (k, M, ls) (fillB a (runS (strike M k) (ls.erase k) o) y) j
    by_cases e : j = k
    · subst e
      unfold fill1
      rw [if_pos rfl]
      by_cases ht : hasTie M ls j
      · rw [if_pos ht]
        have p := tie_pos hw ht
        have r : row M (ls.erase j) (fillB a (runS (strike M j) (ls.erase j) o) y) j ≤ 0 := by
          have := Sg_nonneg (f := fun i => -1 * (M j i * fillB a (runS (strike M j) (ls.erase j) o) y i)) (l := ls.erase j) fun i hi => by
            obtain ⟨ik, iL⟩ := (mem_er h.nd).mp hi
            have := Rat.mul_nonneg (a := -M j i) (by have := h.op j h.hd i iL (Ne.symm ik); grind) (ih i hi)
            grind
          rw [Sg_mul] at this
          unfold row
          grind
        show 0 ≤ -row M (ls.erase j) (fillB a (runS (strike M j) (ls.erase j) o) y) j / M j j
        rw [Rat.div_def]
        exact Rat.mul_nonneg (by grind) (Rat.le_of_lt (Rat.inv_pos.mpr p))
      · rw [if_neg ht]
        exact ha
    · have := ih j ((mem_er h.nd).mpr ⟨e, hj⟩)
      unfold fill1
      rw [if_neg e]
      exact this
theorem Sg_pos {f : Nat → Rat} {l : List Nat} {k : Nat} (hk : k ∈ l) (h : ∀ i ∈ l, 0 ≤ f i) (p : 0 < f k) : 0 < Sg f l := by
  rw [Sg_take hk]
  have := Sg_nonneg (f := f) (l := l.erase k) fun i hi => h i (List.mem_of_mem_erase hi)
  grind
/-- .. and above 0, and no row of the table comes below 0 -/
theorem fill_rows {M : Tbl} {ls o : List Nat} (h : Odr M ls o) {a : Rat} (ha : 0 < a) {y : Nat → Rat} (hy : ∀ j ∈ endL M ls o, 0 < y j) : (∀ j ∈ ls, 0 < fillB a (runS M ls o) y j) ∧
    (∀ j ∈ endL M ls o, row M ls (fillB a (runS M ls o) y) j = row (endM M ls o) (endL M ls o) y j) ∧ (∀ j ∈ ls, ¬ j ∈ endL M ls o → 0 ≤ row M ls (fillB a (runS M ls o) y) j) := by
  refine run_ind (C := fun M ls o => (∀ j ∈ endL M ls o, 0 < y j) → (∀ j ∈ ls, 0 < fillB a (runS M ls o) y j) ∧
    (∀ j ∈ endL M ls o, row M ls (fillB a (runS M ls o) y) j = row (endM M ls o) (endL M ls o) y j) ∧ (∀ j ∈ ls, ¬ j ∈ endL M ls o → 0 ≤ row M ls (fillB a (runS M ls o) y) j)) ?_ ?_ ?_ o M ls h hy
  · intro M ls h hy
    exact ⟨hy, fun j _ => rfl, fun j hj hn => absurd hj hn⟩
  · intro M ls k o h hw hy
    obtain ⟨e1, e2, e3, _⟩ := runS_pos (o := o) hw
    rw [e3] at hy
    rw [e1, e2, e3]
    exact ⟨hy, fun j _ => rfl, fun j hj hn => absurd hj hn⟩
  · intro M ls k o h hw ih hy
    have eo := end_ok (h.tl hw)
    obtain ⟨e1, e2, e3, _⟩ := runS_neg (o := o) hw
    rw [e3] at hy
    rw [e1, e2, e3]
    obtain ⟨i1, i2, i3⟩ := ih hy
    generalize hz : fillB a (runS (strike M k) (ls.erase k) o) y = z at *
    have ez : fillB a ((k, M, ls) :: runS (strike M k) (ls.erase k) o) y = fill1 a (k, M, ls) z := by
      rw [← hz]
      rfl
    rw [ez]
    have off := fill1_off (a := a) (M := M) (z := z) (k := k) h.nd
    have sgn : ∀ j ∈ ls.erase k, 0 ≤ -1 * (M k j * z j) := fun j hj => by
      obtain ⟨jk, jL⟩ := (mem_er h.nd).mp hj
      have := Rat.mul_nonneg (a := -M k j) (by have := h.op k h.hd j jL (Ne.symm jk); grind) (Rat.le_of_lt (i1 j hj))
      grind
    -- the amount of the struck ware
    have pk : 0 < fill1 a (k, M, ls) z k := by
      unfold fill1
      rw [if_pos rfl]
      by_cases ht : hasTie M ls k
      · rw [if_pos ht]
        obtain ⟨j, hj, jk, jn⟩ := id ht
        have je : j ∈ ls.erase k := (mem_er h.nd).mpr ⟨jk, hj⟩
        have := Sg_pos (f := fun i => -1 * (M k i * z i)) je sgn (by
          have o1 := h.op k h.hd j hj (Ne.symm jk)
          have := Rat.mul_pos (a := -M k j) (by grind) (i1 j je)
          grind)
        rw [Sg_mul] at this
        show 0 < -row M (ls.erase k) z k / M k k
        rw [Rat.div_def]
        refine Rat.mul_pos ?_ (Rat.inv_pos.mpr (tie_pos hw ht))
        unfold row
        grind
      · rw [if_neg ht]
        exact ha
    -- the row of the struck ware, and the others'
    have rk : 0 ≤ row M ls (fill1 a (k, M, ls) z) k := by
      unfold row
      rw [Sg_take h.hd]
      have e := row_congr (M := M) (i := k) off
      unfold row at e
      rw [e]
      by_cases ht : hasTie M ls k
      · have p := tie_pos hw ht
        have ek : fill1 a (k, M, ls) z k = -row M (ls.erase k) z k / M k k := by
          unfold fill1
          rw [if_pos rfl, if_pos ht]
        rw [ek, Rat.mul_comm, Rat.div_mul_cancel (by grind)]
        unfold row
        grind
      · have r0 := row_zero h.nd (no_tie ht) z
        unfold row at r0
        rw [r0]
        have := Rat.mul_nonneg (wrong_sl hw) (Rat.le_of_lt pk)
        grind
    have ro : ∀ j ∈ ls.erase k, row M ls (fill1 a (k, M, ls) z) j = row (strike M k) (ls.erase k) z j := fun j hj => by
      unfold row
      rw [Sg_take h.hd]
      have e := row_congr (M := M) (i := j) off
      unfold row at e
      rw [e]
      have e2 : Sg (fun i => strike M k j i * z i) (ls.erase k) = Sg (fun i => M j i * z i + -(M j k / M k k) * (M k i * z i)) (ls.erase k) := Sg_congr fun i _ => by
        unfold strike
        rw [Rat.div_def, Rat.div_def]
        grind
      rw [e2, Sg_add, Sg_mul]
      by_cases ht : hasTie M ls k
      · have p := tie_pos hw ht
        have ek : fill1 a (k, M, ls) z k = -row M (ls.erase k) z k / M k k := by
          unfold fill1
          rw [if_pos rfl, if_pos ht]
        rw [ek]
        unfold row
        rw [Rat.div_def, Rat.div_def]
        grind
      · obtain ⟨jk, jL⟩ := (mem_er h.nd).mp hj
        have r0 := row_zero h.nd (no_tie ht) z
        unfold row at r0
        rw [r0, h.sy j k, no_tie ht j jL jk]
        grind
    refine ⟨fun j hj => ?_, fun j hj => ?_, fun j hj hn => ?_⟩
    · by_cases e : j = k
      · rw [e]
        exact pk
      · have je := (mem_er h.nd).mpr ⟨e, hj⟩
        rw [off j je]
        exact i1 j je
    · rw [ro j (eo.2.2.2.1 j hj)]
      exact i2 j hj
    · by_cases e : j = k
      · rw [e]
        exact rk
      · have je := (mem_er h.nd).mpr ⟨e, hj⟩
        rw [ro j je]
        exact i3 j je hn
/-- scales whose rows are not below 0 bar nothing -/
theorem Qf_scales {M : Tbl} {ls : List Nat} (hs : ∀ i j, M i j = M j i) (hop : OpT M ls) {p : Nat → Rat} (hp : ∀ i ∈ ls, 0 < p i) (hr : ∀ i ∈ ls, 0 ≤ row M ls p i) (x : Nat → Rat) : 0 ≤ Qf M ls x := by
  have key : ∀ i ∈ ls, ∀ j ∈ ls, (x i / p i) * (x i / p i) * (p i * (M i j * p j)) + (x j / p j) * (x j / p j) * (p j * (M j i * p i)) ≤ x i * (M i j * x j) + x j * (M j i * x i) := by
    intro i hi j hj
    have ei : x i = x i / p i * p i := (Rat.div_mul_cancel (by have := hp i hi; grind)).symm
    have ej : x j = x j / p j * p j := (Rat.div_mul_cancel (by have := hp j hj; grind)).symm
    have pi := hp i hi
    have pj := hp j hj
    by_cases e : i = j
    · subst e
      generalize x i / p i = z at *
      rw [ei]
      grind
    · have o := hop i hi j hj e
      rw [hs j i]
      generalize x i / p i = z at *
      generalize x j / p j = v at *
      rw [ei, ej]
      have q := Rat.mul_nonneg (a := -M i j) (b := p i * p j) (by grind) (Rat.le_of_lt (Rat.mul_pos pi pj))
      have q2 := Rat.mul_nonneg q (sq_nonneg (z - v))
      grind
  have dbl : ∀ f : Nat → Nat → Rat, Sg (fun i => Sg (f i) ls) ls + Sg (fun i => Sg (f i) ls) ls = Sg (fun i => Sg (fun j => f i j + f j i) ls) ls := fun f => by
    have e : Sg (fun i => Sg (f i) ls) ls = Sg (fun i => Sg (fun j => f j i) ls) ls := Sg_swap f ls ls
    rw [show Sg (fun i => Sg (fun j => f i j + f j i) ls) ls = Sg (fun i => Sg (fun j => f i j) ls + Sg (fun j => f j i) ls) ls from Sg_congr fun i _ => Sg_add _ _ _, Sg_add, ← e]
  have hq : Qf M ls x = Sg (fun i => Sg (fun j => x i * (M i j * x j)) ls) ls := Sg_congr fun i _ => (Sg_mul _ _ _).symm
  have h1 := dbl fun i j => x i * (M i j * x j)
  have h2 := dbl fun i j => (x i / p i) * (x i / p i) * (p i * (M i j * p j))
  have le : Sg (fun i => Sg (fun j => (x i / p i) * (x i / p i) * (p i * (M i j * p j)) + (x j / p j) * (x j / p j) * (p j * (M j i * p i))) ls) ls ≤ Sg (fun i => Sg (fun j => x i * (M i j * x j) + x j * (M j i * x i)) ls) ls :=
    Sg_le fun i hi => Sg_le fun j hj => key i hi j hj
  have pos : 0 ≤ Sg (fun i => Sg (fun j => (x i / p i) * (x i / p i) * (p i * (M i j * p j))) ls) ls := Sg_nonneg fun i hi => by
    have e : Sg (fun j => (x i / p i) * (x i / p i) * (p i * (M i j * p j))) ls = (x i / p i) * (x i / p i) * (p i * row M ls p i) := by
      unfold row
      rw [← Sg_mul, ← Sg_mul]
    rw [e]
    exact Rat.mul_nonneg (sq_nonneg _) (Rat.mul_nonneg (Rat.le_of_lt (hp i hi)) (hr i hi))
  rw [hq]
  grind
/-! ### a bar where a slant has a wrong sign -/
def barY (M : Tbl) (w o : Nat) : Nat → Rat := fun i => if i = w then (if M w w = 0 then (1 + (if M o o < 0 then -M o o else M o o)) / -M w o else 1) else if i = o ∧ M w w = 0 then 1 else 0
theorem Qf_bar {M : Tbl} {ls : List Nat} {w o : Nat} (hs : ∀ i j, M i j = M j i) (hop : OpT M ls) (nd : ls.Nodup) (hw : w ∈ ls) (h : M w w < 0 ∨ (M w w = 0 ∧ o ∈ ls ∧ o ≠ w ∧ M w o ≠ 0)) : Qf M ls (barY M w o) < 0 ∧ ∀ j ∈ ls, 0 ≤ barY M w o j := by
  rcases h with h | ⟨h, ho, ow, hn⟩
  · have z : ∀ j ∈ ls.erase w, barY M w o j = 0 := fun j hj => by
      unfold barY
      rw [if_neg ((mem_er nd).mp hj).1, if_neg (fun z => by have := z.2; grind)]
    have yw : barY M w o w = 1 := by
      unfold barY
      rw [if_pos rfl, if_neg (by grind)]
    refine ⟨?_, fun j hj => ?_⟩
    · rw [Qf_split hw hs, show row M (ls.erase w) (barY M w o) w = 0 from Sg_zero fun j hj => by rw [z j hj, Rat.mul_zero], show Qf M (ls.erase w) (barY M w o) = 0 from Sg_zero fun j hj => by rw [z j hj, Rat.zero_mul], yw]
      grind
    · by_cases e : j = w
      · rw [e, yw]
        decide
      · rw [z j ((mem_er nd).mpr ⟨e, hj⟩)]
        exact Rat.le_refl
  · have t : M w o < 0 := by
      have := hop w hw o ho (Ne.symm ow)
      grind
    have oe : o ∈ ls.erase w := (mem_er nd).mpr ⟨ow, ho⟩
    have z : ∀ j ∈ (ls.erase w).erase o, barY M w o j = 0 := fun j hj => by
      obtain ⟨a, b⟩ := (mem_er (nd.erase w)).mp hj
      unfold barY
      rw [if_neg ((mem_er nd).mp b).1, if_neg (fun z => a z.1)]
    have yo : barY M w o o = 1 := by
      unfold barY
      rw [if_neg ow, if_pos ⟨rfl, h⟩]
    have yw : barY M w o w * M w o = -(1 + (if M o o < 0 then -M o o else M o o)) := by
      unfold barY
      rw [if_pos rfl, if_pos h]
      have := Rat.div_mul_cancel (a := 1 + (if M o o < 0 then -M o o else M o o)) (b := -M w o) (by grind)
      grind
    have z1 : ∀ i, row M ((ls.erase w).erase o) (barY M w o) i = 0 := fun i => Sg_zero fun j hj => by rw [z j hj, Rat.mul_zero]
    have z2 : Qf M ((ls.erase w).erase o) (barY M w o) = 0 := Sg_zero fun j hj => by rw [z j hj, Rat.zero_mul]
    refine ⟨?_, fun j hj => ?_⟩
    · rw [Qf_split hw hs, Qf_split oe hs, z1, z2, h]
      have e : row M (ls.erase w) (barY M w o) w = M w o := by
        unfold row
        rw [Sg_take oe, yo]
        have := z1 w
        unfold row at this
        rw [this]
        grind
      rw [e, yw, yo]
      split <;> grind
    · unfold barY
      split
      · rw [Rat.div_def]
        refine Rat.mul_nonneg ?_ (Rat.le_of_lt (Rat.inv_pos.mpr (by grind)))
        split <;> grind
      · split
        · decide
        · exact Rat.le_refl
end My
namespace My
/-! ### common bottoms -/
def Gr (N D : Nat) (r : Rat) : Prop := ∃ n : Int, n.natAbs ≤ N ∧ r * (D : Rat) = (n : Rat)
theorem Gr.mono {N N' D : Nat} {r : Rat} (h : Gr N D r) (hN : N ≤ N') : Gr N' D r := by
  obtain ⟨n, a, b⟩ := h
  exact ⟨n, by omega, b⟩
theorem Gr.add {N N' D : Nat} {r s : Rat} (h : Gr N D r) (h' : Gr N' D s) : Gr (N + N') D (r + s) := by
  obtain ⟨n, a, b⟩ := h
  obtain ⟨n', a', b'⟩ := h'
  refine ⟨n + n', by omega, ?_⟩
  rw [Rat.intCast_add, ← b, ← b']
  grind
theorem Gr.neg {N D : Nat} {r : Rat} (h : Gr N D r) : Gr N D (-r) := by
  obtain ⟨n, a, b⟩ := h
  refine ⟨-n, by omega, ?_⟩
  rw [Rat.intCast_neg, ← b]
  grind
theorem Gr.sub {N N' D : Nat} {r s : Rat} (h : Gr N D r) (h' : Gr N' D s) : Gr (N + N') D (r - s) := by
  rw [Rat.sub_eq_add_neg]
  exact h.add h'.neg
theorem Gr.mul {N N' D D' : Nat} {r s : Rat} (h : Gr N D r) (h' : Gr N' D' s) : Gr (N * N') (D * D') (r * s) := by
  obtain ⟨n, a, b⟩ := h
  obtain ⟨n', a', b'⟩ := h'
  refine ⟨n * n', ?_, ?_⟩
  · rw [Int.natAbs_mul]
    exact Nat.mul_le_mul a a'
  · rw [Rat.intCast_mul, ← b, ← b', Rat.natCast_mul]
    grind
theorem Gr.scale {N D : Nat} {r : Rat} (h : Gr N D r) (c : Nat) : Gr (N * c) (D * c) r := by
  obtain ⟨n, a, b⟩ := h
  refine ⟨n * c, ?_, ?_⟩
  · rw [Int.natAbs_mul, Int.natAbs_natCast]
    exact Nat.mul_le_mul_right _ a
  · rw [Rat.intCast_mul, ← b, Rat.natCast_mul]
    show r * ((D : Rat) * c) = r * D * ((c : Int) : Rat)
    rw [show ((c : Int) : Rat) = (c : Rat) from rfl]
    grind
theorem Gr.zero (D : Nat) : Gr 0 D 0 := ⟨0, by decide, by rw [Rat.zero_mul]; rfl⟩
theorem Gr.one (D : Nat) : Gr D D 1 := ⟨D, by omega, by rw [Rat.one_mul]; rfl⟩
theorem Gr.sum {N D : Nat} {f : Nat → Rat} : ∀ {l : List Nat}, (∀ j ∈ l, Gr N D (f j)) → Gr (l.length * N) D (Sg f l)
  | [], _ => by
    rw [List.length_nil, Nat.zero_mul]
    exact Gr.zero D
  | a :: l, h => by
    rw [List.length_cons, Nat.add_mul, Nat.one_mul, Nat.add_comm]
    exact (h a (List.mem_cons_self ..)).add (Gr.sum fun j hj => h j (List.mem_cons_of_mem _ hj))
theorem Gr.bd {N D k : Nat} {r : Rat} (h : Gr N D r) (h0 : 0 < D) (h1 : N < 2 ^ k) (h2 : D < 2 ^ k) : Bd k r := by
  obtain ⟨n, a, b⟩ := h
  have z : (D : Int) ≠ 0 := by omega
  have z' : (D : Rat) ≠ 0 := by
    intro e
    have : ((D : Int) : Rat) = ((0 : Int) : Rat) := e
    have := Rat.intCast_inj.mp this
    omega
  have e : r = Rat.divInt n D := by
    rw [Rat.divInt_eq_div]
    show r = (n : Rat) / (D : Rat)
    rw [← b, Rat.div_def, Rat.mul_assoc, Rat.mul_inv_cancel _ z', Rat.mul_one]
  rw [e]
  exact Bd.divInt z (by omega) (by omega)
/-- all entries of the table over one bottom -/
def CD (b : Nat) (M : Tbl) (ls : List Nat) : Prop := ∃ d : Nat, 0 < d ∧ d < 2 ^ b ∧ ∀ i ∈ ls, ∀ j ∈ ls, Gr (2 ^ b - 1) d (M i j)
theorem CD.bd {b : Nat} {M : Tbl} {ls : List Nat} (h : CD b M ls) {i j : Nat} (hi : i ∈ ls) (hj : j ∈ ls) : Bd b (M i j) := by
  obtain ⟨d, h0, h1, h2⟩ := h
  exact (h2 i hi j hj).bd h0 (by have := Nat.two_pow_pos b; omega) h1
theorem CD.struck {b : Nat} {M : Tbl} {ls : List Nat} {k : Nat} (h : CD b M ls) (hk : k ∈ ls) (nd : ls.Nodup) (hw : ¬ wrong M ls k) : CD (2 * b + 1) (strike M k) (ls.erase k) := by
  obtain ⟨d, h0, h1, h2⟩ := h
  have pw : (2 : Nat) ^ (2 * b + 1) = 2 * (2 ^ b * 2 ^ b) := by
    rw [Nat.pow_succ, Nat.mul_comm 2 b, Nat.pow_mul, Nat.pow_two, Nat.mul_comm]
  have p1 := Nat.two_pow_pos b
  have p2 : 2 ^ b ≤ 2 ^ b * 2 ^ b := Nat.le_mul_of_pos_left _ p1
  rcases not_wrong hw with p | ⟨e, z⟩
  · obtain ⟨n, hn, en⟩ := h2 k hk k hk
    have dp : (0 : Rat) < (d : Rat) := by
      have : ((0 : Int) : Rat) < ((d : Int) : Rat) := Rat.intCast_lt_intCast.mpr (by omega)
      exact this
    have np : 0 < n := by
      have : (0 : Rat) < (n : Rat) := by
        rw [← en]
        exact Rat.mul_pos p dp
      exact Rat.intCast_lt_intCast.mp this
    refine ⟨d * n.natAbs, Nat.mul_pos h0 (by omega), ?_, fun i hi j hj => ?_⟩
    · rw [pw]
      have := Nat.mul_lt_mul'' h1 (show n.natAbs < 2 ^ b by omega)
      omega
    · have hi' := List.mem_of_mem_erase hi
      have hj' := List.mem_of_mem_erase hj
      obtain ⟨a, ha, ea⟩ := h2 i hi' j hj'
      obtain ⟨u, hu, eu⟩ := h2 i hi' k hk
      obtain ⟨v, hv, ev⟩ := h2 k hk j hj'
      refine ⟨a * n - u * v, ?_, ?_⟩
      · have l1 : (a * n).natAbs ≤ (2 ^ b - 1) * (2 ^ b - 1) := by
          rw [Int.natAbs_mul]
          exact Nat.mul_le_mul ha hn
        have l2 : (u * v).natAbs ≤ (2 ^ b - 1) * (2 ^ b - 1) := by
          rw [Int.natAbs_mul]
          exact Nat.mul_le_mul hu hv
        have l3 : (2 ^ b - 1) * (2 ^ b - 1) + 1 ≤ 2 ^ b * 2 ^ b := by
          obtain ⟨q, hq⟩ : ∃ q, 2 ^ b = q + 1 := ⟨2 ^ b - 1, by omega⟩
          rw [hq]
          show q * q + 1 ≤ (q + 1) * (q + 1)
          rw [Nat.add_mul, Nat.mul_add]
          omega
        rw [pw]
        omega
      · have en' : ((n.natAbs : Nat) : Rat) = (n : Rat) := by
          show (((n.natAbs : Nat) : Int) : Rat) = (n : Rat)
          rw [Int.natAbs_of_nonneg (by omega)]
        rw [Rat.natCast_mul, en', Rat.intCast_sub, Rat.intCast_mul, Rat.intCast_mul, ← ea, ← eu, ← ev, ← en]
        show (M i j - M i k * M k j / M k k) * _ = _
        have q : M i k * M k j / M k k * M k k = M i k * M k j := Rat.div_mul_cancel (by grind)
        generalize M i k * M k j / M k k = t at *
        grind
  · refine ⟨d, h0, by rw [pw]; omega, fun i hi j hj => ?_⟩
    obtain ⟨jk, jL⟩ := (mem_er nd).mp hj
    have : strike M k i j = M i j := by
      unfold strike
      rw [z j jL jk, Rat.mul_zero, zdiv]
      grind
    rw [this]
    exact (h2 i (List.mem_of_mem_erase hi) j jL).mono (by rw [pw]; omega)
def nb : Nat → Nat → Nat
  | b, 0 => b
  | b, i + 1 => nb (2 * b + 1) i
theorem nb_le {b c : Nat} (h : b ≤ c) : ∀ i, nb b i ≤ nb c i := by
  intro i
  induction i generalizing b c with
  | zero => exact h
  | succ i ih => exact ih (by omega)
theorem le_nb (b : Nat) : ∀ i, b ≤ nb b i := by
  intro i
  induction i generalizing b with
  | zero => exact Nat.le_refl _
  | succ i ih => exact Nat.le_trans (by omega) (ih (2 * b + 1))
/-- amounts over one bottom -/
def CDv (c : Nat) (z : Nat → Rat) (ls : List Nat) : Prop := ∃ d : Nat, 0 < d ∧ d < 2 ^ c ∧ ∀ j ∈ ls, Gr (2 ^ c - 1) d (z j)
theorem CDv.bd {c : Nat} {z : Nat → Rat} {ls : List Nat} (h : CDv c z ls) {j : Nat} (hj : j ∈ ls) : Bd c (z j) := by
  obtain ⟨d, h0, h1, h2⟩ := h
  exact (h2 j hj).bd h0 (by have := Nat.two_pow_pos c; omega) h1
theorem CDv.fill {b c k : Nat} {M : Tbl} {ls : List Nat} {z : Nat → Rat} {a : Rat} (h : CD b M ls) (hv : CDv c z (ls.erase k)) (hk : k ∈ ls) (nd : ls.Nodup) (h8 : ls.length ≤ 8) (hw : ¬ wrong M ls k) (ha : a = 0 ∨ a = 1) :
    CDv (c + b + 3) (fill1 a (k, M, ls) z) ls := by
  obtain ⟨d, d0, d1, hM⟩ := h
  obtain ⟨e, e0, e1, hz⟩ := hv
  have pb := Nat.two_pow_pos b
  have pc := Nat.two_pow_pos c
  have pw : (2 : Nat) ^ (c + b + 3) = 8 * (2 ^ c * 2 ^ b) := by
    rw [Nat.pow_add, Nat.pow_add]
    omega
  have l1 : 2 ^ c ≤ 2 ^ c * 2 ^ b := Nat.le_mul_of_pos_right _ pb
  have off := fill1_off (a := a) (M := M) (z := z) (k := k) nd
  have l3 : (2 ^ c - 1) * (2 ^ b - 1) + 1 ≤ 2 ^ c * 2 ^ b := by
    obtain ⟨q, hq⟩ : ∃ q, 2 ^ b = q + 1 := ⟨2 ^ b - 1, by omega⟩
    obtain ⟨r, hr⟩ : ∃ r, 2 ^ c = r + 1 := ⟨2 ^ c - 1, by omega⟩
    rw [hq, hr]
    show r * q + 1 ≤ (r + 1) * (q + 1)
    rw [Nat.add_mul, Nat.mul_add]
    omega
  by_cases ht : hasTie M ls k
  · have p := tie_pos hw ht
    obtain ⟨n, hn, en⟩ := hM k hk k hk
    have dp : (0 : Rat) < (d : Rat) := by
      have : ((0 : Int) : Rat) < ((d : Int) : Rat) := Rat.intCast_lt_intCast.mpr (by omega)
      exact this
    have np : 0 < n := by
      have : (0 : Rat) < (n : Rat) := by
        rw [← en]
        exact Rat.mul_pos p dp
      exact Rat.intCast_lt_intCast.mp this
    have en' : ((n.natAbs : Nat) : Rat) = (n : Rat) := by
      show (((n.natAbs : Nat) : Int) : Rat) = (n : Rat)
      rw [Int.natAbs_of_nonneg (by omega)]
    refine ⟨e * n.natAbs, Nat.mul_pos e0 (by omega), ?_, fun j hj => ?_⟩
    · have := Nat.mul_lt_mul'' e1 (show n.natAbs < 2 ^ b by omega)
      omega
    · by_cases jk : j = k
      · subst jk
        have hr : Gr ((ls.erase j).length * ((2 ^ b - 1) * (2 ^ c - 1))) (d * e) (row M (ls.erase j) z j) := Gr.sum fun i hi => (hM j hk i (List.mem_of_mem_erase hi)).mul (hz i hi)
        obtain ⟨S, hS, eS⟩ := hr
        refine ⟨-S, ?_, ?_⟩
        · rw [Int.natAbs_neg]
          have hl : (ls.erase j).length ≤ 7 := by
            rw [List.length_erase_of_mem hk]
            omega
          have := Nat.mul_le_mul_right ((2 ^ b - 1) * (2 ^ c - 1)) hl
          rw [Nat.mul_comm (2 ^ b - 1) (2 ^ c - 1)] at *
          omega
        · unfold fill1
          rw [if_pos rfl, if_pos ht]
          show -row M (ls.erase j) z j / M j j * _ = _
          rw [Rat.natCast_mul, en', ← en, Rat.intCast_neg, ← eS, Rat.natCast_mul]
          have q : -row M (ls.erase j) z j / M j j * M j j = -row M (ls.erase j) z j := Rat.div_mul_cancel (by grind)
          generalize -row M (ls.erase j) z j / M j j = t at *
          grind
      · have je := (mem_er nd).mpr ⟨jk, hj⟩
        rw [off j je]
        refine ((hz j je).scale n.natAbs).mono ?_
        have := Nat.mul_le_mul (Nat.le_refl (2 ^ c - 1)) (show n.natAbs ≤ 2 ^ b - 1 by omega)
        omega
  · refine ⟨e, e0, by omega, fun j hj => ?_⟩
    by_cases jk : j = k
    · subst jk
      unfold fill1
      rw [if_pos rfl, if_neg ht]
      rcases ha with rfl | rfl
      · exact (Gr.zero e).mono (by omega)
      · exact (Gr.one e).mono (by omega)
    · have je := (mem_er nd).mpr ⟨jk, hj⟩
      rw [off j je]
      exact (hz j je).mono (by omega)
theorem CDv.mono {c c' : Nat} {z : Nat → Rat} {ls : List Nat} (h : CDv c z ls) (hc : c ≤ c') : CDv c' z ls := by
  obtain ⟨e, e0, e1, hz⟩ := h
  have p : (2 : Nat) ^ c ≤ 2 ^ c' := Nat.pow_le_pow_right (by decide) hc
  exact ⟨e, e0, by omega, fun j hj => (hz j hj).mono (by omega)⟩
theorem CDv.alone {c k : Nat} {M : Tbl} {ls : List Nat} {z : Nat → Rat} {a : Rat} (hv : CDv c z (ls.erase k)) (nd : ls.Nodup) (ht : ¬ hasTie M ls k) (ha : a = 0 ∨ a = 1) : CDv c (fill1 a (k, M, ls) z) ls := by
  obtain ⟨e, e0, e1, hz⟩ := hv
  refine ⟨e, e0, by omega, fun j hj => ?_⟩
  by_cases jk : j = k
  · subst jk
    unfold fill1
    rw [if_pos rfl, if_neg ht]
    rcases ha with rfl | rfl
    · exact (Gr.zero e).mono (by omega)
    · exact (Gr.one e).mono (by omega)
  · have je := (mem_er nd).mpr ⟨jk, hj⟩
    rw [fill1_off nd j je]
    exact hz j je
/-- how wide the amounts filled back may be -/
def fb : Nat → Nat → Nat → Nat
  | _, c, 0 => c
  | b, c, i + 1 => if i = 0 then c else fb (2 * b + 1) c i + b + 3
theorem le_fb (c : Nat) : ∀ (i b : Nat), c ≤ fb b c i := by
  intro i
  induction i with
  | zero => exact fun b => Nat.le_refl _
  | succ i ih =>
    intro b
    have := ih (2 * b + 1)
    unfold fb
    split <;> omega
theorem CDv.back {M : Tbl} {ls o : List Nat} (h : Odr M ls o) {b c : Nat} (hb : CD b M ls) (h8 : ls.length ≤ 8) {y : Nat → Rat} (hy : CDv c y (endL M ls o)) {a : Rat} (ha : a = 0 ∨ a = 1) : CDv (fb b c ls.length) (fillB a (runS M ls o) y) ls := by
  refine run_ind (C := fun M ls o => ∀ b, CD b M ls → ls.length ≤ 8 → CDv c y (endL M ls o) → CDv (fb b c ls.length) (fillB a (runS M ls o) y) ls) ?_ ?_ ?_ o M ls h b hb h8 hy
  · intro M ls h b _ _ hy
    exact hy.mono (le_fb c _ b)
  · intro M ls k o h hw b _ _ hy
    obtain ⟨e1, _, e3, _⟩ := runS_pos (o := o) hw
    rw [e3] at hy
    rw [e1]
    exact hy.mono (le_fb c _ b)
  · intro M ls k o h hw ih b hb h8 hy
    obtain ⟨e1, _, e3, _⟩ := runS_neg (o := o) hw
    rw [e3] at hy
    rw [e1]
    have el : (ls.erase k).length = ls.length - 1 := List.length_erase_of_mem h.hd
    have l1 := List.length_pos_of_mem h.hd
    have := ih (2 * b + 1) (hb.struck h.hd h.nd hw) (by omega) hy
    rw [el] at this
    obtain ⟨m, hm⟩ : ∃ m, ls.length = m + 1 := ⟨ls.length - 1, by omega⟩
    rw [hm] at this ⊢
    by_cases m0 : m = 0
    · subst m0
      have ht : ¬ hasTie M ls k := by
        rintro ⟨j, hj, jk, _⟩
        have : j ∈ ls.erase k := (mem_er h.nd).mpr ⟨jk, hj⟩
        have := List.length_pos_of_mem this
        omega
      exact CDv.alone this h.nd ht ha
    · have e : fb b c (m + 1) = fb (2 * b + 1) c m + b + 3 := by
        show (if m = 0 then c else fb (2 * b + 1) c m + b + 3) = _
        rw [if_neg m0]
      rw [e]
      exact CDv.fill hb this h.hd h.nd h8 hw ha
end My
namespace My
/-! ### minors: how wide a struck table may be -/
def exL (f : Nat → List Nat → Rat) : List Nat → Rat
  | [] => 0
  | c :: cs => f c cs - exL (fun c' cs' => f c' (c :: cs')) cs
def dtM (M : Tbl) : List Nat → List Nat → Rat
  | [], _ => 1
  | r :: rs, cols => exL (fun c cs => M r c * dtM M rs cs) cols
theorem exL_add : ∀ (cols : List Nat) (f g : Nat → List Nat → Rat), exL (fun c cs => f c cs + g c cs) cols = exL f cols + exL g cols
  | [], f, g => by
    show (0 : Rat) = 0 + 0
    grind
  | c :: cs, f, g => by
    show f c cs + g c cs - exL (fun c' cs' => f c' (c :: cs') + g c' (c :: cs')) cs = f c cs - exL (fun c' cs' => f c' (c :: cs')) cs + (g c cs - exL (fun c' cs' => g c' (c :: cs')) cs)
    rw [exL_add cs (fun c' cs' => f c' (c :: cs')) (fun c' cs' => g c' (c :: cs'))]
    grind
theorem exL_mul (k : Rat) : ∀ (cols : List Nat) (f : Nat → List Nat → Rat), exL (fun c cs => k * f c cs) cols = k * exL f cols
  | [], f => by
    show (0 : Rat) = k * 0
    grind
  | c :: cs, f => by
    show k * f c cs - exL (fun c' cs' => k * f c' (c :: cs')) cs = k * (f c cs - exL (fun c' cs' => f c' (c :: cs')) cs)
    rw [exL_mul k cs (fun c' cs' => f c' (c :: cs'))]
    grind
theorem exL_zero : ∀ (cols : List Nat) (f : Nat → List Nat → Rat), (∀ c ∈ cols, ∀ cs, f c cs = 0) → exL f cols = 0
  | [], _, _ => rfl
  | c :: cs, f, h => by
    show f c cs - exL (fun c' cs' => f c' (c :: cs')) cs = 0
    rw [h c (List.mem_cons_self ..), exL_zero cs _ fun c' hc' cs' => h c' (List.mem_cons_of_mem _ hc') _]
    grind
theorem exL_sum (f : Nat → Nat → List Nat → Rat) (cols : List Nat) : ∀ l : List Nat, exL (fun c cs => Sg (fun s => f s c cs) l) cols = Sg (fun s => exL (f s) cols) l
  | [] => exL_zero _ _ fun _ _ _ => rfl
  | a :: l => by
    rw [Sg_cons, ← exL_sum f cols l, ← exL_add]
    rfl
/-- the order of two rows -/
theorem exL_anti : ∀ (cols : List Nat) (g : Nat → Nat → List Nat → Rat), exL (fun c cs => exL (fun c' cs' => g c c' cs') cs) cols + exL (fun c cs => exL (fun c' cs' => g c' c cs') cs) cols = 0
  | [], g => by
    show (0 : Rat) + 0 = 0
    grind
  | c :: cs, g => by
    have key : ∀ g : Nat → Nat → List Nat → Rat, exL (fun c cs => exL (fun c' cs' => g c c' cs') cs) (c :: cs) = exL (fun c' cs' => g c c' cs') cs - exL (fun c1 cs1 => g c1 c cs1) cs + exL (fun c1 cs1 => exL (fun c' cs' => g c1 c' (c :: cs')) cs1) cs := fun g => by
      show exL (fun c' cs' => g c c' cs') cs - exL (fun c1 cs1 => g c1 c cs1 - exL (fun c' cs' => g c1 c' (c :: cs')) cs1) cs = _
      have e : exL (fun c1 cs1 => g c1 c cs1 - exL (fun c' cs' => g c1 c' (c :: cs')) cs1) cs = exL (fun c1 cs1 => g c1 c cs1 + -1 * exL (fun c' cs' => g c1 c' (c :: cs')) cs1) cs := congrArg (fun f => exL f cs) (by
        funext c1 cs1
        grind)
      rw [e, exL_add, exL_mul]
      grind
    rw [key g, key fun a b l => g b a l]
    have := exL_anti cs fun a b l => g a b (c :: l)
    grind
theorem dtM_swap (M : Tbl) (a b : Nat) (rs cols : List Nat) : dtM M (a :: b :: rs) cols + dtM M (b :: a :: rs) cols = 0 := by
  have e : ∀ a b : Nat, dtM M (a :: b :: rs) cols = exL (fun c cs => exL (fun c' cs' => M a c * (M b c' * dtM M rs cs')) cs) cols := fun a b => by
    show exL (fun c cs => M a c * exL (fun c' cs' => M b c' * dtM M rs cs') cs) cols = _
    refine congrArg (fun f => exL f cols) ?_
    funext c cs
    exact (exL_mul _ _ _).symm
  rw [e a b, e b a]
  have := exL_anti cols fun c c' cs => M a c * (M b c' * dtM M rs cs)
  have e2 : exL (fun c cs => exL (fun c' cs' => M b c * (M a c' * dtM M rs cs')) cs) cols = exL (fun c cs => exL (fun c' cs' => M a c' * (M b c * dtM M rs cs')) cs) cols := by
    refine congrArg (fun f => exL f cols) ?_
    funext c cs
    refine congrArg (fun f => exL f cs) ?_
    funext c' cs'
    grind
  rw [e2]
  exact this
theorem dtM_twice (M : Tbl) (s : Nat) : ∀ (S cols : List Nat), s ∈ S → dtM M (s :: S) cols = 0
  | t :: S, cols, h => by
    have sw := dtM_swap M s t S cols
    rcases List.mem_cons.mp h with e | e
    · subst e
      grind
    · have z : dtM M (t :: s :: S) cols = 0 := by
        show exL (fun c cs => M t c * dtM M (s :: S) cs) cols = 0
        have e2 : (fun c cs => M t c * dtM M (s :: S) cs) = fun (c : Nat) (cs : List Nat) => (0 : Rat) := by
          funext c cs
          rw [dtM_twice M s S cs e, Rat.mul_zero]
        rw [e2]
        exact exL_zero _ _ fun _ _ _ => rfl
      grind
/-- a stage of striking, told by the first table -/
structure Stg (M0 M : Tbl) (ls S : List Nat) : Prop where
  rows : ∀ i ∈ ls, ∃ c : Nat → Rat, ∀ j, M0 i j = M i j + Sg (fun s => c s * M0 s j) S
  zero : ∀ i ∈ ls, ∀ s ∈ S, M i s = 0
  det : dtM M0 S S ≠ 0
  off : ∀ i ∈ ls, ¬ i ∈ S
  nd : S.Nodup
theorem Stg.entry {M0 M : Tbl} {ls S : List Nat} (h : Stg M0 M ls S) {i : Nat} (hi : i ∈ ls) (j : Nat) : dtM M0 (i :: S) (j :: S) = dtM M0 S S * M i j := by
  obtain ⟨c, hc⟩ := h.rows i hi
  have e : (fun x cs => M0 i x * dtM M0 S cs) = fun x cs => M i x * dtM M0 S cs + Sg (fun s => c s * (M0 s x * dtM M0 S cs)) S := by
    funext x cs
    rw [hc x]
    have : Sg (fun s => c s * (M0 s x * dtM M0 S cs)) S = dtM M0 S cs * Sg (fun s => c s * M0 s x) S := by
      rw [← Sg_mul]
      exact Sg_congr fun s _ => by grind
    rw [this]
    grind
  show exL (fun x cs => M0 i x * dtM M0 S cs) (j :: S) = _
  rw [e, exL_add, exL_sum (fun s x cs => c s * (M0 s x * dtM M0 S cs))]
  have z : Sg (fun s => exL (fun x cs => c s * (M0 s x * dtM M0 S cs)) (j :: S)) S = 0 := Sg_zero fun s hs => by
    rw [exL_mul]
    have := dtM_twice M0 s S (j :: S) hs
    rw [show exL (fun x cs => M0 s x * dtM M0 S cs) (j :: S) = 0 from this, Rat.mul_zero]
  rw [z]
  show M i j * dtM M0 S S - exL (fun c' cs' => M i c' * dtM M0 S (j :: cs')) S + 0 = _
  rw [exL_zero S _ fun x hx cs => by rw [h.zero i hi x hx, Rat.zero_mul]]
  grind
theorem Stg.first {M : Tbl} {ls : List Nat} : Stg M M ls [] := ⟨fun i _ => ⟨fun _ => 0, fun j => by show M i j = M i j + 0; grind⟩, fun _ _ _ h => absurd h List.not_mem_nil, by show (1 : Rat) ≠ 0; decide, fun _ _ => List.not_mem_nil, .nil⟩
theorem Stg.next {M0 M : Tbl} {ls S : List Nat} {k : Nat} (h : Stg M0 M ls S) (hk : k ∈ ls) (nd : ls.Nodup) (hs : ∀ i j, M i j = M j i) (hw : ¬ wrong M ls k) : Stg M0 (strike M k) (ls.erase k) (k :: S) ∨ Stg M0 (strike M k) (ls.erase k) S := by
  by_cases p : M k k = 0
  · -- nothing is tied
    have z : ∀ j ∈ ls, j ≠ k → M k j = 0 := by
      rcases not_wrong hw with q | ⟨_, z⟩
      · grind
      · exact z
    have e : ∀ i j, strike M k i j = M i j := fun i j => by
      unfold strike
      rw [p, Rat.div_def, Rat.inv_zero, Rat.mul_zero]
      grind
    refine .inr ⟨fun i hi => ?_, fun i hi s hs => ?_, h.det, fun i hi => h.off i (List.mem_of_mem_erase hi), h.nd⟩
    · obtain ⟨c, hc⟩ := h.rows i (List.mem_of_mem_erase hi)
      exact ⟨c, fun j => by rw [e]; exact hc j⟩
    · rw [e]
      exact h.zero i (List.mem_of_mem_erase hi) s hs
  · refine .inl ⟨fun i hi => ?_, fun i hi s hs' => ?_, ?_, fun i hi z => ?_, List.nodup_cons.mpr ⟨h.off k hk, h.nd⟩⟩
    · obtain ⟨c, hc⟩ := h.rows i (List.mem_of_mem_erase hi)
      obtain ⟨ck, hck⟩ := h.rows k hk
      refine ⟨fun s => if s = k then M i k / M k k else c s - M i k / M k k * ck s, fun j => ?_⟩
      rw [Sg_cons]
      have e0 : (fun s => if s = k then M i k / M k k else c s - M i k / M k k * ck s) k = M i k / M k k := if_pos rfl
      rw [e0]
      have e : Sg (fun s => (if s = k then M i k / M k k else c s - M i k / M k k * ck s) * M0 s j) S = Sg (fun s => c s * M0 s j + -(M i k / M k k) * (ck s * M0 s j)) S := Sg_congr fun s hs => by
        rw [if_neg (fun z => h.off k hk (by rw [← z]; exact hs))]
        grind
      rw [e, Sg_add, Sg_mul, hc j, hck j]
      unfold strike
      rw [Rat.div_def, Rat.div_def]
      grind
    · unfold strike
      rcases List.mem_cons.mp hs' with e | e
      · subst e
        have : M i s * M s s / M s s = M i s := by
          rw [Rat.div_def, Rat.mul_assoc, Rat.mul_inv_cancel _ p, Rat.mul_one]
        rw [this]
        grind
      · rw [h.zero i (List.mem_of_mem_erase hi) s e, h.zero k hk s e, Rat.mul_zero, zdiv]
        grind
    · rw [h.entry hk k]
      intro z
      rcases Rat.mul_eq_zero.mp z with z | z
      · exact h.det z
      · exact p z
    · obtain ⟨ik, iL⟩ := (mem_er nd).mp hi
      rcases List.mem_cons.mp z with e | e
      · exact ik e
      · exact h.off i iL e
theorem exL_gr {N D : Nat} : ∀ (cols : List Nat) (f : Nat → List Nat → Rat), (∀ c ∈ cols, ∀ cs, cs.length + 1 = cols.length → (∀ x ∈ cs, x ∈ cols) → Gr N D (f c cs)) → Gr (cols.length * N) D (exL f cols)
  | [], f, _ => by
    rw [List.length_nil, Nat.zero_mul]
    exact Gr.zero D
  | c :: cs, f, h => by
    rw [List.length_cons, Nat.add_mul, Nat.one_mul, Nat.add_comm]
    refine (h c (List.mem_cons_self ..) cs rfl fun x hx => List.mem_cons_of_mem _ hx).sub (exL_gr cs _ fun c' hc' cs' hl hx => ?_)
    refine h c' (List.mem_cons_of_mem _ hc') (c :: cs') (by rw [List.length_cons, hl]; rfl) fun x hx' => ?_
    rcases List.mem_cons.mp hx' with e | e
    · rw [e]
      exact List.mem_cons_self ..
    · exact List.mem_cons_of_mem _ (hx x e)
/-- how great a minor may be -/
def mb (B : Nat) : Nat → Nat
  | 0 => 1
  | s + 1 => (s + 1) * (B * mb B s)
theorem dtM_gr {M : Tbl} {ls : List Nat} {B d : Nat} (h : ∀ i ∈ ls, ∀ j ∈ ls, Gr B d (M i j)) : ∀ (rs cols : List Nat), (∀ x ∈ rs, x ∈ ls) → (∀ x ∈ cols, x ∈ ls) → rs.length = cols.length → Gr (mb B rs.length) (d ^ rs.length) (dtM M rs cols)
  | [], cols, _, _, _ => by
    show Gr 1 (d ^ 0) 1
    rw [Nat.pow_zero]
    exact Gr.one 1
  | r :: rs, cols, h1, h2, hl => by
    have := exL_gr (N := B * mb B rs.length) (D := d * d ^ rs.length) cols (fun c cs => M r c * dtM M rs cs) fun c hc cs hcs hx =>
      (h r (h1 r (List.mem_cons_self ..)) c (h2 c hc)).mul (dtM_gr h rs cs (fun x hx => h1 x (List.mem_cons_of_mem _ hx)) (fun x hx' => h2 x (hx x hx')) (by rw [List.length_cons] at hl; omega))
    show Gr ((rs.length + 1) * (B * mb B rs.length)) (d ^ (rs.length + 1)) _
    rw [List.length_cons] at hl
    have e : d ^ (rs.length + 1) = d * d ^ rs.length := by rw [Nat.pow_succ, Nat.mul_comm]
    rw [← hl] at this
    rw [e]
    exact this
theorem mb_mono {B s t : Nat} (hB : 1 ≤ B) (h : s ≤ t) : mb B s ≤ mb B t := by
  induction t with
  | zero =>
    rw [show s = 0 by omega]
    exact Nat.le_refl _
  | succ t ih =>
    by_cases e : s = t + 1
    · rw [e]
      exact Nat.le_refl _
    · refine Nat.le_trans (ih (by omega)) ?_
      show mb B t ≤ (t + 1) * (B * mb B t)
      exact Nat.le_trans (Nat.le_mul_of_pos_left _ hB) (Nat.le_mul_of_pos_left _ (by omega))
/-- a stage's entries over one bottom -/
theorem Stg.cd {M0 M : Tbl} {l0 ls S : List Nat} {B d m : Nat} (h : Stg M0 M ls S) (hB : ∀ i ∈ l0, ∀ j ∈ l0, Gr B d (M0 i j)) (hl : ∀ i ∈ ls, i ∈ l0) (hS : ∀ i ∈ S, i ∈ l0) (d0 : 0 < d) (B1 : 1 ≤ B) (hm : S.length + (if ls = [] then 0 else 1) ≤ m) :
    ∃ e : Nat, 0 < e ∧ e ≤ d * mb B m ∧ ∀ i ∈ ls, ∀ j ∈ ls, Gr (mb B m) e (M i j) := by
  by_cases e : ls = []
  · subst e
    have : 1 ≤ mb B m := mb_mono (s := 0) B1 (Nat.zero_le _)
    exact ⟨d, d0, Nat.le_mul_of_pos_right _ this, fun i hi => absurd hi List.not_mem_nil⟩
  · rw [if_neg e] at hm
    obtain ⟨n, hn, en⟩ := dtM_gr hB S S hS hS rfl
    have dp : ((d ^ S.length : Nat) : Rat) ≠ 0 := by
      have : 0 < d ^ S.length := Nat.pow_pos d0
      intro z
      have : ((d ^ S.length : Nat) : Int) = 0 := Rat.intCast_inj.mp (show (((d ^ S.length : Nat) : Int) : Rat) = ((0 : Int) : Rat) from z)
      omega
    have n0 : n ≠ 0 := by
      intro z
      rw [z] at en
      rcases Rat.mul_eq_zero.mp (show dtM M0 S S * ((d ^ S.length : Nat) : Rat) = 0 from en) with q | q
      · exact h.det q
      · exact dp q
    have le1 : n.natAbs ≤ mb B m := Nat.le_trans hn (mb_mono B1 (by omega))
    refine ⟨d * n.natAbs, Nat.mul_pos d0 (by omega), Nat.mul_le_mul_left _ le1, fun i hi j hj => ?_⟩
    obtain ⟨u, hu, eu⟩ := dtM_gr hB (i :: S) (j :: S) (fun x hx => by
      rcases List.mem_cons.mp hx with z | z
      · rw [z]
        exact hl i hi
      · exact hS x z) (fun x hx => by
      rcases List.mem_cons.mp hx with z | z
      · rw [z]
        exact hl j hj
      · exact hS x z) (by simp)
    have lu : u.natAbs ≤ mb B m := Nat.le_trans hu (mb_mono B1 (by rw [List.length_cons]; exact hm))
    rw [h.entry hi j, List.length_cons, Nat.pow_succ, Rat.natCast_mul] at eu
    have key : M i j * ((d : Rat) * (n : Rat)) = (u : Rat) := by
      rw [← eu, ← en]
      grind
    by_cases s : 0 ≤ n
    · refine ⟨u, lu, ?_⟩
      rw [Rat.natCast_mul, show ((n.natAbs : Nat) : Rat) = (n : Rat) by
        show (((n.natAbs : Nat) : Int) : Rat) = (n : Rat)
        rw [Int.natAbs_of_nonneg s]]
      exact key
    · refine ⟨-u, by omega, ?_⟩
      rw [Rat.natCast_mul, show ((n.natAbs : Nat) : Rat) = -(n : Rat) by
        show (((n.natAbs : Nat) : Int) : Rat) = -(n : Rat)
        rw [show ((n.natAbs : Nat) : Int) = -n by omega, Rat.intCast_neg], Rat.intCast_neg, ← key]
      grind
theorem mb8 {B : Nat} (h : B ≤ 2 ^ 27) : mb B 8 < 2 ^ 232 := by
  have m : ∀ {a b : Nat} (s : Nat), a ≤ b → mb a s ≤ mb b s := fun {a b} s h => by
    induction s with
    | zero => exact Nat.le_refl _
    | succ s ih => exact Nat.mul_le_mul_left _ (Nat.mul_le_mul h ih)
  exact Nat.lt_of_le_of_lt (m 8 h) (by decide)
theorem Stg.cd8 {M0 M : Tbl} {l0 ls S : List Nat} {B d : Nat} (h : Stg M0 M ls S) (hB : ∀ i ∈ l0, ∀ j ∈ l0, Gr B d (M0 i j)) (hl : ∀ i ∈ ls, i ∈ l0) (hS : ∀ i ∈ S, i ∈ l0) (d0 : 0 < d) (B1 : 1 ≤ B) (hd : d < 2 ^ 24) (hB2 : B ≤ 2 ^ 27) (hm : S.length + ls.length ≤ 8) : CD 256 M ls := by
  obtain ⟨e, e0, e1, e2⟩ := h.cd hB hl hS d0 B1 (m := 8) (by
    split
    · omega
    · rename_i z
      have := List.length_pos_iff.mpr z
      omega)
  have := mb8 hB2
  have p : d * mb B 8 ≤ 2 ^ 24 * 2 ^ 232 := Nat.mul_le_mul (by omega) (by omega)
  rw [← Nat.pow_add] at p
  refine ⟨e, e0, ?_, fun i hi j hj => (e2 i hi j hj).mono ?_⟩
  · have : d * mb B 8 < 2 ^ 24 * 2 ^ 232 := Nat.mul_lt_mul'' hd this
    rw [← Nat.pow_add] at this
    exact Nat.lt_of_le_of_lt e1 this
  · have : (2 : Nat) ^ 240 < 2 ^ 256 := Nat.pow_lt_pow_right (by decide) (by decide)
    omega
/-- all stages of a row of strikes -/
theorem run_cd {M0 : Tbl} {l0 : List Nat} {B d : Nat} (hB : ∀ i ∈ l0, ∀ j ∈ l0, Gr B d (M0 i j)) (d0 : 0 < d) (B1 : 1 ≤ B) (hd : d < 2 ^ 24) (hB2 : B ≤ 2 ^ 27) {M : Tbl} {ls o : List Nat} (h : Odr M ls o) {S : List Nat} (st : Stg M0 M ls S)
    (hl : ∀ i ∈ ls, i ∈ l0) (hS : ∀ i ∈ S, i ∈ l0) (hm : S.length + ls.length ≤ 8) : (∀ s ∈ runS M ls o, CD 256 s.2.1 s.2.2) ∧ CD 256 (endM M ls o) (endL M ls o) := by
  refine run_ind (C := fun M ls o => ∀ S, Stg M0 M ls S → (∀ i ∈ ls, i ∈ l0) → (∀ i ∈ S, i ∈ l0) → S.length + ls.length ≤ 8 → (∀ s ∈ runS M ls o, CD 256 s.2.1 s.2.2) ∧ CD 256 (endM M ls o) (endL M ls o)) ?_ ?_ ?_ o M ls h S st hl hS hm
  · intro M ls h S st hl hS hm
    exact ⟨fun s hs => absurd hs List.not_mem_nil, st.cd8 hB hl hS d0 B1 hd hB2 hm⟩
  · intro M ls k o h hw S st hl hS hm
    obtain ⟨e1, e2, e3, _⟩ := runS_pos (o := o) hw
    rw [e1, e2, e3]
    exact ⟨fun s hs => absurd hs List.not_mem_nil, st.cd8 hB hl hS d0 B1 hd hB2 hm⟩
  · intro M ls k o h hw ih S st hl hS hm
    obtain ⟨e1, e2, e3, _⟩ := runS_neg (o := o) hw
    rw [e1, e2, e3]
    have hl' : ∀ i ∈ ls.erase k, i ∈ l0 := fun i hi => hl i (List.mem_of_mem_erase hi)
    have le : (ls.erase k).length = ls.length - 1 := List.length_erase_of_mem h.hd
    have lp := List.length_pos_of_mem h.hd
    have nx : (∀ s ∈ runS (strike M k) (ls.erase k) o, CD 256 s.2.1 s.2.2) ∧ CD 256 (endM (strike M k) (ls.erase k) o) (endL (strike M k) (ls.erase k) o) := by
      rcases st.next h.hd h.nd h.sy hw with n | n
      · refine ih (k :: S) n hl' (fun i hi => ?_) (by rw [List.length_cons]; omega)
        rcases List.mem_cons.mp hi with e | e
        · rw [e]
          exact hl k h.hd
        · exact hS i e
      · exact ih S n hl' hS (by omega)
    refine ⟨fun s hs => ?_, nx.2⟩
    rcases List.mem_cons.mp hs with e | e
    · rw [e]
      exact st.cd8 hB hl hS d0 B1 hd hB2 hm
    · exact nx.1 s e
def fc (b c : Nat) : Nat → Nat
  | 0 => c
  | i + 1 => c + i * (b + 3)
theorem CDv.fills {M : Tbl} {ls o : List Nat} (h : Odr M ls o) {b c : Nat} (hb : ∀ s ∈ runS M ls o, CD b s.2.1 s.2.2) (h8 : ls.length ≤ 8) {y : Nat → Rat} (hy : CDv c y (endL M ls o)) {a : Rat} (ha : a = 0 ∨ a = 1) : CDv (fc b c ls.length) (fillB a (runS M ls o) y) ls := by
  have le : ∀ i, c ≤ fc b c i := fun i => by
    cases i with
    | zero => exact Nat.le_refl _
    | succ i => exact Nat.le_add_right _ _
  refine run_ind (C := fun M ls o => (∀ s ∈ runS M ls o, CD b s.2.1 s.2.2) → ls.length ≤ 8 → CDv c y (endL M ls o) → CDv (fc b c ls.length) (fillB a (runS M ls o) y) ls) ?_ ?_ ?_ o M ls h hb h8 hy
  · intro M ls h _ _ hy
    exact hy.mono (le _)
  · intro M ls k o h hw _ _ hy
    obtain ⟨e1, _, e3, _⟩ := runS_pos (o := o) hw
    rw [e3] at hy
    rw [e1]
    exact hy.mono (le _)
  · intro M ls k o h hw ih hb h8 hy
    obtain ⟨e1, _, e3, _⟩ := runS_neg (o := o) hw
    rw [e3] at hy
    rw [e1] at hb ⊢
    have el : (ls.erase k).length = ls.length - 1 := List.length_erase_of_mem h.hd
    have l1 := List.length_pos_of_mem h.hd
    have := ih (fun s hs => hb s (List.mem_cons_of_mem _ hs)) (by omega) hy
    have cdk : CD b M ls := hb (k, M, ls) (List.mem_cons_self ..)
    rw [el] at this
    obtain ⟨m, hm⟩ : ∃ m, ls.length = m + 1 := ⟨ls.length - 1, by omega⟩
    rw [hm] at this ⊢
    by_cases m0 : m = 0
    · subst m0
      have ht : ¬ hasTie M ls k := by
        rintro ⟨j, hj, jk, _⟩
        have : j ∈ ls.erase k := (mem_er h.nd).mpr ⟨jk, hj⟩
        have := List.length_pos_of_mem this
        omega
      exact (CDv.alone this h.nd ht ha).mono (le _)
    · refine (CDv.fill cdk this h.hd h.nd h8 hw ha).mono ?_
      obtain ⟨i, rfl⟩ : ∃ i, m = i + 1 := ⟨m - 1, by omega⟩
      show c + i * (b + 3) + b + 3 ≤ c + (i + 1) * (b + 3)
      rw [Nat.add_mul]
      omega
end My
namespace My
/-! ### the form of a web -/
theorem Sg_delta {f : Nat → Rat} {c : Nat} : ∀ {ls : List Nat}, ls.Nodup → c ∈ ls → Sg (fun i => if c = i then f i else 0) ls = f c := fun {ls} nd h => by
  rw [Sg_take h, if_pos rfl, Sg_zero fun i hi => by rw [if_neg fun e => ((mem_er nd).mp hi).1 e.symm]]
  grind
end My
namespace My
open PySem PySem.Spec PyProof.Rows L2
theorem and_sw {A B : Prop} (b : B) (a : A) : A ∧ B := ⟨a, b⟩
theorem if_dec {p : Prop} [Decidable p] {A B : Prop} (h1 : p → A) (h2 : ¬ p → B) : if decide p = true then A else B := by
  by_cases h : p
  · rw [if_pos (decide_eq_true h)]
    exact h1 h
  · rw [if_neg (fun q => h (of_decide_eq_true q))]
    exact h2 h
theorem if_ndec {p : Prop} [Decidable p] {A B : Prop} (h1 : ¬ p → A) (h2 : p → B) : if (!decide p) = true then A else B := by
  by_cases h : p
  · rw [decide_eq_true h]
    exact iteF (h2 h)
  · rw [decide_eq_false h]
    exact iteT (h1 h)
/-- // by a divisor that is not 0, below 2 ^ 9000 -/
def CDivX (_ j : Int) : Prop := j ≠ 0 ∧ j.natAbs.log2 < 9000
section
variable {X : Cx}
theorem op_fdivX : OpR X (binaryOp .FloorDiv) (rI CDivX fun i j => .int (i.fdiv j)) := opI fun _ _ _ _ _ _ _ hc q => floordiv_int hc.1 q (.inl (PyProof.noPylong_of_log2 hc.2))
end
theorem cdivx {i j : Int} {b : Nat} (h : j ≠ 0) (hb : j.natAbs < 2 ^ b) (h9 : b ≤ 9000) : CDivX i j := by
  refine ⟨h, ?_⟩
  by_cases h0 : b = 0
  · subst h0
    omega
  · exact Nat.lt_of_lt_of_le (PySem.Flt.log2_lt_of (by omega) hb) h9
/-! ### heaps: all that was there, but what stands at D, stands -/
def Fw (D : Addr) (H H' : Hp) : Prop := ∀ b o, b ≠ D → H b = some o → H' b = some o
theorem Fw.refl (D : Addr) (H : Hp) : Fw D H H := fun _ _ _ h => h
theorem Fw.trans {D : Addr} {H H1 H2 : Hp} (a : Fw D H H1) (b : Fw D H1 H2) : Fw D H H2 := fun c o n h => b c o n (a c o n h)
theorem Same.fw {D : Addr} {H H' : Hp} (s : Same H H') : Fw D H H' := fun b o _ h => s b o h
theorem same_upd {H : Hp} {p : Addr} {o : HO} (h : H p = none) : Same H (upd H p o) := fun b x e => by
  rw [upd_ne (ne_of_none e h)]
  exact e
theorem fw_upd {D : Addr} {H : Hp} {o : HO} : Fw D H (upd H D o) := fun b x n e => by
  rw [upd_ne n]
  exact e
/-! ### the deck -/
def Deck (M : Nat) (D C : Addr) (H : Hp) (c : Nat) : Prop := ∃ (cells : List Int) (pl rest cnt : Int), C ≠ D ∧ H D = some (.lst [.ref C, .int pl, .int rest, .int cnt]) ∧ H C = some (.lst (cells.map V.int)) ∧
  cells.length ≤ 63 ∧ (∀ z ∈ cells, z.natAbs < 2 ^ M) ∧ (0 ≤ rest ∧ rest.natAbs < 2 ^ M) ∧ 0 ≤ cnt ∧ cnt ≤ c
theorem Deck.same {M : Nat} {D C : Addr} {H H' : Hp} {c : Nat} (d : Deck M D C H c) (s : Same H H') : Deck M D C H' c := by
  obtain ⟨cells, pl, rest, cnt, h0, h1, h2, h3⟩ := d
  exact ⟨cells, pl, rest, cnt, h0, s _ _ h1, s _ _ h2, h3⟩
theorem Deck.mono {M : Nat} {D C : Addr} {H : Hp} {c c' : Nat} (d : Deck M D C H c) (h : c ≤ c') : Deck M D C H c' := by
  obtain ⟨cells, pl, rest, cnt, h0, h1, h2, h3, h4, h5, h6, h7⟩ := d
  exact ⟨cells, pl, rest, cnt, h0, h1, h2, h3, h4, h5, h6, by omega⟩
theorem Deck.ne {M : Nat} {D C p : Addr} {H : Hp} {c : Nat} (d : Deck M D C H c) (h : H p = none) : p ≠ D := by
  obtain ⟨cells, pl, rest, cnt, h0, h1, h2⟩ := d
  exact (ne_of_none h1 h).symm
theorem Deck.neC {M : Nat} {D C p : Addr} {H : Hp} {c : Nat} (d : Deck M D C H c) (h : H p = none) : p ≠ C := by
  obtain ⟨cells, pl, rest, cnt, h0, h1, h2, _⟩ := d
  exact (ne_of_none h2 h).symm
theorem Deck.put {M : Nat} {D C p : Addr} {H : Hp} {c : Nat} {o : HO} (d : Deck M D C H c) (n1 : p ≠ D) (n2 : p ≠ C) : Deck M D C (upd H p o) c := by
  obtain ⟨cells, pl, rest, cnt, h0, h1, h2, h3⟩ := d
  exact ⟨cells, pl, rest, cnt, h0, (upd_ne (Ne.symm n1)).trans h1, (upd_ne (Ne.symm n2)).trans h2, h3⟩
theorem pow_le {a b : Nat} (h : a ≤ b) : (2 : Nat) ^ a ≤ 2 ^ b := Nat.pow_le_pow_right (by decide) h
theorem div_small {i j : Int} {M : Nat} (h0 : 0 ≤ i) (h : i.natAbs < 2 ^ M) (hj : 0 < j) : 0 ≤ i.fdiv j ∧ (i.fdiv j).natAbs < 2 ^ M := by
  rw [Int.fdiv_eq_ediv_of_nonneg i (by omega)]
  have a := Int.ediv_nonneg h0 (Int.le_of_lt hj)
  have b : i / j ≤ i := Int.ediv_le_self j h0
  exact ⟨a, by omega⟩
end My
namespace My
open PySem PySem.Spec PyProof.Rows L2
theorem at_ints {cells : List Int} {i : Int} (h0 : 0 ≤ i) (h1 : i < ((cells.map V.int).length : Nat)) : ∃ z, z ∈ cells ∧ atI (cells.map V.int) i = some (.int z) := by
  obtain ⟨j, rfl⟩ := Int.eq_ofNat_of_zero_le h0
  rw [List.length_map] at h1
  have hj : j < cells.length := by omega
  refine ⟨cells[j], List.getElem_mem hj, atI_nat ?_⟩
  rw [List.getElem?_map, List.getElem?_eq_getElem hj]
  rfl
theorem bits_lt {z : Int} {M : Nat} (h : Builtin.Int.intBits z ≤ M) : z.natAbs < 2 ^ M := by
  unfold Builtin.Int.intBits at h
  split at h
  · rename_i e
    have e' : z = 0 := by simpa using e
    subst e'
    exact Nat.two_pow_pos M
  · have := Nat.lt_log2_self (n := z.natAbs)
    exact Nat.lt_of_lt_of_le this (pow_le h)
theorem pw_big {z cnt : Int} {c M : Nat} (hz : z.natAbs < 2 ^ M) (hM : 64 ≤ M) (h0 : 0 ≤ cnt) (h1 : cnt ≤ c) (hc : c ≤ 2 ^ 40) : (z + 7919 * (cnt + 1) + 1).natAbs < 2 ^ (M + 1) := by
  have e : (2 : Nat) ^ 64 ≤ 2 ^ M := pow_le hM
  rw [Nat.pow_succ]
  generalize (2 : Nat) ^ M = p at *
  omega
theorem fdiv_dvd {a b : Int} (h : b ∣ a) : a.fdiv b = a / b := by
  obtain ⟨c, rfl⟩ := h
  by_cases hb : b = 0
  · subst hb
    rw [Int.zero_mul]
    simp
  · rw [Int.mul_fdiv_cancel_left _ hb, Int.mul_ediv_cancel_left _ hb]
theorem mod_rng (x : Int) {m : Int} (h : 0 < m) : 0 ≤ x % m ∧ x % m < m := ⟨Int.emod_nonneg _ (by omega), Int.emod_lt_of_pos _ h⟩
end My
namespace My
open PySem PySem.Spec PyProof.Rows L2
theorem cpow_of {i j : Int} (h : 0 ≤ j ∧ j ≤ 1000000 ∧ i.natAbs < 2 ^ 64) : CPow i j := h
theorem ten18 : (0 : Int) ≤ 10 ^ (18 : Int).toNat := by decide
theorem cmul_small {i j : Int} (h : i.natAbs < 2 ^ 64) (h2 : j.natAbs < 2 ^ 64) : CMulX i j := mulx_ok h h2 (by decide)
theorem cmul_big {i j : Int} {M : Nat} (h : i.natAbs < 2 ^ M) (h2 : j.natAbs < 2 ^ 64) (hM : M ≤ 100000000) : CMulX i j := mulx_ok h h2 (by omega)
theorem pick_mul2 (x : Int) {m k : Int} (h0 : 0 < m) (hm : m.natAbs < 2 ^ 32) (hk : k.natAbs < 2 ^ 32) {d : Int} (hd : 0 < d) : CMulX (x % m) ((x % m).fdiv d + k) := by
  obtain ⟨a, b⟩ := mod_rng x h0
  rw [Int.fdiv_eq_ediv_of_nonneg _ (by omega)]
  have c := Int.ediv_nonneg a (Int.le_of_lt hd)
  have e : (x % m) / d ≤ x % m := Int.ediv_le_self d a
  exact cmul_small (by omega) (by omega)
end My
namespace My
open PySem PySem.Spec PyProof.Rows L2
variable {K : PySem.W.Frag}
/-! ### isinstance -/
section
variable {K : PySem.W.Frag} {H : Hp} {Q : VK}
theorem isi_int_int {i : Int} (q : Q (.bl true) H) : rIsi K [.int i, .ty "int"] H Q := ⟨_, _, _, _, _, rfl, .ty _, .base (.int _), kit_ty (by decide +kernel), q⟩
theorem isi_int_bool {i : Int} (q : Q (.bl false) H) : rIsi K [.int i, .ty "bool"] H Q := ⟨_, _, _, _, _, rfl, .ty _, .base (.int _), kit_ty (by decide +kernel), q⟩
theorem isi_bl_bool {b : Bool} (q : Q (.bl true) H) : rIsi K [.bl b, .ty "bool"] H Q := ⟨_, _, _, _, _, rfl, .ty _, .base (.bl _), kit_ty (by decide +kernel), q⟩
theorem isi_tup_tup {p : Addr} {xs : List V} (h : H p = some (.tup xs)) (q : Q (.bl true) H) : rIsi K [.ref p, .ty "tuple"] H Q := ⟨_, _, _, _, _, rfl, .ty _, .base (.tup h), kit_ty (by decide +kernel), q⟩
end
/-! ### a fraction that stands in the heap -/
abbrev frV (r : Rat) : List V := [.int r.num, .int r.den]
/-- a tuple: in the heap, or one of the module's own -/
def Tp (K : PySem.W.Frag) (H : Hp) (p : Addr) (xs : List V) : Prop := H p = some (.tup xs) ∨ SqT K (fun _ => none) p xs
theorem Tp.same {H H' : Hp} {p : Addr} {xs : List V} (s : Same H H') (h : Tp K H p xs) : Tp K H' p xs := h.imp (fun h => s _ _ h) id
theorem Tp.sq {H : Hp} {p : Addr} {xs : List V} (h : Tp K H p xs) : SqT K H p xs := by
  rcases h with h | (h | ⟨_, h⟩) | h
  · exact .of h
  · cases h
  · cases h
  · exact .inr h
def IsF (K : PySem.W.Frag) (H : Hp) (v : V) (r : Rat) : Prop := ∃ p, v = .ref p ∧ Tp K H p (frV r)
theorem IsF.same {H H' : Hp} {v : V} {r : Rat} (s : Same H H') (h : IsF K H v r) : IsF K H' v r := by
  obtain ⟨p, e, h⟩ := h
  exact ⟨p, e, h.same s⟩
theorem Tp.new {H : Hp} {p : Addr} {xs : List V} : Tp K (upd H p (.tup xs)) p xs := .inl upd_same
theorem at_same {H H' : Hp} {p : Addr} {o : HO} (s : Same H H') (h : H p = some o) : H' p = some o := s _ _ h
theorem Tp.fw {M : Nat} {D C : Addr} {c : Nat} {H H' : Hp} {p : Addr} {xs : List V} (d : Deck M D C H c) (s : Fw D H H') (h : Tp K H p xs) : Tp K H' p xs := by
  obtain ⟨cells, pl, rest, cnt, h0, h1, h2⟩ := d
  exact h.imp (fun h => s _ _ (ne_of h h1 (by intro z; cases z)) h) id
theorem IsF.fw {M : Nat} {D C : Addr} {c : Nat} {H H' : Hp} {v : V} {r : Rat} (d : Deck M D C H c) (s : Fw D H H') (h : IsF K H v r) : IsF K H' v r := by
  obtain ⟨p, e, h⟩ := h
  exact ⟨p, e, h.fw d s⟩
/-- all tuples stand -/
def Tps (H H' : Hp) : Prop := ∀ b xs, H b = some (.tup xs) → H' b = some (.tup xs)
theorem Tp.ts {H H' : Hp} {p : Addr} {xs : List V} (f : Tps H H') (h : Tp K H p xs) : Tp K H' p xs := h.imp (fun h => f _ _ h) id
theorem isi_tp {K' : PySem.W.Frag} {H : Hp} {Q : VK} {p : Addr} {xs : List V} (h : Tp K' H p xs) (hk : K' = K) (q : Q (.bl true) H) : rIsi K [.ref p, .ty "tuple"] H Q := by
  subst hk
  rcases h with h | (h | ⟨_, h⟩) | ⟨o, its, n, h1, h2, _⟩
  · exact ⟨_, _, _, _, _, rfl, .ty _, .base (.tup h), kit_ty (by decide +kernel), q⟩
  · cases h
  · cases h
  · exact ⟨_, _, _, _, _, rfl, .ty _, .kTuple h1 h2, kit_ty (by decide +kernel), q⟩
theorem isF_new {H : Hp} {p : Addr} {a b : Int} {r : Rat} (h1 : r.num = a) (h2 : (r.den : Int) = b) : IsF K (upd H p (.tup [.int a, .int b])) (.ref p) r := by
  subst h1 h2
  exact ⟨p, rfl, .new⟩
def frD (r : Rat) : PyData := .tuple [.int r.num, .int r.den]
theorem IsF.dp {K : PySem.W.Frag} {H : Hp} {v : V} {r : Rat} (h : IsF K H v r) : Dp K H v (frD r) := by
  obtain ⟨p, rfl, h⟩ := h
  exact .tup h.sq (.cons (.int _) (.cons (.int _) .nil))
theorem frD_shaped (r : Rat) : SeqAt.shaped (frD r) = true := by rfl
theorem frD_eqv (r s : Rat) : PyData.eqv (frD r) (frD s) = decide (r = s) := by
  have e : PyData.eqv (frD r) (frD s) = (decide (r.num = s.num) && decide ((r.den : Int) = s.den)) := by
    simp only [frD, PyData.eqv, PyData.eqvAll, Bool.and_true, Bool.beq_eq_decide_eq]
  rw [e, Bool.eq_iff_iff]
  simp only [Bool.and_eq_true, decide_eq_true_eq]
  constructor
  · rintro ⟨a, b⟩
    exact Rat.ext a (by omega)
  · rintro rfl
    exact ⟨rfl, rfl⟩
theorem eqF {K : PySem.W.Frag} {H : Hp} {v w : V} {r s : Rat} {Q : VK} (h1 : IsF K H v r) (h2 : IsF K H w s) (q : Q (.bl (decide (r = s))) H) : rEqD K v w H Q := ⟨_, _, h1.dp, h2.dp, frD_shaped r, frD_shaped s, by rw [frD_eqv]; exact q⟩
theorem neF {K : PySem.W.Frag} {H : Hp} {v w : V} {r s : Rat} {Q : VK} (h1 : IsF K H v r) (h2 : IsF K H w s) (q : Q (.bl (!decide (r = s))) H) : rNeD K v w H Q := ⟨_, _, h1.dp, h2.dp, frD_shaped r, frD_shaped s, by rw [frD_eqv]; exact q⟩
end My
namespace My
open PySem PySem.Spec PyProof.Rows L2
/-! ### calls of built-ins by named readings -/
def rInt : List V → Hp → VK → Prop := fun xs H Q => (∃ i, xs = [.int i] ∧ Q (.int i) H) ∨ ∃ k, xs = [.bl k] ∧ Q (.int (if k then 1 else 0)) H
def rLen (K : PySem.W.Frag) : List V → Hp → VK → Prop := fun xs H Q => ∃ p ys, xs = [.ref p] ∧ (SqL K H p ys ∨ SqT K H p ys) ∧ Q (.int ys.length) H
def rAbs : List V → Hp → VK → Prop := fun xs H Q => ∃ i, xs = [.int i] ∧ Q (.int (if i < 0 then -i else i)) H
def rMin : List V → Hp → VK → Prop := fun xs H Q => ∃ i j, xs = [.int i, .int j] ∧ Q (.int (if j < i then j else i)) H
theorem call_intN {X : Cx} : CallR X (.type "int") rInt := call_int1
theorem call_lenN {X : Cx} : CallR X (.builtin "len") (rLen X.K) := call_len_seq
theorem call_absN {X : Cx} : CallR X (.builtin "abs") rAbs := call_abs
theorem call_minN {X : Cx} (hc : X.calm = true) : CallR X (.builtin "min") rMin := call_min2 hc
/-! ### a reading, one step a rule: each says what its left side asks first -/
section
variable {σ : L2.St} {H : Hp} {Q : VK} {K : PySem.W.Frag} {D : Ends} {ta tb te : TE} {t : TA} {i : Nat} {v x y : V}
theorem rd_var (e : σ[i]? = some (some v)) (q : Q v H) : tVar i σ H Q := ⟨v, e, q⟩
theorem rd_C (q : Q v H) : tC v σ H Q := q
theorem rd_op {r : R2} (h : ta σ H fun x H1 => tb σ H1 fun y H2 => r x y H2 Q) : tOp r ta tb σ H Q := h
theorem rd_un {r : V → Hp → VK → Prop} (h : ta σ H fun x H1 => r x H1 Q) : tUn r ta σ H Q := h
theorem rd_CB {r : List V → Hp → VK → Prop} (h : t σ H fun vs H1 => r vs H1 Q) : tCB r t σ H Q := h
theorem rd_nil {Q : List V → Hp → Prop} (q : Q [] H) : tNil σ H Q := q
theorem rd_cons {Q : List V → Hp → Prop} (h : ta σ H fun x H1 => t σ H1 fun xs H2 => Q (x :: xs) H2) : tCons ta t σ H Q := h
theorem rd_call {sp : Sp} {dvs : List V} {E : XK} (h : t σ H fun vs H1 => sp (vs ++ dvs) H1 Q E) : tCall sp dvs E t σ H Q := h
theorem rd_rI {C : Int → Int → Prop} {g : Int → Int → V} {i j : Int} (q : Q (g i j) H) (c : C i j) : rI C g (.int i) (.int j) H Q := ⟨i, j, rfl, rfl, c, q⟩
theorem rd_rI0 {g : Int → Int → V} {i j : Int} (q : Q (g i j) H) : rI0 g (.int i) (.int j) H Q := ⟨i, j, rfl, rfl, q⟩
theorem rd_rU {g : Int → V} {i : Int} (q : Q (g i) H) : rU g (.int i) H Q := ⟨i, rfl, q⟩
theorem rd_eq (s : scal x y = true) (q : Q (.bl (decide (x = y))) H) : rEq x y H Q := ⟨s, q⟩
theorem rd_ne (s : scal x y = true) (q : Q (.bl (!decide (x = y))) H) : rNe x y H Q := ⟨s, q⟩
theorem int_eq {i j : Int} : (V.int i = V.int j) = (i = j) := by simp
theorem rd_eqI {i j : Int} (q : Q (.bl (decide (i = j))) H) : rEq (.int i) (.int j) H Q := ⟨rfl, by simpa using q⟩
theorem rd_neI {i j : Int} (q : Q (.bl (!decide (i = j))) H) : rNe (.int i) (.int j) H Q := ⟨rfl, by simpa using q⟩
theorem rd_ixL {p : Addr} {xs : List V} {i : Int} {v : V} (h : H p = some (.lst xs)) (e : atI xs i = some v) (q : Q v H) : rIxL K (.ref p) (.int i) H Q := ⟨p, xs, i, v, rfl, rfl, .of h, e, q⟩
theorem rd_ixT {p : Addr} {xs : List V} {i : Int} {v : V} (h : H p = some (.tup xs)) (e : atI xs i = some v) (q : Q v H) : rIxT K (.ref p) (.int i) H Q := ⟨p, xs, i, v, rfl, rfl, .of h, e, q⟩
theorem rd_ixTp {K' : PySem.W.Frag} {p : Addr} {xs : List V} {i : Int} {v : V} (h : Tp K' H p xs) (hk : K' = K) (e : atI xs i = some v) (q : Q v H) : rIxT K (.ref p) (.int i) H Q := ⟨p, xs, i, v, rfl, rfl, hk ▸ h.sq, e, q⟩
theorem rd_setL {p : Addr} {xs : List V} {k : Int} {j : Nat} {Q : Hp → Prop} (h : H p = some (.lst xs)) (e : ixN xs.length k = some j) (q : Q (upd H p (.lst (xs.set j v)))) : rSetL (.ref p) (.int k) v H Q := ⟨p, xs, k, j, rfl, rfl, h, e, q⟩
theorem rd_gcd {a b : Int} (q : Q (.int ((Nat.gcd a.natAbs b.natAbs : Nat) : Int)) H) : rGcd [.int a, .int b] H Q := ⟨a, b, rfl, q⟩
theorem rd_bits (h : te σ H fun x H1 => ∃ i, x = .int i ∧ Q (.int (Builtin.Int.intBits i : Nat)) H1) : tBits te σ H Q := h
theorem rd_tup (h : t σ H fun xs H1 => xs.length ≤ sizeLine ∧ ∀ p, H1 p = none → Q (.ref p) (upd H1 p (.tup xs))) : tTup t σ H Q := h
theorem rd_lst (h : t σ H fun xs H1 => xs.length ≤ sizeLine ∧ ∀ p, H1 p = none → Q (.ref p) (upd H1 p (.lst xs))) : tLst t σ H Q := h
theorem rd_sl {r : V → Option Int → Option Int → Hp → VK → Prop} {tl th : TO} (h : te σ H fun x H1 => tl σ H1 fun l H2 => th σ H2 fun u H3 => r x l u H3 Q) : tSl r te tl th σ H Q := h
theorem rd_part {Q : Option Int → Hp → Prop} (h : te σ H fun x H1 => ∃ i, x = .int i ∧ Q (some i) H1) : tPart te σ H Q := h
theorem rd_nopart {Q : Option Int → Hp → Prop} (h : Q none H) : tNoPart σ H Q := h
theorem rd_slL {a : Addr} {xs : List V} {lo hi : Option Int} (h : SqL K H a xs) (q : ∀ p, H p = none → Q (.ref p) (upd H p (.lst (cutV xs lo hi)))) : rSlL K (.ref a) lo hi H Q := ⟨a, xs, rfl, h, q⟩
theorem rd_bm {T : String} {r : V → List V → Hp → VK → Prop} (h : te σ H fun x H1 => tyV K T x H1 ∧ t σ H1 fun xs H2 => r x xs H2 Q) : tBM K T r te t σ H Q := h
theorem rd_chain {r r' : R2} (h : ta σ H fun x H1 => tb σ H1 fun y H2 => r x y H2 fun z H3 => ∃ k, z = .bl k ∧ (if k = true then te σ H3 fun w' H4 => r' y w' H4 Q else Q (.bl false) H3)) : tChain r r' ta tb te σ H Q := h
theorem rd_andV (h : ta σ H fun x H1 => ∃ c, x = .bl c ∧ if c = true then tb σ H1 Q else Q (.bl false) H1) : tAndV ta tb σ H Q := h
theorem rd_orV (h : ta σ H fun x H1 => ∃ c, x = .bl c ∧ if c = true then Q (.bl true) H1 else tb σ H1 Q) : tOrV ta tb σ H Q := h
theorem rd_notV (h : ta σ H fun x H1 => ∃ c, x = .bl c ∧ Q (.bl (!c)) H1) : tNotV ta σ H Q := h
theorem rd_ifE {c : TT} (h : c σ H fun c H1 => if c = true then ta σ H1 Q else tb σ H1 Q) : tIf c ta tb σ H Q := h
section
variable {Q : Bool → Hp → Prop} {u u' : TT}
theorem rd_test (h : te σ H fun x H' => ∃ k, x = .bl k ∧ Q k H') : tTest te σ H Q := h
theorem rd_B (h : te σ H fun x H1 => ∃ c, x = .bl c ∧ Q c H1) : tB te σ H Q := h
theorem rd_not (h : u σ H fun c H1 => Q (!c) H1) : tNot u σ H Q := h
theorem rd_and (h : u σ H fun c H1 => if c = true then u' σ H1 Q else Q false H1) : tAnd u u' σ H Q := h
theorem rd_or (h : u σ H fun c H1 => if c = true then Q true H1 else u' σ H1 Q) : tOr u u' σ H Q := h
theorem rd_yes (q : Q true H) : tYes σ H Q := q
end
section
variable {s s' : TS} {g : TG} {gs : TGs}
theorem rd_seq (h : s { D with nx := s' D } σ H) : tSeq s s' D σ H := h
theorem rd_next (h : D.nx σ H) : tNext D σ H := h
theorem rd_drop (h : te σ H fun _ H1 => D.nx σ H1) : tDrop te D σ H := h
theorem rd_ret (h : te σ H D.rt) : tRet te D σ H := h
theorem rd_ifS {c : TT} (h : c σ H fun b H1 => if b = true then s D σ H1 else s' D σ H1) : tIfS c s s' D σ H := h
theorem rd_asg (h : te σ H fun x H1 => g x σ H1 D.nx) : tAsg te g D σ H := h
theorem rd_gName {Q : L2.St → Hp → Prop} (h : Q (σ.set i (some v)) H) : gName i v σ H Q := h
theorem rd_gSub {Q : L2.St → Hp → Prop} {ts : TSet} (h : ta σ H fun o H1 => tb σ H1 fun i H2 => ts o i v H2 fun H3 => Q σ H3) : gSub ta tb ts v σ H Q := h
theorem rd_gTup {Q : L2.St → Hp → Prop} {p : Addr} {xs : List V} {n : Nat} (h : H p = some (.tup xs)) (e : xs.length = n) (q : gs xs σ H Q) : gTup K n gs (.ref p) σ H Q := ⟨p, xs, rfl, .of h, e, q⟩
theorem rd_gTp {K' : PySem.W.Frag} {Q : L2.St → Hp → Prop} {p : Addr} {xs : List V} {n : Nat} (h : Tp K' H p xs) (hk : K' = K) (e : xs.length = n) (q : gs xs σ H Q) : gTup K n gs (.ref p) σ H Q := ⟨p, xs, rfl, hk ▸ h.sq, e, q⟩
theorem rd_gNil {Q : L2.St → Hp → Prop} (q : Q σ H) : gNil [] σ H Q := ⟨rfl, q⟩
theorem rd_gCons {Q : L2.St → Hp → Prop} {r : List V} (h : g v σ H fun σ' H' => gs r σ' H' Q) : gCons g gs (v :: r) σ H Q := ⟨v, r, rfl, h⟩
theorem rd_for {wi : TI} (h : wi σ H fun J H1 => ∃ W : Nat → Nat → L2.St → Hp → Prop, (∃ m, W 0 m σ H1) ∧ ∀ i m σ H, W i m σ H →
  (J.stop i H ∧ D.nx σ H) ∨ (J.go i H ∧ ∃ N : L2.St → Hp → Prop, (∀ σ' H', N σ' H' → ∃ m', m' < m ∧ W (i + 1) m' σ' H') ∧ ∀ x H', J.yld i H x H' → g x σ H' fun σ2 H2 => s { D with nx := N, ct := N, bk := D.nx } σ2 H2)) : tFor wi g s D σ H := h
theorem rd_rng1 {R : It → Hp → Prop} (h : t σ H fun vs H1 => ∃ j : Int, vs = [.int j] ∧ -(2 ^ 62) ≤ j ∧ j < 2 ^ 62 ∧ R (Itr 0 j.toNat) H1) : iRng1 t σ H R := h
theorem rd_itL {R : It → Hp → Prop} (h : te σ H fun x H1 => ∃ a, x = .ref a ∧ (∃ xs, SqL K H1 a xs) ∧ R (Itl K a) H1) : iList K te σ H R := h
theorem rd_itT {R : It → Hp → Prop} (h : te σ H fun x H1 => ∃ a, x = .ref a ∧ (∃ xs, SqT K H1 a xs) ∧ R (Itt K a) H1) : iTup K te σ H R := h
end
theorem if_T {p : Prop} [Decidable p] {A B : Prop} (hp : p) (h : A) : if decide p = true then A else B := by
  rw [if_pos (decide_eq_true hp)]
  exact h
theorem if_F {p : Prop} [Decidable p] {A B : Prop} (hp : ¬ p) (h : B) : if decide p = true then A else B := by
  rw [if_neg (fun q => hp (of_decide_eq_true q))]
  exact h
theorem if_nF {p : Prop} [Decidable p] {A B : Prop} (hp : p) (h : B) : if (!decide p) = true then A else B := by
  rw [decide_eq_true hp]
  exact iteF h
theorem if_nT {p : Prop} [Decidable p] {A B : Prop} (hp : ¬ p) (h : A) : if (!decide p) = true then A else B := by
  rw [decide_eq_false hp]
  exact iteT h
theorem ite_nt {A B : Prop} (h : B) : if (!true) = true then A else B := iteF h
theorem ite_nf {A B : Prop} (h : A) : if (!false) = true then A else B := iteT h
theorem rd_len {xs : List V} {R : Prop} (q : R) (h : xs.length.ble sizeLine = true) : xs.length ≤ sizeLine ∧ R := ⟨Nat.le_of_ble_eq_true h, q⟩
theorem rd_lenL {p : Addr} {xs : List V} (q : Q (.int xs.length) H) (h : H p = some (.lst xs)) : rLen K [.ref p] H Q := ⟨p, xs, rfl, .inl (.of h), q⟩
theorem rd_lenS {p : Addr} {xs : List V} (q : Q (.int xs.length) H) (h : SqL K H p xs) : rLen K [.ref p] H Q := ⟨p, xs, rfl, .inl h, q⟩
theorem rd_lenT {p : Addr} {xs : List V} (q : Q (.int xs.length) H) (h : H p = some (.tup xs)) : rLen K [.ref p] H Q := ⟨p, xs, rfl, .inr (.of h), q⟩
theorem rd_lenTp {K' : PySem.W.Frag} {p : Addr} {xs : List V} (q : Q (.int xs.length) H) (h : Tp K' H p xs) (hk : K' = K) : rLen K [.ref p] H Q := ⟨p, xs, rfl, .inr (hk ▸ h.sq), q⟩
theorem rd_int {i : Int} (q : Q (.int i) H) : rInt [.int i] H Q := .inl ⟨i, rfl, q⟩
theorem rd_intB {k : Bool} (q : Q (.int (if k then 1 else 0)) H) : rInt [.bl k] H Q := .inr ⟨k, rfl, q⟩
theorem rd_abs {i : Int} (q : Q (.int (i.natAbs : Nat)) H) : rAbs [.int i] H Q := ⟨i, rfl, by
  have e : (if i < 0 then -i else i) = (i.natAbs : Int) := by split <;> omega
  rw [e]
  exact q⟩
theorem rd_min {i j : Int} (q : Q (.int (min i j)) H) : rMin [.int i, .int j] H Q := ⟨i, j, rfl, by
  have e : (if j < i then j else i) = min i j := by split <;> omega
  rw [e]
  exact q⟩
theorem rd_neB {a b : Bool} (q : Q (.bl (!decide (a = b))) H) : rNe (.bl a) (.bl b) H Q := ⟨rfl, by simpa using q⟩
theorem rd_eqB {a b : Bool} (q : Q (.bl (decide (a = b))) H) : rEq (.bl a) (.bl b) H Q := ⟨rfl, by simpa using q⟩
theorem rd_neS {a b : Str} (q : Q (.bl (!decide (a = b))) H) : rNe (.str a) (.str b) H Q := ⟨rfl, by simpa using q⟩
theorem rd_eqS {a b : Str} (q : Q (.bl (decide (a = b))) H) : rEq (.str a) (.str b) H Q := ⟨rfl, by simpa using q⟩
theorem rd_isBl {a b : Bool} (q : Q (.bl (decide (a = b))) H) : rIsB (.bl a) (.bl b) H Q := ⟨a, b, rfl, rfl, q⟩
end
end My
namespace My
open PySem PySem.Spec PyProof.Rows L2
theorem rd_lc {wi : TI} {g : TG} {tt : TT} {te : TE} {vs : List Nat} {σ : L2.St} {H : Hp} {Q : VK} (h : wi σ H fun J H1 => ∀ D, H1 D = none → ∃ W : Nat → Nat → Hp → Prop, (∃ m, W 0 m (upd H1 D (.lst []))) ∧ ∀ i m H, W i m H →
  (J.stop i H ∧ Q (.ref D) H) ∨ (J.go i H ∧ ∃ Nx : Hp → Prop, (∀ H', Nx H' → ∃ m', m' < m ∧ W (i + 1) m' H') ∧ ∀ x H', J.yld i H x H' → g x (wipe σ vs) H' fun σ2 H2 => wipe σ2 vs = wipe σ vs ∧ tt σ2 H2 fun b H3 =>
    if b = true then te σ2 H3 fun y H4 => ∃ acc, H4 D = some (.lst acc) ∧ acc.length < sizeLine ∧ Nx (upd H4 D (.lst (acc ++ [y]))) else Nx H3)) : tLc wi g tt te vs σ H Q := h
theorem cut_all {xs : List V} {n : Nat} (h : xs.length ≤ n) : cutV xs none (some (n : Int)) = xs := by
  unfold cutV
  rw [HT.sIx_none, HT.sIx_nat, List.drop_zero]
  exact List.take_of_length_le (by omega)
theorem take_succ_map {ns : List Int} {i : Nat} {x : V} (h : (ns.map V.int)[i]? = some x) : ∃ z, x = .int z ∧ z ∈ ns ∧ (ns.take (i + 1)).map V.int = (ns.take i).map V.int ++ [x] := by
  rw [List.getElem?_map] at h
  cases e : ns[i]? with
  | none =>
    rw [e] at h
    cases h
  | some z =>
    rw [e] at h
    have hx : x = .int z := (Option.some.inj h).symm
    refine ⟨z, hx, List.mem_of_getElem? e, ?_⟩
    rw [List.take_add_one, e, List.map_append, hx]
    rfl
/-! ### list.count of flags -/
def eqb (k : Bool) (v : Value) : Bool := match v with
  | .bool b => b == k
  | _ => false
theorem eqb_at {A : Around} {s : Shared} {k : Bool} : ∀ {us : List Value} {bs : List Bool}, Vals (bs.map V.bl) us → ∀ y ∈ us, SeqAt.EqAt A s y (.bool k) (eqb k y)
  | [], bs, r => fun y hy => nomatch hy
  | u :: us, [], r => nomatch r
  | u :: us, b :: bs, r => fun y hy => by
    cases r with
    | cons r1 r2 =>
      rcases List.mem_cons.mp hy with e | e
      · rw [e]
        cases (show u = Value.bool b from r1)
        exact SeqAt.EqAt.bool_bool b k
      · exact eqb_at r2 y e
theorem eqb_count {k : Bool} : ∀ {us : List Value} {bs : List Bool}, Vals (bs.map V.bl) us → us.countP (eqb k) = bs.count k
  | [], [], _ => rfl
  | [], b :: bs, r => nomatch r
  | u :: us, [], r => nomatch r
  | u :: us, b :: bs, r => by
    cases r with
    | cons r1 r2 =>
      cases (show u = Value.bool b from r1)
      rw [List.countP_cons, List.count_cons, eqb_count r2] <;> rfl
def rCntB (K : PySem.W.Frag) : V → List V → Hp → VK → Prop := fun x xs H Q => ∃ (p : Addr) (bs : List Bool) (k : Bool), x = .ref p ∧ xs = [.bl k] ∧ SqL K H p (bs.map V.bl) ∧ Q (.int (bs.count k : Nat)) H
theorem mt_bcount {X : Cx} : MtR X "list.count" (rCntB X.K) := by
  intro pins s σ H x xs v us Q I rx rxs h
  obtain ⟨p, bs, k, rfl, rfl, hs, q⟩ := h
  cases rx
  obtain ⟨u, rfl, ru⟩ := rxs.one
  cases (show u = Value.bool k from ru)
  obtain ⟨its, rv, ⟨⟨cls, dd, data, sl⟩, n, ho, hc, hdn, hd⟩, hlen⟩ := I.list hs
  simp only at hc hd
  subst hc hd
  refine call_meets PySem.F.slot_list_count ⟨_, ho, rfl⟩ PySem.F.entry_list_count (PySem.F.args_list_count_2 _ _)
    (SeqAt.list_countAt p its.toArray n dd sl (.bool k) (eqb k)) ⟨ho, fun y hy => eqb_at rv y (by simpa using hy), ?_⟩
  have ec : its.toArray.toList.countP (eqb k) = bs.count k := eqb_count rv
  refine ⟨.int (bs.count k : Nat), H, I.tok _, ⟨s.toks, ?_⟩, q⟩
  show Value.int ((its.toArray.toList.countP (eqb k) : Nat) : Int) s.toks = Value.int ((bs.count k : Nat) : Int) s.toks
  rw [ec]
/-! ### greatest common divisors by remainders -/
structure Euc (G b i : Nat) (x y : Nat) : Prop where
  g : x.gcd y = G
  h : y * 2 ^ (i / 2) ≤ b
  m : i ≠ 0 → y < x ∧ x * 2 ^ ((i - 1) / 2) ≤ b
theorem Euc.step {G b i x y : Nat} (e : Euc G b i x y) (hy : y ≠ 0) : Euc G b (i + 1) y (x % y) := by
  have lt : x % y < y := Nat.mod_lt _ (by omega)
  refine ⟨?_, ?_, fun _ => ⟨lt, ?_⟩⟩
  · rw [← e.g, Nat.gcd_comm x y, Nat.gcd_comm y (x % y)]
    exact (Nat.gcd_rec y x).symm
  · rcases Nat.mod_two_eq_zero_or_one i with p | p
    · have q : (i + 1) / 2 = i / 2 := by omega
      rw [q]
      exact Nat.le_trans (Nat.mul_le_mul_right _ (Nat.le_of_lt lt)) e.h
    · have q : (i + 1) / 2 = (i - 1) / 2 + 1 := by omega
      obtain ⟨m1, m2⟩ := e.m (by omega)
      have half : 2 * (x % y) ≤ x := by
        have d := Nat.div_add_mod x y
        have dp : 1 ≤ x / y := Nat.div_pos (Nat.le_of_lt m1) (by omega)
        have : y ≤ y * (x / y) := Nat.le_mul_of_pos_right y dp
        omega
      rw [q, Nat.pow_succ]
      calc x % y * (2 ^ ((i - 1) / 2) * 2) = (2 * (x % y)) * 2 ^ ((i - 1) / 2) := by rw [Nat.mul_comm (2 ^ _) 2, ← Nat.mul_assoc, Nat.mul_comm (x % y) 2]
        _ ≤ x * 2 ^ ((i - 1) / 2) := Nat.mul_le_mul_right _ half
        _ ≤ b := m2
  · have q : (i + 1 - 1) / 2 = i / 2 := by omega
    rw [q]
    exact e.h
theorem Euc.done {G b k x y : Nat} (e : Euc G b (2 * k + 2) x y) (hb : b < 2 ^ k) : y = 0 ∧ x = G := by
  have h := e.h
  have q : (2 * k + 2) / 2 = k + 1 := by omega
  rw [q] at h
  have hy : y = 0 := by
    rcases Nat.eq_zero_or_pos y with z | z
    · exact z
    · have p : 2 ^ (k + 1) ≤ y * 2 ^ (k + 1) := Nat.le_mul_of_pos_left _ z
      rw [Nat.pow_succ] at p
      have : 0 < 2 ^ k := Nat.two_pow_pos k
      rw [Nat.pow_succ] at h
      omega
  have g := e.g
  rw [hy, Nat.gcd_zero_right] at g
  exact ⟨hy, g⟩
end My
namespace My
open PySem PySem.Spec PyProof.Rows L2
theorem cdv {j : Int} (h : 0 < j) (hb : j.natAbs < 2 ^ 8900) (i : Int) : CDivX i j := cdivx (by omega) hb (by decide)
theorem cmx {i j : Int} (h1 : i.natAbs < 2 ^ 20000) (h2 : j.natAbs < 2 ^ 20000) : CMulX i j := mulx_ok h1 h2 (by decide)
theorem div_nat (a b : Nat) : (a : Int).fdiv (b : Int) = ((a / b : Nat) : Int) := by
  rw [Int.fdiv_eq_ediv_of_nonneg _ (by omega), Int.natCast_ediv]
theorem p45 {n : Nat} (h : n < 2 ^ 8900) : n < 2 ^ 8900 := Nat.lt_of_lt_of_le h (pow_le (by decide))
theorem p46 {n : Nat} (h : n < 2 ^ 8900) : n < 2 ^ 20000 := Nat.lt_of_lt_of_le h (pow_le (by decide))
theorem added_math {r s : Rat} (hr : Bd 8900 r) (hs : Bd 8900 s) : ∀ g top sh : Int, g = ((Nat.gcd (r.den : Int).natAbs (s.den : Int).natAbs : Nat) : Int) → top = r.num * (s.den : Int).fdiv g + s.num * (r.den : Int).fdiv g →
    sh = ((Nat.gcd top.natAbs g.natAbs : Nat) : Int) → (∀ i, CDivX i g) ∧ CMulX r.num ((s.den : Int).fdiv g) ∧ CMulX s.num ((r.den : Int).fdiv g) ∧ (∀ i, CDivX i sh) ∧ CMulX ((r.den : Int).fdiv g) ((s.den : Int).fdiv sh) ∧
      (r + s).num = top.fdiv sh ∧ ((r + s).den : Int) = (r.den : Int).fdiv g * (s.den : Int).fdiv sh := by
  intro g top sh hg ht hsh
  have hd := r.den_pos
  have hs' := s.den_pos
  rw [Int.natAbs_natCast, Int.natAbs_natCast] at hg
  have gpos : 0 < r.den.gcd s.den := Nat.gcd_pos_of_pos_left _ hd
  have gle : r.den.gcd s.den ≤ r.den := Nat.gcd_le_left _ hd
  have gna : g.natAbs = r.den.gcd s.den := by rw [hg, Int.natAbs_natCast]
  have shpos : 0 < top.natAbs.gcd (r.den.gcd s.den) := Nat.gcd_pos_of_pos_right _ gpos
  have shle : top.natAbs.gcd (r.den.gcd s.den) ≤ r.den.gcd s.den := Nat.gcd_le_right _ gpos
  rw [gna] at hsh
  have hr2 := hr.2
  have hs2 := hs.2
  have e1 : (s.den : Int).fdiv g = ((s.den / r.den.gcd s.den : Nat) : Int) := by rw [hg, div_nat]
  have e2 : (r.den : Int).fdiv g = ((r.den / r.den.gcd s.den : Nat) : Int) := by rw [hg, div_nat]
  have l1 : s.den / r.den.gcd s.den ≤ s.den := Nat.div_le_self _ _
  have l2 : r.den / r.den.gcd s.den ≤ r.den := Nat.div_le_self _ _
  have form := add_form r s (r.den.gcd s.den) (r.den / r.den.gcd s.den) (s.den / r.den.gcd s.den) top (top.natAbs.gcd (r.den.gcd s.den)) rfl rfl rfl (by rw [ht, e1, e2]) rfl
  have e3 : (s.den : Int).fdiv sh = ((s.den / top.natAbs.gcd (r.den.gcd s.den) : Nat) : Int) := by rw [hsh, div_nat]
  have l3 : s.den / top.natAbs.gcd (r.den.gcd s.den) ≤ s.den := Nat.div_le_self _ _
  refine ⟨cdv (by omega) (by rw [gna]; exact p45 (by omega)), ?_, ?_, cdv (by omega) ?_, ?_, ?_, ?_⟩
  · rw [e1]
    exact cmx (p46 hr.1) (by rw [Int.natAbs_natCast]; exact p46 (by omega))
  · rw [e2]
    exact cmx (p46 hs.1) (by rw [Int.natAbs_natCast]; exact p46 (by omega))
  · rw [hsh, Int.natAbs_natCast]
    exact p45 (by omega)
  · rw [e2, e3]
    exact cmx (by rw [Int.natAbs_natCast]; exact p46 (by omega)) (by rw [Int.natAbs_natCast]; exact p46 (by omega))
  · rw [form.1, hsh, Int.fdiv_eq_ediv_of_nonneg _ (by omega)]
  · rw [form.2, e2, e3, Int.natCast_mul]
theorem mul_math {r s : Rat} (hr : Bd 8900 r) (hs : Bd 8900 s) : ∀ a b : Int, a = ((Nat.gcd r.num.natAbs (s.den : Int).natAbs : Nat) : Int) → b = ((Nat.gcd s.num.natAbs (r.den : Int).natAbs : Nat) : Int) →
    (∀ i, CDivX i a) ∧ (∀ i, CDivX i b) ∧ CMulX (r.num.fdiv a) (s.num.fdiv b) ∧ CMulX ((r.den : Int).fdiv b) ((s.den : Int).fdiv a) ∧
      (r * s).num = r.num.fdiv a * s.num.fdiv b ∧ ((r * s).den : Int) = (r.den : Int).fdiv b * (s.den : Int).fdiv a := by
  intro a b ha hb
  rw [Int.natAbs_natCast] at ha hb
  have hd := r.den_pos
  have hs' := s.den_pos
  have ap : 0 < r.num.natAbs.gcd s.den := Nat.gcd_pos_of_pos_right _ hs'
  have bp : 0 < s.num.natAbs.gcd r.den := Nat.gcd_pos_of_pos_right _ hd
  have al : r.num.natAbs.gcd s.den ≤ s.den := Nat.gcd_le_right _ hs'
  have bl : s.num.natAbs.gcd r.den ≤ r.den := Nat.gcd_le_right _ hd
  have da : a ∣ r.num := by rw [ha]; exact Int.ofNat_dvd_left.mpr (Nat.gcd_dvd_left ..)
  have db : b ∣ s.num := by rw [hb]; exact Int.ofNat_dvd_left.mpr (Nat.gcd_dvd_left ..)
  have hr2 := hr.2
  have hs2 := hs.2
  obtain ⟨f1, f2⟩ := mul_form r s _ _ rfl rfl
  have e1 : r.num.fdiv a = r.num / a := fdiv_dvd da
  have e2 : s.num.fdiv b = s.num / b := fdiv_dvd db
  have e3 : (r.den : Int).fdiv b = ((r.den / s.num.natAbs.gcd r.den : Nat) : Int) := by rw [hb, div_nat]
  have e4 : (s.den : Int).fdiv a = ((s.den / r.num.natAbs.gcd s.den : Nat) : Int) := by rw [ha, div_nat]
  have l3 : r.den / s.num.natAbs.gcd r.den ≤ r.den := Nat.div_le_self _ _
  have l4 : s.den / r.num.natAbs.gcd s.den ≤ s.den := Nat.div_le_self _ _
  have n1 : (r.num / a).natAbs ≤ r.num.natAbs := by
    rw [Int.natAbs_ediv_of_dvd da]
    exact Nat.div_le_self _ _
  have n2 : (s.num / b).natAbs ≤ s.num.natAbs := by
    rw [Int.natAbs_ediv_of_dvd db]
    exact Nat.div_le_self _ _
  have hr1 := hr.1
  have hs1 := hs.1
  refine ⟨cdv (by omega) (by rw [ha, Int.natAbs_natCast]; exact p45 (by omega)), cdv (by omega) (by rw [hb, Int.natAbs_natCast]; exact p45 (by omega)), ?_, ?_, ?_, ?_⟩
  · rw [e1, e2]
    exact cmx (p46 (by omega)) (p46 (by omega))
  · rw [e3, e4]
    exact cmx (by rw [Int.natAbs_natCast]; exact p46 (by omega)) (by rw [Int.natAbs_natCast]; exact p46 (by omega))
  · rw [f1, e1, e2, ha, hb]
  · rw [f2, e3, e4, Int.natCast_mul]
end My
namespace My
open PySem PySem.Spec PyProof.Rows L2
theorem low_math {n b : Int} (hb : 0 < b) (hl : b.natAbs < 2 ^ 8900) : ∀ g : Int, g = ((n.natAbs.gcd b.natAbs : Nat) : Int) → (∀ i, CDivX i g) ∧ (Rat.divInt n b).num = n.fdiv g ∧ ((Rat.divInt n b).den : Int) = b.fdiv g := by
  rintro g rfl
  have gp : 0 < n.natAbs.gcd b.natAbs := Nat.gcd_pos_of_pos_right _ (by omega)
  have gl : n.natAbs.gcd b.natAbs ≤ b.natAbs := Nat.gcd_le_right _ (by omega)
  obtain ⟨e1, e2⟩ := low_form n b (by omega)
  rw [if_neg (by omega)] at e1 e2
  refine ⟨cdv (by omega) (by rw [Int.natAbs_natCast]; omega), ?_, ?_⟩
  · rw [e1, fdiv_dvd (Int.ofNat_dvd_left.mpr (Nat.gcd_dvd_left ..))]
  · rw [e2, fdiv_dvd (Int.ofNat_dvd_left.mpr (Nat.gcd_dvd_right ..))]
theorem sign_na {t r : Int} (a : 0 ≤ r) (b : r < 2) : (t * (1 - 2 * r)).natAbs = t.natAbs := by
  have h : r = 0 ∨ r = 1 := by omega
  rcases h with rfl | rfl
  · simp
  · rw [Int.natAbs_mul]
    simp
end My
namespace My
open PySem PySem.Spec PyProof.Rows L2
/-! ### an own error class without __init__, made without arguments -/
abbrev veChain : List Value := [.type "ValueError", .type "Exception", .type "BaseException", .type "object"]
theorem pmk_own0 {X : Cx} {C : Addr} {bmB : List Value} {B newId initId : String} {x : Str} {p pos : Pos} (F : ExcBaseFacts B newId initId bmB) (q : PySem.W.excIn X.K C bmB newId = true) (gC : X.mg x = some (.ref C))
    (kC : PySem.W.keepIn X.K (.ref C) = true) (r : Raises X (.ref C)) (hg : Gl X x) (hdb : (x == ("__debug__" : Str)) = false := by decide) :
    PMk X (.Call (.Name x p) [] [] pos) (fun _ H Q => Q (.ref C) none H) := by
  intro pins s σ H Q I h
  refine wpAny_Call_Name_kw (ld_glob I hg gC ?_ hdb)
  refine PySem.W.callWith_K0 I.kIn kC ?_
  show wpAny _ _ (call (.ref C) []) _ _ _
  obtain ⟨hp, g, d, t, os⟩ := s
  obtain ⟨bm, N, nm, qn, bs, hdct, sn, sub, ab, col, dd, k0, k1, k2, k3, k5, mN, hC, hN, hni, T⟩ := exc_obj I.kIn q
  refine wpAny_call_exc_subT F T hC hN hni (fun h' e hm => ?_) (Nat.zero_le _)
  exact mk_of I hm r h (I.hok.gone hm.new)
/-- what the top holds of such a class -/
structure ExC (K : PySem.W.Frag) (mg : Str → Option Value) (x : Str) (C : Addr) : Prop where
  g : mg x = some (.ref C)
  ex : PySem.W.excIn K C veChain "ValueError.__new__" = true
  kp : PySem.W.keepIn K (.ref C) = true
  be : PySem.W.subIn K (.ref C) (.type "BaseException") = some true
  ty : PySem.W.typeIn K (.ref C) = some (.type "type")
  ic : PySem.W.isClsIn K C = true
  sf : PySem.W.subIn K (.ref C) (.ref C) = some true
theorem exm_sub {K : PySem.W.Frag} {C S : Addr} {b : Bool} (h1 : PySem.W.subIn K (.ref S) (.type "BaseException") = some true) (h2 : PySem.W.isClsIn K S = true) (h3 : PySem.W.typeIn K (.ref S) = some (.type "type")) (h4 : PySem.W.subIn K (.ref C) (.ref S) = some b) :
    PySem.W.exmOne K (.ref C) (.ref S) = some b := by
  have e1 : (PySem.W.subIn K (.ref S) (.type "BaseException") == some true) = true := by rw [h1] <;> rfl
  have e2 : ((PySem.W.clsIn K S).isSome && PySem.W.typeIn K (.ref S) == some (.type "type")) = true := by
    have h2' : (PySem.W.clsIn K S).isSome = true := h2
    rw [h2', h3] <;> rfl
  show (if (PySem.W.subIn K (.ref S) (.type "BaseException") == some true) = true then (if ((PySem.W.clsIn K S).isSome && PySem.W.typeIn K (.ref S) == some (.type "type")) = true then PySem.W.subIn K (.ref C) (.ref S) else none) else none) = some b
  rw [if_pos e1, if_pos e2]
  exact h4
theorem ExC.te {K : PySem.W.Frag} {mg : Str → Option Value} {x : Str} {C : Addr} (e : ExC K mg x C) : PySem.W.exmOne K (.ref C) (.ref C) = some true := exm_sub e.be e.ic e.ty e.sf
/-- raise X() -/
theorem ps_raise0 {X : Cx} {W : WX} {C : Addr} {x : Str} {p pos pos2 : Pos} (hc : X.calm = true) (e : ExC X.K X.mg x C) (tk : Takes X W) (hg : Gl X x := by rfl) (hdb : (x == ("__debug__" : Str)) = false := by decide) :
    PS X (.Raise (some (.Call (.Name x p) [] [] pos)) none pos2) (fun _ σ H => W (.ref C) none σ H) :=
  ps_raise hc tk (pmk_own0 PySem.F.excBase_ValueError e.ex e.g e.kp (raises_own e.be e.ty) hg hdb)
theorem rd_callS {sp : Sp} {E : L2.St → XK} {t : TA} {σ : L2.St} {H : Hp} {Q : VK} (h : t σ H fun vs H1 => sp vs H1 Q (E σ)) : tCallS sp E t σ H Q := h
theorem rd_newK {σ : L2.St} {H : Hp} {Q : VK} (h : ∀ p, H p = none → Q (.ref p) (upd H p (.dK []))) : tDNewK σ H Q := h
theorem at_any {xs : List V} {i : Int} (h0 : 0 ≤ i) (h1 : i < (xs.length : Nat)) : ∃ v, v ∈ xs ∧ atI xs i = some v := by
  obtain ⟨j, rfl⟩ := Int.eq_ofNat_of_zero_le h0
  have hj : j < xs.length := by omega
  exact ⟨xs[j], List.getElem_mem hj, atI_nat (List.getElem?_eq_getElem hj)⟩
/-! ### things that are no integers -/
inductive Odd (D : Addr) (H : Hp) : V → Prop where
  | non : Odd D H .non
  | bl (b : Bool) : Odd D H (.bl b)
  | str (s : Str) : Odd D H (.str s)
  | lst {p : Addr} {xs : List V} (n : p ≠ D) (h : H p = some (.lst xs)) : Odd D H (.ref p)
  | tup {p : Addr} {xs : List V} (n : p ≠ D) (h : H p = some (.tup xs)) : Odd D H (.ref p)
  | dK {p : Addr} {kvs : List (Key × V)} (n : p ≠ D) (h : H p = some (.dK kvs)) : Odd D H (.ref p)
theorem Odd.fw {D : Addr} {H H' : Hp} {v : V} (o : Odd D H v) (f : Fw D H H') : Odd D H' v := by
  cases o with
  | non => exact .non
  | bl b => exact .bl b
  | str s => exact .str s
  | lst n h => exact .lst n (f _ _ n h)
  | tup n h => exact .tup n (f _ _ n h)
  | dK n h => exact .dK n (f _ _ n h)
theorem Odd.isi {D : Addr} {H : Hp} {v : V} (o : Odd D H v) (K : PySem.W.Frag) : ∃ b1 b2 : Bool, (b1 && !b2) = false ∧ (∀ Q : VK, Q (.bl b1) H → rIsi K [v, .ty "int"] H Q) ∧ (∀ Q : VK, Q (.bl b2) H → rIsi K [v, .ty "bool"] H Q) := by
  cases o with
  | non => exact ⟨false, false, rfl, fun Q q => ⟨_, _, _, _, _, rfl, .ty _, .base .non, kit_ty (by decide +kernel), q⟩, fun Q q => ⟨_, _, _, _, _, rfl, .ty _, .base .non, kit_ty (by decide +kernel), q⟩⟩
  | bl b => exact ⟨true, true, rfl, fun Q q => ⟨_, _, _, _, _, rfl, .ty _, .base (.bl _), kit_ty (by decide +kernel), q⟩, fun Q q => ⟨_, _, _, _, _, rfl, .ty _, .base (.bl _), kit_ty (by decide +kernel), q⟩⟩
  | str s => exact ⟨false, false, rfl, fun Q q => ⟨_, _, _, _, _, rfl, .ty _, .base (.str _), kit_ty (by decide +kernel), q⟩, fun Q q => ⟨_, _, _, _, _, rfl, .ty _, .base (.str _), kit_ty (by decide +kernel), q⟩⟩
  | lst n h => exact ⟨false, false, rfl, fun Q q => ⟨_, _, _, _, _, rfl, .ty _, .base (.lst h), kit_ty (by decide +kernel), q⟩, fun Q q => ⟨_, _, _, _, _, rfl, .ty _, .base (.lst h), kit_ty (by decide +kernel), q⟩⟩
  | tup n h => exact ⟨false, false, rfl, fun Q q => ⟨_, _, _, _, _, rfl, .ty _, .base (.tup h), kit_ty (by decide +kernel), q⟩, fun Q q => ⟨_, _, _, _, _, rfl, .ty _, .base (.tup h), kit_ty (by decide +kernel), q⟩⟩
  | dK n h => exact ⟨false, false, rfl, fun Q q => ⟨_, _, _, _, _, rfl, .ty _, .base (.dK h), kit_ty (by decide +kernel), q⟩, fun Q q => ⟨_, _, _, _, _, rfl, .ty _, .base (.dK h), kit_ty (by decide +kernel), q⟩⟩
end My
namespace My
open PySem PySem.Spec PyProof.Rows L2
/-! ### for i, x in enumerate(t), t a tuple -/
section
variable {prog : Program} {w : World} {A : Around} {E : Value → Shared → Prop} {s : Shared}
theorem tupNext {it t : Addr} {i : Nat} {its : Array Value} {x : Value} {Q : Value → Shared → Prop} (h1 : IsTupIter s.heap it t i) (h2 : IsTup s.heap t its) (hx : its[i]? = some x)
    (q : ∀ h', IsTupIter h' it t (i + 1) → Heap.SameBut it s.heap h' → Q x { s with heap := h' }) : wpAny (model prog w) A (Builtin.SmallTypes.nextOf (.ref it)) Q E s := by
  unfold Builtin.SmallTypes.nextOf
  exact wpAny_bind (special_tup_item h1 h2 hx fun h' a b => wpAny_pure (q h' a b))
theorem tupNo {it t : Addr} {i : Nat} {its : Array Value} {Q : Value → Shared → Prop} (hh : A.handled = none) (h1 : IsTupIter s.heap it t i) (h2 : IsTup s.heap t its) (hx : its[i]? = none)
    (q : ∀ h' e, Heap.ExtBut it s.heap h' → (∃ o, h'.get? e = some o ∧ o.cls = .type "StopIteration") → E (.ref e) { s with heap := h' }) : wpAny (model prog w) A (Builtin.SmallTypes.nextOf (.ref it)) Q E s := by
  unfold Builtin.SmallTypes.nextOf
  refine wpAny_bind (special_tup_end hh h1 h2 hx fun e h' sx eb => ?_)
  obtain ⟨a, o, vs, rfl, ho, hc, _⟩ := sx
  exact q h' a eb ⟨o, ho, hc⟩
theorem tupDraws {it t : Addr} {its : Array Value} (hh : A.handled = none) (ne : t ≠ it) : Draws prog w A it [it, t] its.size (fun i x => its[i]? = some x) (fun i h => IsTupIter h it t i ∧ IsTup h t its) where
  live := fun i h st => by
    obtain ⟨⟨o, ho, _⟩, _⟩ := st
    exact ⟨o, ho⟩
  frame := fun i h h' st k => by
    obtain ⟨⟨o, ho, r⟩, ⟨o2, ho2, r2⟩⟩ := st
    exact ⟨⟨o, k it (by simp) o ho, r⟩, ⟨o2, k t (by simp) o2 ho2, r2⟩⟩
  item := fun i s Q E hi st q => tupNext st.1 st.2 (x := its[i]) (by simp [hi]) fun h' a b => q _ h' s.toks (by simp [hi]) ⟨a, st.2.extBut b.extBut ne⟩ b
  done := fun s Q E st q => tupNo hh st.1 st.2 (by simp) q
theorem newEnumT (t : Addr) (its : Array Value) (n : Nat) (dct : Option Addr) (sl : Array (Option Value)) :
    Meets (Builtin.«enumerate.__new__» ⟨[.type "enumerate", .ref t], []⟩) (fun _ R s => s.heap.get? t = some { cls := .type "tuple", dict := dct, data := .seq its n, slots := sl } ∧
      R (.ok (.ret (.ref (s.heap.push { cls := .type "tuple_iterator", data := .fields #[.ref t, .int 0 0] }).objs.size)))
        { s with heap := (s.heap.push { cls := .type "tuple_iterator", data := .fields #[.ref t, .int 0 0] }).push { cls := .type "enumerate", data := .fields #[.none, .bool false, .ref s.heap.objs.size, rawInt 0, .none, .none] } }) :=
  Meets.of_wp fun prog w A R s h => by
    obtain ⟨hp, g, d, tk, os⟩ := s
    obtain ⟨ht, hR⟩ := h
    have hsub := sub_enumerate
    have hT : IsTup (Shared.heap ⟨hp, g, d, tk, os⟩) t its := ⟨_, ht, rfl, n, rfl⟩
    wp_walk using AutoSeq1.wpAny_loadPart' ht
    refine wpAny_stack_any (fun st => wpAny_pure ?_)
    split
    · rename_i c _ _ _ _ _
      cases (c == Value.type "enumerate") <;> (wp_walk using AutoSeq1.wpAny_loadPart' ht, iter_tuple hT; exact ⟨_, rfl, hR⟩)
    · wp_walk using AutoSeq1.wpAny_loadPart' ht, iter_tuple hT
      exact ⟨_, rfl, hR⟩
theorem callEnumT {t : Addr} {its : Array Value} {Q : Value → Shared → Prop} (hT : IsTup s.heap t its)
    (q : ∀ h', IsEnum h' (s.heap.objs.size + 1) s.heap.objs.size 0 .none → IsTupIter h' s.heap.objs.size t 0 → (∀ b o, s.heap.get? b = some o → h'.get? b = some o) → Q (.ref (s.heap.objs.size + 1)) { s with heap := h' }) :
    wpAny (model prog w) A (call (.type "enumerate") [.ref t]) Q E s := by
  obtain ⟨⟨c, dct, dt, sl⟩, ht, hc, n, hd⟩ := hT
  simp only at hc hd
  subst hc hd
  refine callType_new F.called_enumerate (by decide) (F.typeCall_enumerate_1 _) (F.newCall_enumerate_1 _) (fun obj => F.args_object_init_2 obj _) F.entry_enumerate_new (newEnumT t its n dct sl) ⟨ht, ?_⟩
  generalize hh1 : s.heap.push { cls := .type "tuple_iterator", data := .fields #[.ref t, .int 0 0] } = h1
  have z1 : h1.objs.size = s.heap.objs.size + 1 := by rw [← hh1, Heap.size_push]
  have k1 : ∀ b o, s.heap.get? b = some o → h1.get? b = some o := fun b o e => by rw [← hh1]; exact Heap.get?_push_of_some _ e
  have i1 : h1.get? s.heap.objs.size = some { cls := .type "tuple_iterator", data := .fields #[.ref t, .int 0 0] } := by rw [← hh1]; exact Heap.get?_push_size _ rfl
  show _ ∧ _
  rw [z1]
  have e1 := Heap.get?_push_size h1 (o := { cls := .type "enumerate", data := .fields #[.none, .bool false, .ref s.heap.objs.size, rawInt 0, .none, .none] }) rfl
  rw [z1] at e1
  exact ⟨⟨_, e1, rfl⟩, q _ e1 ⟨_, Heap.get?_push_of_some _ i1, rfl, rfl⟩ fun b o e => Heap.get?_push_of_some _ (k1 b o e)⟩
end
def IteT (K : PySem.W.Frag) (a : Addr) : It :=
  ⟨fun i H => ∃ (xs : List V) (x : V), SqT K H a xs ∧ xs[i]? = some x, fun i H v H' => ∃ T x, v = .ref T ∧ H T = none ∧ H' = upd H T (.tup [.int (i : Nat), x]) ∧ ∀ xs, SqT K H a xs → xs[i]? = some x, fun i H => ∃ xs : List V, SqT K H a xs ∧ xs.length = i⟩
theorem turnEnumT {P : Program} {w : World} {K : PySem.W.Frag} {elts : List Expr} {kk : Nat} {tpos : Pos} (a e it : Addr) :
    Turn P w K (.Tuple elts kk tpos) (IteT K a) [e, it] e (fun i h => (∃ old, IsEnum h e it ((i : Nat) : Int) old) ∧ IsTupIter h it a i ∧ e ≠ it) where
  mem := by simp
  obj := fun i h st b hb => by
    obtain ⟨⟨old, he⟩, ⟨o, ho, hc, hd⟩, _⟩ := st
    rcases (show b = e ∨ b = it by simpa using hb) with rfl | rfl
    · exact ⟨_, he, fun v q => nomatch q⟩
    · exact ⟨o, ho, fun v q => by rw [hd] at q; cases q⟩
  keep := fun i h h' st k => by
    obtain ⟨⟨old, he⟩, ⟨o, ho, r⟩, hne⟩ := st
    exact ⟨⟨old, k e (by simp) _ he⟩, ⟨o, k it (by simp) o ho, r⟩, hne⟩
  item := by
    intro X hP hw hK hc i pins s σ H E I hf st hg
    subst hP hw hK
    obtain ⟨⟨old, he⟩, hit, hne⟩ := st
    obtain ⟨xs, x, hq, hx⟩ := hg
    obtain ⟨its, rv, p, hz⟩ := I.tuple hq
    obtain ⟨u, hu, ru⟩ := rv.get hx
    have elt := Heap.lt_size he
    have ilt : it < s.heap.objs.size := by obtain ⟨_, q, _⟩ := hit; exact Heap.lt_size q
    have hh := I.ok.hd hc
    have hti : a ≠ it := fun z => by
      obtain ⟨o1, e1, c1, _⟩ := hit
      obtain ⟨o2, e2, c2, _⟩ := p
      rw [z, e1] at e2
      cases e2
      rw [c1] at c2
      exact absurd c2 (by decide)
    have hte : e ≠ a := fun z => by
      obtain ⟨o2, e2, c2, _⟩ := p
      rw [← z, he] at e2
      cases e2
      exact absurd (show (Value.type "enumerate" : Value) = .type "tuple" from c2) (by decide)
    have ii : i < its.toArray.size := by
      have hl := rv.length
      have : i < xs.length := by
        rcases Nat.lt_or_ge i xs.length with h | h
        · exact h
        · rw [List.getElem?_eq_none h] at hx
          cases hx
      simp
      omega
    refine wpAny_pyNext_enum_itemD (tupDraws (A := X.A.in1) hh hti) he ⟨hit, p⟩ ii hne (by simp [hne, hte]) fun u' h' tk hu' ho st' hT hsz hk => ?_
    obtain rfl : u = u' := by
      have e2 : its.toArray[i]? = some u := by simpa using hu
      rw [e2] at hu'
      exact Option.some.inj hu'
    refine ⟨_, rfl, wpAny_letOwnedTupleGo_enum (s := { s with heap := h', toks := tk + 1 }) ho fun h'' he' sb => ?_⟩
    have hT2 := (sb.2 _ (Nat.ne_of_gt elt)).trans hT
    have new : ObjOk X.prog X.w (upd H s.heap.objs.size (.tup [.int (i : Nat), x])) h'' s.heap.objs.size (.tup [.int (i : Nat), x]) := ⟨by show 2 ≤ sizeLine; decide, [.int i tk, u], .cons ⟨_, rfl⟩ (.cons ru .nil), ⟨_, hT2, rfl, _, rfl⟩⟩
    have I1 : Inv X pins σ (upd H s.heap.objs.size (.tup [.int (i : Nat), x])) { s with heap := h'', toks := tk + 1 } :=
      I.turnedNew (t' := tk + 1) (ch := [e, it]) (fun b ob hb q => by
        have b1 : b ≠ e := fun z => hb (by simp [z])
        have b2 : b ≠ it := fun z => hb (by simp [z])
        exact (sb.2 b b1).trans (hk b ob b1 b2 q)) hf (Nat.le_refl _) new
    refine ⟨.ref s.heap.objs.size, _, I1, rfl, ⟨_, x, rfl, I.hok.fresh (Nat.le_refl _), rfl, fun ys hy => by rw [I.tuple_inj hy hq]; exact hx⟩, ⟨⟨u, ?_⟩, ?_, hne⟩, fun b hb => ?_⟩
    · rw [show ((i + 1 : Nat) : Int) = (i : Int) + 1 by omega]
      exact he'
    · obtain ⟨o, ho', r⟩ := st'.1
      exact ⟨o, (sb.2 it (Ne.symm hne)).trans ho', r⟩
    · have hb' : b < s.heap.objs.size := by
        rcases (show b = e ∨ b = it by simpa using hb) with rfl | rfl
        · exact elt
        · exact ilt
      rw [upd_ne (Nat.ne_of_lt hb')]
      exact (hf b hb).1
  done := by
    intro X hP hw hK hc i pins s σ H E I hf st hg
    subst hP hw hK
    obtain ⟨⟨old, he⟩, hit, hne⟩ := st
    obtain ⟨xs, hq, hx⟩ := hg
    obtain ⟨its, rv, p, hz⟩ := I.tuple hq
    obtain ⟨f0, f1, f2, f3, f4, f5⟩ := hf it (by simp)
    have hl := rv.length
    have hh := I.ok.hd hc
    have hti : a ≠ it := fun z => by
      obtain ⟨o1, e1, c1, _⟩ := hit
      obtain ⟨o2, e2, c2, _⟩ := p
      rw [z, e1] at e2
      cases e2
      rw [c1] at c2
      exact absurd c2 (by decide)
    have en : i = its.toArray.size := by
      simp
      omega
    rw [en] at he hit
    exact wpAny_pyNext_enum_endD (tupDraws (A := X.A.in1) hh hti) he ⟨hit, p⟩ fun h' eb => ⟨rfl, I.turned (t' := s.toks) (fun b o hb q => eb b o hb q) f0 f1 f3 f4 f5⟩
  self := fun A i s Q E st h => by
    obtain ⟨⟨_, he⟩, _⟩ := st
    exact wpAny_pyIter_enum he h
/-- enumerate over a list or a tuple -/
def iEnumX (K : PySem.W.Frag) (ta : TA) : TI := fun σ H R => ta σ H fun vs H1 => ∃ a xs, vs = [.ref a] ∧ ((SqL K H1 a xs ∧ R (Ite K a) H1) ∨ (SqT K H1 a xs ∧ R (IteT K a) H1))
theorem pi_enumX {X : Cx} {e : Expr} {ta : TA} {p pos tpos : Pos} {elts : List Expr} {kk : Nat} (hg : Gl X "enumerate") (hm : X.mg "enumerate" = none) (ha : PA X [e] ta) (hs : starEach [e] X.env = [(false, eval e X.env)] := by rfl) :
    PI X (.Tuple elts kk tpos) (.Call (.Name "enumerate" p) [e] [] pos) (iEnumX X.K ta) := by
  refine ⟨fun pins s σ H R I h => ?_⟩
  refine Call_ (ld_blt I hg hm boot_enumerate (PyProof.Rows.callWith_type1 (thn (ha.run pos pins s σ H _ I h) fun us s1 q1 => ?_) hs rfl))
  obtain ⟨vs, H1, I1, r1, a, xs, ex, q⟩ := q1
  subst ex
  obtain ⟨u, rfl, ru⟩ := vals1 r1
  cases ru
  have go : ∀ (h' : Heap) (J : It) (tn : Nat → Heap → Prop), (∀ b o, s1.heap.get? b = some o → h'.get? b = some o) → IsEnum h' (s1.heap.objs.size + 1) s1.heap.objs.size 0 .none → Turn X.prog X.w X.K (.Tuple elts kk tpos) J [s1.heap.objs.size + 1, s1.heap.objs.size] (s1.heap.objs.size + 1) tn → tn 0 h' → R J H1 →
      wpAny (model X.prog X.w) X.A (pyIter (.ref (s1.heap.objs.size + 1))) (PIE X pins σ (.Tuple elts kk tpos) R) X.xe { s1 with heap := h' } := fun h' J tn hk he T t0 q => by
    refine wpAny_pyIter_enum he ?_
    refine ⟨s1.heap.objs.size + 1, [s1.heap.objs.size + 1, s1.heap.objs.size], tn, J, H1, rfl, I1.kept (t' := s1.toks) hk, T, t0, fun b hb => ?_, q⟩
    have hle : s1.heap.objs.size ≤ b := by
      rcases (show b = s1.heap.objs.size + 1 ∨ b = s1.heap.objs.size by simpa using hb) with rfl | rfl
      · exact Nat.le_succ _
      · exact Nat.le_refl _
    exact I1.fpOk hle (I1.hok.fresh hle)
  rcases q with ⟨hq, q⟩ | ⟨hq, q⟩
  · obtain ⟨its, rv, p', hz⟩ := I1.list hq
    exact call_enumerate_list p'.isList fun h' he hit hsz hk => go h' _ _ hk he (turn_enum a _ _) ⟨⟨.none, he⟩, hit, Nat.succ_ne_self _⟩ q
  · obtain ⟨its, rv, p', hz⟩ := I1.tuple hq
    exact callEnumT p' fun h' he hit hk => go h' _ _ hk he (turnEnumT a _ _) ⟨⟨.none, he⟩, hit, Nat.succ_ne_self _⟩ q
theorem rd_enumX {K : PySem.W.Frag} {ta : TA} {R : It → Hp → Prop} {σ : L2.St} {H : Hp} (h : ta σ H fun vs H1 => ∃ a xs, vs = [.ref a] ∧ ((SqL K H1 a xs ∧ R (Ite K a) H1) ∨ (SqT K H1 a xs ∧ R (IteT K a) H1))) : iEnumX K ta σ H R := h
theorem for_enumT {K : PySem.W.Frag} {a : Addr} {xs : List V} {g : TG} {tb : TS} {D : Ends} {σ : L2.St} {H : Hp} (Pv : Nat → L2.St → Hp → Prop) (h0 : Pv 0 σ H) (hl : ∀ i σ H, i ≤ xs.length → Pv i σ H → SqT K H a xs)
    (hs : ∀ i x T σ H, xs[i]? = some x → Pv i σ H → H T = none → g (.ref T) σ (upd H T (.tup [.int (i : Nat), x])) fun σ2 H2 => tb { D with nx := Pv (i + 1), ct := Pv (i + 1), bk := D.nx } σ2 H2) (hd : ∀ σ H, Pv xs.length σ H → D.nx σ H) :
    ∃ W : Nat → Nat → L2.St → Hp → Prop, (∃ m, W 0 m σ H) ∧ ∀ i m σ H, W i m σ H →
      ((IteT K a).stop i H ∧ D.nx σ H) ∨ ((IteT K a).go i H ∧ ∃ N : L2.St → Hp → Prop, (∀ σ' H', N σ' H' → ∃ m', m' < m ∧ W (i + 1) m' σ' H') ∧ ∀ x H', (IteT K a).yld i H x H' → g x σ H' fun σ2 H2 => tb { D with nx := N, ct := N, bk := D.nx } σ2 H2) := by
  refine ⟨fun i m σ H => m = xs.length - i ∧ i ≤ xs.length ∧ Pv i σ H, ⟨xs.length, by simp, Nat.zero_le _, h0⟩, ?_⟩
  rintro i m σ H ⟨rfl, hi, p⟩
  have q := hl i σ H hi p
  by_cases hlt : i < xs.length
  · refine .inr ⟨⟨xs, xs[i], q, by simp [hlt]⟩, Pv (i + 1), fun σ' H' p' => ⟨xs.length - (i + 1), by omega, rfl, hlt, p'⟩, fun x H' y => ?_⟩
    obtain ⟨T, x, rfl, nT, rfl, y⟩ := y
    exact hs i x T σ H (y xs q) p nT
  · have e : i = xs.length := by omega
    subst e
    exact .inl ⟨⟨xs, q, rfl⟩, hd σ H p⟩
end My
namespace My
open PySem PySem.Spec PyProof.Rows L2
/-! ### max of a tuple of two ints -/
def rMaxT (K : PySem.W.Frag) : List V → Hp → VK → Prop := fun vs H Q => ∃ (a : Addr) (i j : Int), vs = [V.ref a] ∧ SqT K H a [.int i, .int j] ∧ ∀ m, m = i ∨ m = j → Q (.int m) H
theorem cr_maxT {X : Cx} (hc : X.calm = true) (hu : X.A.units + 64 < cLine) : CallR X (.builtin "max") (rMaxT X.K) := by
  intro pins s σ H vs us Q I r h
  obtain ⟨a, i, j, rfl, hs, q⟩ := h
  obtain ⟨its, rv, hl, _⟩ := I.tuple hs
  rw [Vals.ref1 r]
  have hv : ∃ (u1 u2 : Value), its = [u1, u2] ∧ RelV (.int i) u1 ∧ RelV (.int j) u2 := by
    cases rv with
    | cons r1 r2 =>
      cases r2 with
      | cons r2 r3 =>
        cases r3
        exact ⟨_, _, rfl, r1, r2⟩
  clear rv
  obtain ⟨_, _, rfl, ⟨t1, rfl⟩, ⟨t2, rfl⟩⟩ := hv
  have e : PyData.depthAll [PyData.int i, .int j] ≤ 2 := by simp [PyData.depthAll, PyData.depth]
  have hm : PySem.W.maxD (.int i) [.int j] = .int i ∨ PySem.W.maxD (.int i) [.int j] = .int j := by
    unfold PySem.W.maxD
    simp only [List.foldl]
    split <;> simp
  have hr : ReadsAll s.heap [Value.int i t1, Value.int j t2] [PyData.int i, .int j] [] := .cons (as := []) (.int _ _) (.cons (as := []) (.int _ _) .nil)
  have ha : PySem.W.AlikeAll [PyData.int i, .int j] := by
    refine ⟨fun x hx y hy => ?_, fun x hx => ?_⟩
    · simp only [List.mem_cons, List.not_mem_nil, or_false] at hx hy
      rcases hx with rfl | rfl <;> rcases hy with rfl | rfl <;> rfl
    · simp only [List.mem_cons, List.not_mem_nil, or_false] at hx
      rcases hx with rfl | rfl <;> simp
  refine PySem.W.max_tuple_data (x := .int i) (xs := [.int j]) (as := []) (I.ok.hd hc) hl hr ha ?_ fun k v h' tk bs hk hr hk' => ?_
  · omega
  · rcases hm with e | e <;> (rw [e] at hr; cases hr)
    · exact ⟨.int i, H, I.kept hk', ⟨_, rfl⟩, q i (.inl rfl)⟩
    · exact ⟨.int j, H, I.kept hk', ⟨_, rfl⟩, q j (.inr rfl)⟩
end My
namespace My
open PySem PySem.Spec PyProof.Rows L2
/-! ### t[::-1] of a tuple -/
section
variable {prog : Program} {w : World} {A : Around} {E : Value → Shared → Prop} {s : Shared}
theorem adjust_back (n : Nat) : Builtin.Slice.sliceAdjust none none (-1) (n : Int) = ((n : Int) - 1, -1) := rfl
theorem places_back (n : Nat) : Builtin.Slice.slicePlaces ((n : Int) - 1) (-1) (-1) = n := by
  unfold Builtin.Slice.slicePlaces
  have h1 : ¬ ((-1 : Int) > 0) := by omega
  rw [if_neg h1]
  split
  · rw [show (-(-1) : Int) = 1 by rfl, Int.ediv_one]
    omega
  · omega
theorem sliceApplied_back {sl : Addr} {vs : Value} {n : Nat} {Q : Int × Int × Nat → Shared → Prop} (hs : s.heap.IsSliceOf sl .none .none vs) (ps : IsPart vs (some (-1)))
    (h : Q ((n : Int) - 1, -1, n) s) : wpAny (model prog w) A (Builtin.Slice.sliceApplied (.ref sl) (pure (n : Int))) Q E s := by
  obtain ⟨os, hos, hcs, hds⟩ := id hs
  unfold Builtin.Slice.sliceApplied Builtin.Slice.sliceFields
  refine wpAny_bind (wpAny_bind (wpAny_field hos hds (x := .none) rfl (wpAny_bind (wpAny_field hos hds (x := .none) rfl (wpAny_bind (wpAny_field hos hds (x := vs) rfl (wpAny_pure ?_)))))))
  refine wpAny_bind (HT.slicePart_ ps ?_)
  show wpAny _ _ (if ((-1 : Int) == 0) = true then _ else _) _ _ s
  rw [if_neg (by decide)]
  refine wpAny_bind (slicePart_none (wpAny_bind (slicePart_none (wpAny_bind (wpAny_pure ?_)))))
  show wpAny _ _ (match Builtin.Slice.sliceAdjust none none (-1) (n : Int) with | (lo, hi) => pure (lo, (-1 : Int), Builtin.Slice.slicePlaces lo hi (-1))) _ _ s
  rw [adjust_back n]
  show wpAny _ _ (pure ((n : Int) - 1, (-1 : Int), Builtin.Slice.slicePlaces ((n : Int) - 1) (-1) (-1))) _ _ s
  rw [places_back]
  exact wpAny_pure h
theorem fm_map {α β : Type} {f : α → Option β} {g : α → β} : ∀ {l : List α}, (∀ m ∈ l, f m = some (g m)) → l.filterMap f = l.map g
  | [], _ => rfl
  | a :: l, h => by
    rw [List.filterMap_cons, h a (by simp)]
    show _ :: _ = _ :: _
    rw [fm_map fun m hm => h m (by simp [hm])]
theorem pick_back (xs : Array Value) : ((List.range xs.size).filterMap fun (m : Nat) => xs[((xs.size : Int) - 1 + (m : Int) * (-1)).toNat]?).toArray = xs.toList.reverse.toArray := by
  congr 1
  apply List.ext_getElem?
  intro i
  have e : (List.range xs.size).filterMap (fun (m : Nat) => xs[((xs.size : Int) - 1 + (m : Int) * (-1)).toNat]?) = (List.range xs.size).map fun m => xs.toList.getD (xs.size - 1 - m) Value.none := by
    refine fm_map fun m hm => ?_
    have hm := List.mem_range.mp hm
    have : ((xs.size : Int) - 1 + (m : Int) * (-1)).toNat = xs.size - 1 - m := by omega
    rw [this, List.getD_eq_getElem?_getD, Array.getElem?_toList]
    have hlt : xs.size - 1 - m < xs.size := by omega
    rw [Array.getElem?_eq_getElem hlt]
    rfl
  rw [e, List.getElem?_map]
  by_cases hi : i < xs.size
  · rw [List.getElem?_range hi, List.getElem?_reverse (by simpa using hi)]
    simp only [Array.length_toList, Option.map_some, List.getD_eq_getElem?_getD]
    have hlt : xs.size - 1 - i < xs.size := by omega
    rw [Array.getElem?_toList, Array.getElem?_eq_getElem hlt]
    rfl
  · rw [List.getElem?_eq_none (by simpa using hi), List.getElem?_eq_none (by simpa using hi)]
    rfl
theorem getItem_tuple_back {t sl : Addr} {items : Array Value} {vs : Value} {Q : Value → Shared → Prop} (ht : IsTup s.heap t items) (hs : s.heap.IsSliceOf sl .none .none vs) (ps : IsPart vs (some (-1)))
    (h : Q (.ref s.heap.objs.size) { s with heap := s.heap.push { cls := .type "tuple", data := .seq items.toList.reverse.toArray } })
    (hsz : items.size ≤ sizeLine) : wpAny (model prog w) A (getItem (.ref t) (.ref sl)) Q E s := by
  have htake : sizeOk (.seq items.toList.reverse.toArray) := by
    show items.toList.reverse.toArray.size ≤ sizeLine
    rw [List.size_toArray, List.length_reverse, Array.length_toList]
    exact hsz
  obtain ⟨os, hos, hcs, hds⟩ := id hs
  have hTs : s.TypeIs (.ref sl) "slice" := ⟨os, hos, hcs⟩
  unfold getItem
  try with_reducible refine wpAny_holding ?_
  first | refine wpAny_bind (wpAny_pure ?_) | skip
  refine wpAny_bind (wpAny_sequenceKey ht.typeIs (by decide) ?_)
  refine wpAny_bind (wpAny_callSpecial?_slot (name := Str.ofString "__getitem__") ht.typeIs PyProof.Rows.slot_tuple_getitem
    (wpAny_call_entry PyProof.Rows.slot_tuple_getitem ht.typeIs entry_tuple_getitem ?_ (args_tuple_getitem _ _)))
  show wpAny _ _ (Builtin.Tuple.tupleItemsOf (.ref t) >>= _) _ _ s
  refine wpAny_bind (tupleItemsOf_ ht ?_)
  refine wpAny_bind (wpAny_typeOf hTs ?_)
  rw [if_pos (by decide)]
  refine wpAny_bind (sliceApplied_back hs ps ?_)
  show wpAny _ _ (if (((items.size : Int) - 1) == 0 && (-1 : Int) == 1 && items.size == items.size) = true then _ else _) _ _ s
  have hno : ¬ ((((items.size : Int) - 1) == 0 && (-1 : Int) == 1 && items.size == items.size) = true) := by
    intro q
    rw [Bool.and_eq_true, Bool.and_eq_true] at q
    exact absurd q.1.2 (by decide)
  rw [if_neg hno, pick_back]
  first
    | exact wpAny_bind (m := Builtin.Tuple.tupleExact _) (wpAny_newObj_type (wpAny_pure ⟨_, rfl, wpAny_pure h⟩) htake)
    | exact wpAny_bind (m := Builtin.Tuple.tupleExact _) (wpAny_newObj_type (wpAny_bind (wpAny_pure (wpAny_pure ⟨_, rfl, wpAny_pure h⟩))) htake)
    | exact wpAny_bind (wpAny_bind (m := Builtin.Tuple.tupleExact _) (wpAny_newObj_type (wpAny_pure (wpAny_pure ⟨_, rfl, wpAny_pure h⟩)) htake))
    | exact wpAny_bind (wpAny_bind (m := Builtin.Tuple.tupleExact _) (wpAny_newObj_type (wpAny_pure ⟨_, rfl, wpAny_pure h⟩) htake))
end
def tRevT (K : PySem.W.Frag) (te : TE) : TE := fun σ H Q => te σ H fun x H1 => ∃ a xs, x = .ref a ∧ SqT K H1 a xs ∧ ∀ p, H1 p = none → Q (.ref p) (upd H1 p (.tup xs.reverse))
theorem pe_revT {X : Cx} {e : Expr} {te : TE} {k : Nat} {p1 p2 p3 pos : Pos} (he : PE X e te) : PE X (.Subscript e (.Slice none none (some (.UnaryOp .USub (.Constant (.int 1) k p1) p2)) p3) pos) (tRevT X.K te) := by
  refine ⟨fun pins s σ H Q I h => ?_⟩
  refine Subscript_ (thn (he.run pins s σ H _ I h) fun v s1 ⟨x, H1, I1, r1, q1⟩ => ?_)
  obtain ⟨a, xs, ex, hx, q⟩ := q1
  subst ex
  cases r1
  have hst : PO X (some (.UnaryOp .USub (.Constant (.int 1) k p1) p2)) (tPart (tUn (rU fun i => .int (-i)) (tC (.int 1)))) := po_some (pe_un un_neg pe_int)
  refine wpAny_Slice (thn (po_none.run pins s1 σ H1 (fun o H2 => o = none ∧ H2 = H1) I1 ⟨rfl, rfl⟩) fun vl s2 ⟨l, H2, I2, pl, el, e2⟩ => ?_)
  subst el e2
  refine thn (po_none.run pins s2 σ H2 (fun o H3 => o = none ∧ H3 = H2) I2 ⟨rfl, rfl⟩) fun vu s3 ⟨u, H3, I3, pu, eu, e3⟩ => ?_
  subst eu e3
  refine thn (hst.run pins s3 σ H3 (fun o H4 => o = some (-1) ∧ H4 = H3) I3 ⟨1, rfl, -1, rfl, rfl, rfl⟩) fun vs s4 ⟨o, H4, I4, ps, eo, e4⟩ => ?_
  subst eo e4
  cases pl
  cases pu
  have I5 : Inv X pins σ H4 { s4 with heap := s4.heap.push { cls := .type "slice", data := .fields #[.none, .none, vs] } } := I4.kept (t' := s4.toks) fun b ob q => Heap.get?_push_of_some _ q
  obtain ⟨its, r, ht, hz⟩ := I5.tuple hx
  have hlen := r.length
  show wpAny (model X.prog X.w) X.A (subscriptTail e (.Slice none none (some (.UnaryOp .USub (.Constant (.int 1) k p1) p2)) p3) (.ref a) (.ref s4.heap.objs.size)) (EP X pins σ Q) X.xe { s4 with heap := s4.heap.push { cls := .type "slice", data := .fields #[.none, .none, vs] } }
  refine tail_any (ops := [.ref a, .ref s4.heap.objs.size]) ht.typeIs (PyProof.Rows.slot_tuple_getitem.lookup) ?_ (by with_unfolding_all rfl)
  refine getItem_tuple_back ht (Heap.IsSliceOf.new _ .none .none vs) ps ?_ (by rw [List.size_toArray]; omega)
  refine ⟨.ref _, _, I5.laid (t' := s4.toks) (o := .tup xs.reverse) (fun b ob q => Heap.get?_push_of_some _ q) (Nat.le_refl _) ?_, rfl, q _ (I5.hok.fresh (Nat.le_refl _))⟩
  exact ⟨by rw [List.length_reverse]; exact hz, _, r.reverse, IsTup.new _ _⟩
variable {K : PySem.W.Frag}
theorem rd_revT {te : TE} {σ : L2.St} {H : Hp} {Q : VK} (h : te σ H fun x H1 => ∃ a xs, x = .ref a ∧ SqT K H1 a xs ∧ ∀ p, H1 p = none → Q (.ref p) (upd H1 p (.tup xs.reverse))) : tRevT K te σ H Q := h
end My
namespace My
open PySem PySem.Spec PyProof.Rows L2
/-! ### max of a list of ints -/
def rMaxL (K : PySem.W.Frag) : List V → Hp → VK → Prop := fun vs H Q => ∃ (a : Addr) (ns : List Int), vs = [V.ref a] ∧ SqL K H a (ns.map V.int) ∧ ns ≠ [] ∧ ∀ m, Q (.int m) H
theorem readsAll_ints {h : Heap} : ∀ {ns : List Int} {its : List Value}, Vals (ns.map V.int) its → ReadsAll h its (ns.map PyData.int) []
  | [], _, .nil => .nil
  | n :: ns, u :: its, .cons r rs => by
    obtain ⟨t, rfl⟩ := (show ∃ t, u = Value.int n t from r)
    exact .cons (as := []) (.int _ _) (readsAll_ints rs)
theorem depth_intsL : ∀ ns : List Int, PyData.depthAll (ns.map PyData.int) ≤ 1
  | [] => by simp [PyData.depthAll]
  | n :: ns => by
    have := depth_intsL ns
    show max (PyData.depth (.int n)) (PyData.depthAll (ns.map PyData.int)) ≤ 1
    have h0 : PyData.depth (.int n) = 0 := rfl
    omega
theorem cr_maxL {X : Cx} (hc : X.calm = true) (hu : X.A.units + 64 < cLine) : CallR X (.builtin "max") (rMaxL X.K) := by
  intro pins s σ H vs us Q I r h
  obtain ⟨a, ns, rfl, hs, hne, q⟩ := h
  obtain ⟨its, rv, hl, _⟩ := I.list hs
  rw [Vals.ref1 r]
  cases ns with
  | nil => exact absurd rfl hne
  | cons n ns =>
  have hr : ReadsAll s.heap its (PyData.int n :: ns.map PyData.int) [] := readsAll_ints (ns := n :: ns) rv
  have ha : PySem.W.AlikeAll (PyData.int n :: ns.map PyData.int) := by
    have key : ∀ x ∈ (n :: ns).map PyData.int, ∃ z, x = PyData.int z := fun x hx => by
      obtain ⟨z, _, rfl⟩ := List.mem_map.mp hx
      exact ⟨z, rfl⟩
    refine ⟨fun x hx y hy => ?_, fun x hx => ?_⟩
    · obtain ⟨i, rfl⟩ := key x hx
      obtain ⟨j, rfl⟩ := key y hy
      rfl
    · obtain ⟨i, rfl⟩ := key x hx
      simp
  have e : PyData.depthAll (PyData.int n :: ns.map PyData.int) ≤ 1 := depth_intsL (n :: ns)
  refine PySem.W.max_list_data (x := .int n) (xs := ns.map PyData.int) (as := []) (I.ok.hd hc) hl.isList (by simpa using hr) ha ?_ fun k v h' tk bs hk hr hk' => ?_
  · omega
  · rw [PySem.W.maxD_ints] at hr
    cases hr
    exact ⟨.int (ns.foldl max n), H, I.kept hk', ⟨_, rfl⟩, q _⟩
theorem cr_maxTK {X : Cx} {K : PySem.W.Frag} (h : X.K = K) (hc : X.calm = true) (hu : X.A.units + 64 < cLine) : CallR X (.builtin "max") (rMaxT K) := h ▸ cr_maxT hc hu
end My
namespace My
open PySem PySem.Spec PyProof.Rows L2
variable {K : PySem.W.Frag}
/-! ### own error classes with one field -/
structure ExF (K : PySem.W.Frag) (mg : Str → Option Value) (x : Str) (C fI : Addr) (fl : Str) : Prop where
  g : mg x = some (.ref C)
  ox : OexC K C
  iC : PySem.W.findIn K (.ref C) "__init__" = some (some (.ref fI))
  tI : PySem.W.typeIn K (.ref fI) = some (.type "function")
  no : PySem.W.findIn K (.ref C) fl = some none
  xf : XfC K C
  ic : PySem.W.isClsIn K C = true
  sf : PySem.W.subIn K (.ref C) (.ref C) = some true
theorem ExF.te {K : PySem.W.Frag} {mg : Str → Option Value} {x : Str} {C fI : Addr} {fl : Str} (e : ExF K mg x C fI fl) : PySem.W.exmOne K (.ref C) (.ref C) = some true := exm_sub e.ox.exC e.ic e.ox.tyC e.sf
/-- what such an __init__ does -/
def sp_xinit (C : Addr) (fl : Str) : Sp := fun vs H Q _ => ∃ p v, vs = [.ref p, v] ∧ H p = some (exo p C none) ∧ ∀ dx, H dx = none → dx ≠ p → Q .non (upd (upd H dx (exd dx [(fl, v)])) p (exo p C (some dx)))
theorem rd_ost {K : PySem.W.Frag} {f : Str} {to te : TE} {D : Ends} {σ : L2.St} {H : Hp} (h : te σ H fun y H1 => to σ H1 fun x H2 => ∃ a C : Addr, x = .ref a ∧ OexC K C ∧ PySem.W.findIn K (.ref C) f = some none ∧
    ((H2 a = some (exo a C none) ∧ ∀ dx, H2 dx = none → dx ≠ a → D.nx σ (upd (upd H2 dx (exd dx [(f, y)])) a (exo a C (some dx)))) ∨
      ∃ (dx : Addr) (fs : List (Str × V)), H2 a = some (exo a C (some dx)) ∧ H2 dx = some (exd dx fs) ∧ fs.length ≤ 900 ∧ D.nx σ (upd H2 dx (exd dx ((f, y) :: fs))))) : tOst K f to te D σ H := h
theorem del_upd_back {H1 : Hp} {a d : Addr} {o1 o2 o3 : HO} {fs : List (Str × V)} (ha : H1 a = none) (hd : H1 d = none) (hn : d ≠ a) :
    upd (del (upd (upd (upd H1 a o1) d o2) a o3) a) d (.xd fs) = upd H1 d (.xd fs) := by
  funext b
  by_cases hb : b = d
  · rw [hb, upd_same, upd_same]
  · rw [upd_ne hb, upd_ne hb]
    by_cases hb2 : b = a
    · rw [hb2, del_same, ha]
    · rw [del_ne hb2, upd_ne hb2, upd_ne hb, upd_ne hb2]
theorem lk1 {f : Str} {v : V} : ([(f, v)] : List (Str × V)).lookup f = some v := by
  have e : (f == f) = true := beq_self_eq_true f
  simp only [List.lookup, e]
/-- raise X(e) -/
def tRaise1 (C : Addr) (fl : Str) (W : WX) (ta : TA) : TS := fun _ σ H => tMkO C (sp_xinit C fl) [] ta σ H fun cls d H' => W cls d σ H'
theorem rd_raise1 {C : Addr} {fl : Str} {W : WX} {ta : TA} {D : Ends} {σ : L2.St} {H : Hp} (h : ta σ H fun vs H1 => vs.length ≤ 1000 ∧ ∀ a, H1 a = none → sp_xinit C fl (.ref a :: (vs ++ [])) (upd H1 a (exo a C none))
    (fun v H2 => v = .non ∧ ∃ (d : Addr) (fs : List (Str × V)), H2 a = some (exo a C (some d)) ∧ H2 d = some (exd d fs) ∧ H1 d = none ∧ W (.ref C) (some d) σ (upd (del H2 a) d (.xd fs))) (fun _ _ _ => False)) : tRaise1 C fl W ta D σ H := h
theorem rd_x1 {C : Addr} {fl : Str} {v : V} {H1 : Hp} {Q : Value → Option Addr → Hp → Prop} (h : ∀ d, H1 d = none → Q (.ref C) (some d) (upd H1 d (.xd [(fl, v)]))) :
    [v].length ≤ 1000 ∧ ∀ a, H1 a = none → sp_xinit C fl (.ref a :: ([v] ++ [])) (upd H1 a (exo a C none))
      (fun v H2 => v = .non ∧ ∃ (d : Addr) (fs : List (Str × V)), H2 a = some (exo a C (some d)) ∧ H2 d = some (exd d fs) ∧ H1 d = none ∧ Q (.ref C) (some d) (upd (del H2 a) d (.xd fs))) (fun _ _ _ => False) := by
  refine ⟨by show 1 ≤ 1000; decide, fun a na => ⟨a, v, rfl, upd_same, fun dx nd ne => ⟨rfl, dx, [(fl, v)], upd_same, ?_, ?_, ?_⟩⟩⟩
  · rw [upd_ne ne, upd_same]
  · rw [upd_ne ne] at nd
    exact nd
  · rw [upd_ne ne] at nd
    rw [del_upd_back na nd ne]
    exact h dx nd
theorem ps_raise1 {X : Cx} {W : WX} {C fI : Addr} {x : Str} {fl : Str} {k : Nat} {fd : FuncData} {ta : TA} {e : Expr} {es : List Expr} {p pos pos2 : Pos} (hc : X.calm = true) (E : ExF X.K X.mg x C fI fl)
    (F1 : FnOk X.prog X.w X.K X.mg X.base CX0 k fI fd ["self", fl] (sp_xinit C fl)) (hr : Room (k + 1) X.A) (tk : Takes X W) (hb : Binds X.K fd ["self", fl] []) (ha : PA X (e :: es) ta) (hg : Gl X x := by rfl)
    (hdb : (x == ("__debug__" : Str)) = false := by decide) (he : starEach (e :: es) X.env = (false, eval e X.env) :: starEach es X.env := by rfl) (hpl : (backTo pos (starEach es X.env)).any (·.1) = false := by rfl) :
    PS X (.Raise (some (.Call (.Name x p) (e :: es) [] pos)) none pos2) (tRaise1 C fl W ta) :=
  ps_raise (pos := pos2) hc tk (pmk_oex (pos := pos) E.ox E.iC E.tI F1 hr hb .nil pass0 hg E.g ha hdb he hpl)
/-- e.f of the caught error -/
theorem rd_xf {a : Addr} {cls : Value} {d : Option Addr} {C : Addr} {f : Str} {te : TE} {σ : L2.St} {H : Hp} {Q : VK} (h : te σ H fun x H1 => x = .ref a ∧ cls = .ref C ∧ ∃ (dd : Addr) (fs : List (Str × V)) (v : V), d = some dd ∧ H1 dd = some (.xd fs) ∧ fs.lookup f = some v ∧ Q v H1) : tXf a cls d C f te σ H Q := h
theorem rd_xf1 {a : Addr} {C dd : Addr} {f : Str} {v : V} {H : Hp} {Q : VK} (h : H dd = some (.xd [(f, v)])) (q : Q v H) : (V.ref a) = .ref a ∧ (Value.ref C) = .ref C ∧ ∃ (dd2 : Addr) (fs : List (Str × V)) (v : V), some dd = some dd2 ∧ H dd2 = some (.xd fs) ∧ fs.lookup f = some v ∧ Q v H := ⟨rfl, rfl, dd, _, v, rfl, h, lk1, q⟩
/-! ### own classes with fields -/
structure InsT (K : PySem.W.Frag) (C : Addr) : Prop where
  cl : Cls K C
  ha : PySem.W.findIn K (.ref C) "__class__" = some (some (.builtin "object.__class__"))
  hn : PySem.W.specialIn K (.builtin "object.__class__") "__get__" = some (some (.builtin "getset_descriptor.__get__"))
  ht : PySem.W.takesIn K (.builtin "object.__class__") = some true
  mo : PySem.W.mroIn K C (.type "object") = some true
  ki : PySem.W.kitOne K (.ref C) (.type "int") = some false
  kb : PySem.W.kitOne K (.ref C) (.type "bool") = some false
  kt : PySem.W.kitOne K (.ref C) (.type "tuple") = some false
  kl : PySem.W.kitOne K (.ref C) (.type "list") = some false
structure WebC (K : PySem.W.Frag) (mg : Str → Option Value) (x : Str) (C fI : Addr) : Prop where
  g : mg x = some (.ref C)
  mks : Mk K C fI
  it : InsT K C
theorem rd_fldS {K : PySem.W.Frag} {ta tv : TE} {f : Str} {D : Ends} {σ : L2.St} {H : Hp} (h : tv σ H fun y H1 => ta σ H1 fun x H2 => ∃ a C dx fs, x = .ref a ∧ H2 a = some (.ins C dx fs) ∧ Cls K C ∧ NoAttr K C f ∧ fs.length < 1000 ∧ D.nx σ (upd H2 a (.ins C dx (putF f y fs)))) : sFld K ta tv f D σ H := h
theorem rd_make {C : Addr} {sp : Sp} {dvs : List V} {E : XK} {t : TA} {σ : L2.St} {H : Hp} {Q : VK} (h : t σ H fun vs H1 => ∀ x dx, H1 x = none → H1 dx = none → dx ≠ x → sp (.ref x :: (vs ++ dvs)) (upd (upd H1 dx (.own x)) x (.ins C dx [])) (fun v H2 => v = .non ∧ Q (.ref x) H2) E) : tMake C sp dvs E t σ H Q := h
theorem rd_enum {K : PySem.W.Frag} {ta : TA} {R : It → Hp → Prop} {σ : L2.St} {H : Hp} (h : ta σ H fun vs H1 => ∃ a xs, vs = [.ref a] ∧ SqL K H1 a xs ∧ R (Ite K a) H1) : iEnum K ta σ H R := h
/-! ### things of all kinds; D: the deck, which alone is changed -/
inductive Od (K : PySem.W.Frag) (D : Addr) (H : Hp) : V → Prop where
  | non : Od K D H .non
  | bl (b : Bool) : Od K D H (.bl b)
  | str (s : Str) : Od K D H (.str s)
  | lst {p : Addr} {xs : List V} (n : p ≠ D) (h : H p = some (.lst xs)) : Od K D H (.ref p)
  | tup {p : Addr} {xs : List V} (n : p ≠ D) (h : H p = some (.tup xs)) : Od K D H (.ref p)
  | dK {p : Addr} {kvs : List (Key × V)} (n : p ≠ D) (h : H p = some (.dK kvs)) : Od K D H (.ref p)
  | ins {p C dx : Addr} {fs : List (Str × V)} (n : p ≠ D) (h : H p = some (.ins C dx fs)) (c : InsT K C) : Od K D H (.ref p)
theorem Od.fw {K : PySem.W.Frag} {D : Addr} {H H' : Hp} {v : V} (o : Od K D H v) (f : Fw D H H') : Od K D H' v := by
  cases o with
  | non => exact .non
  | bl b => exact .bl b
  | str s => exact .str s
  | lst n h => exact .lst n (f _ _ n h)
  | tup n h => exact .tup n (f _ _ n h)
  | dK n h => exact .dK n (f _ _ n h)
  | ins n h c => exact .ins n (f _ _ n h) c
/-- what isinstance says of it -/
theorem Od.isi {K : PySem.W.Frag} {D : Addr} {H : Hp} {v : V} (o : Od K D H v) : ∃ b1 b2 b3 : Bool, (b1 && !b2) = false ∧ (∀ Q : VK, Q (.bl b1) H → rIsi K [v, .ty "int"] H Q) ∧ (∀ Q : VK, Q (.bl b2) H → rIsi K [v, .ty "bool"] H Q) ∧ (∀ Q : VK, Q (.bl b3) H → rIsi K [v, .ty "tuple"] H Q) ∧ (b3 = true → ∃ p xs, v = .ref p ∧ p ≠ D ∧ H p = some (.tup xs)) := by
  cases o with
  | non => exact ⟨false, false, false, rfl, fun Q q => ⟨_, _, _, _, _, rfl, .ty _, .base .non, kit_ty (by decide +kernel), q⟩, fun Q q => ⟨_, _, _, _, _, rfl, .ty _, .base .non, kit_ty (by decide +kernel), q⟩, fun Q q => ⟨_, _, _, _, _, rfl, .ty _, .base .non, kit_ty (by decide +kernel), q⟩, fun z => Bool.noConfusion z⟩
  | bl b => exact ⟨true, true, false, rfl, fun Q q => ⟨_, _, _, _, _, rfl, .ty _, .base (.bl _), kit_ty (by decide +kernel), q⟩, fun Q q => ⟨_, _, _, _, _, rfl, .ty _, .base (.bl _), kit_ty (by decide +kernel), q⟩, fun Q q => ⟨_, _, _, _, _, rfl, .ty _, .base (.bl _), kit_ty (by decide +kernel), q⟩, fun z => Bool.noConfusion z⟩
  | str s => exact ⟨false, false, false, rfl, fun Q q => ⟨_, _, _, _, _, rfl, .ty _, .base (.str _), kit_ty (by decide +kernel), q⟩, fun Q q => ⟨_, _, _, _, _, rfl, .ty _, .base (.str _), kit_ty (by decide +kernel), q⟩, fun Q q => ⟨_, _, _, _, _, rfl, .ty _, .base (.str _), kit_ty (by decide +kernel), q⟩, fun z => Bool.noConfusion z⟩
  | lst n h => exact ⟨false, false, false, rfl, fun Q q => ⟨_, _, _, _, _, rfl, .ty _, .base (.lst h), kit_ty (by decide +kernel), q⟩, fun Q q => ⟨_, _, _, _, _, rfl, .ty _, .base (.lst h), kit_ty (by decide +kernel), q⟩, fun Q q => ⟨_, _, _, _, _, rfl, .ty _, .base (.lst h), kit_ty (by decide +kernel), q⟩, fun z => Bool.noConfusion z⟩
  | tup n h => exact ⟨false, false, true, rfl, fun Q q => ⟨_, _, _, _, _, rfl, .ty _, .base (.tup h), kit_ty (by decide +kernel), q⟩, fun Q q => ⟨_, _, _, _, _, rfl, .ty _, .base (.tup h), kit_ty (by decide +kernel), q⟩, fun Q q => ⟨_, _, _, _, _, rfl, .ty _, .base (.tup h), kit_ty (by decide +kernel), q⟩, fun _ => ⟨_, _, rfl, n, h⟩⟩
  | dK n h => exact ⟨false, false, false, rfl, fun Q q => ⟨_, _, _, _, _, rfl, .ty _, .base (.dK h), kit_ty (by decide +kernel), q⟩, fun Q q => ⟨_, _, _, _, _, rfl, .ty _, .base (.dK h), kit_ty (by decide +kernel), q⟩, fun Q q => ⟨_, _, _, _, _, rfl, .ty _, .base (.dK h), kit_ty (by decide +kernel), q⟩, fun z => Bool.noConfusion z⟩
  | ins n h c => exact ⟨false, false, false, rfl, fun Q q => ⟨_, _, _, _, _, rfl, .ty _, .base (.ins h c.cl c.ha c.hn c.ht c.mo), c.ki, q⟩, fun Q q => ⟨_, _, _, _, _, rfl, .ty _, .base (.ins h c.cl c.ha c.hn c.ht c.mo), c.kb, q⟩, fun Q q => ⟨_, _, _, _, _, rfl, .ty _, .base (.ins h c.cl c.ha c.hn c.ht c.mo), c.kt, q⟩, fun z => Bool.noConfusion z⟩
/-- what is no fraction -/
inductive NoF (K : PySem.W.Frag) (D : Addr) (H : Hp) : V → Prop where
  | int (i : Int) : NoF K D H (.int i)
  | not {v : V} (o : Od K D H v) (h : ∀ p xs, v = .ref p → H p = some (.tup xs) → xs.length ≠ 2) : NoF K D H v
  | fst {p : Addr} {x y : V} (n : p ≠ D) (h : H p = some (.tup [x, y])) (o : Od K D H x) (o2 : (∃ j : Int, y = .int j) ∨ Od K D H y) : NoF K D H (.ref p)
  | snd {p : Addr} {i : Int} {y : V} (n : p ≠ D) (h : H p = some (.tup [.int i, y])) (o : Od K D H y) : NoF K D H (.ref p)
  | low {p : Addr} {i j : Int} (n : p ≠ D) (h : H p = some (.tup [.int i, .int j])) (z : ¬ (0 < j ∧ Nat.gcd i.natAbs j.natAbs = 1)) (b : j.natAbs < 2 ^ 4000) : NoF K D H (.ref p)
theorem NoF.fw {K : PySem.W.Frag} {D : Addr} {H H' : Hp} {v : V} (o : NoF K D H v) (f : Fw D H H') : NoF K D H' v := by
  cases o with
  | int i => exact .int i
  | not o h =>
    refine .not (o.fw f) fun p xs e h2 => ?_
    subst e
    cases o with
    | lst n h3 =>
      rw [f _ _ n h3] at h2
      cases h2
    | tup n h3 =>
      rw [f _ _ n h3] at h2
      cases h2
      exact h _ _ rfl h3
    | dK n h3 =>
      rw [f _ _ n h3] at h2
      cases h2
    | ins n h3 c =>
      rw [f _ _ n h3] at h2
      cases h2
  | fst n h o o2 => exact .fst n (f _ _ n h) (o.fw f) (o2.imp id fun z => z.fw f)
  | snd n h o => exact .snd n (f _ _ n h) (o.fw f)
  | low n h z b => exact .low n (f _ _ n h) z b
/-- a thing with the word whether it is a fraction -/
def JF (K : PySem.W.Frag) (D : Addr) (H : Hp) (v : V) (b : Option Rat) : Prop := (∃ r, IsF K H v r ∧ Bd 2200 r ∧ b = some r) ∨ (NoF K D H v ∧ b = none)
theorem isi_int_tup {K : PySem.W.Frag} {H : Hp} {Q : VK} {i : Int} (q : Q (.bl false) H) : rIsi K [.int i, .ty "tuple"] H Q := ⟨_, _, _, _, _, rfl, .ty _, .base (.int _), kit_ty (by decide +kernel), q⟩
end My
namespace My
open PySem PySem.Spec PyProof.Rows L2
variable {K : PySem.W.Frag}
theorem for_enum {K : PySem.W.Frag} {a : Addr} {xs : List V} {g : TG} {tb : TS} {D : Ends} {σ : L2.St} {H : Hp} (Pv : Nat → L2.St → Hp → Prop) (h0 : Pv 0 σ H) (hl : ∀ i σ H, i ≤ xs.length → Pv i σ H → SqL K H a xs)
    (hs : ∀ i x T σ H, xs[i]? = some x → Pv i σ H → H T = none → g (.ref T) σ (upd H T (.tup [.int (i : Nat), x])) fun σ2 H2 => tb { D with nx := Pv (i + 1), ct := Pv (i + 1), bk := D.nx } σ2 H2) (hd : ∀ σ H, Pv xs.length σ H → D.nx σ H) :
    ∃ W : Nat → Nat → L2.St → Hp → Prop, (∃ m, W 0 m σ H) ∧ ∀ i m σ H, W i m σ H →
      ((Ite K a).stop i H ∧ D.nx σ H) ∨ ((Ite K a).go i H ∧ ∃ N : L2.St → Hp → Prop, (∀ σ' H', N σ' H' → ∃ m', m' < m ∧ W (i + 1) m' σ' H') ∧ ∀ x H', (Ite K a).yld i H x H' → g x σ H' fun σ2 H2 => tb { D with nx := N, ct := N, bk := D.nx } σ2 H2) := by
  refine ⟨fun i m σ H => m = xs.length - i ∧ i ≤ xs.length ∧ Pv i σ H, ⟨xs.length, by simp, Nat.zero_le _, h0⟩, ?_⟩
  rintro i m σ H ⟨rfl, hi, p⟩
  have q := hl i σ H hi p
  by_cases hlt : i < xs.length
  · refine .inr ⟨⟨xs, xs[i], q, by simp [hlt]⟩, Pv (i + 1), fun σ' H' p' => ⟨xs.length - (i + 1), by omega, rfl, hlt, p'⟩, fun x H' y => ?_⟩
    obtain ⟨T, x, rfl, nT, rfl, y⟩ := y
    exact hs i x T σ H (y xs q) p nT
  · have e : i = xs.length := by omega
    subst e
    exact .inl ⟨⟨xs, q, Nat.le_refl _⟩, hd σ H p⟩
/-! ### right stalls and webs of them -/
structure Stl where
  u : Nat
  v : Nat
  a : Rat
  b : Rat
  r : Rat
structure OkSt (n : Nat) (s : Stl) : Prop where
  u : s.u < n
  v : s.v < n
  ne : s.u ≠ s.v
  a : 0 < s.a
  b : 0 < s.b
  r : 0 < s.r
  e : s.a * s.b = s.r * s.r
structure BdSt (k : Nat) (s : Stl) : Prop where
  a : Bd k s.a
  b : Bd k s.b
  r : Bd k s.r
def IsSt (K : PySem.W.Frag) (H : Hp) (x : V) (s : Stl) : Prop := ∃ p va vb vr, x = .ref p ∧ H p = some (.tup [.int (s.u : Nat), .int (s.v : Nat), va, vb, vr]) ∧ IsF K H va s.a ∧ IsF K H vb s.b ∧ IsF K H vr s.r
theorem IsSt.same {H H' : Hp} {x : V} {s : Stl} (f : Same H H') (h : IsSt K H x s) : IsSt K H' x s := by
  obtain ⟨p, va, vb, vr, e, h, a, b, c⟩ := h
  exact ⟨p, va, vb, vr, e, f _ _ h, a.same f, b.same f, c.same f⟩
def Sts (K : PySem.W.Frag) (H : Hp) (xs : List V) (ss : List Stl) : Prop := Paired (IsSt K H) xs ss
theorem Sts.same {H H' : Hp} {xs : List V} {ss : List Stl} (f : Same H H') (h : Sts K H xs ss) : Sts K H' xs ss := by
  unfold Sts at *
  induction h with
  | nil => exact .nil
  | cons h t ih => exact .cons (h.same f) ih
theorem Sts.len {H : Hp} {xs : List V} {ss : List Stl} (h : Sts K H xs ss) : xs.length = ss.length := Paired.length h
theorem Sts.at {H : Hp} {xs : List V} {ss : List Stl} (h : Sts K H xs ss) : ∀ {i : Nat} {x : V}, xs[i]? = some x → ∃ s, ss[i]? = some s ∧ IsSt K H x s := by
  unfold Sts at h
  induction h with
  | nil =>
    intro i x e
    simp at e
  | cons h t ih =>
    intro i x e
    match i with
    | 0 =>
      simp at e
      subst e
      exact ⟨_, rfl, h⟩
    | i + 1 => exact ih (by simpa using e)
theorem IsF.ts {H H' : Hp} {x : V} {r : Rat} (f : Tps H H') (h : IsF K H x r) : IsF K H' x r := by
  obtain ⟨p, e, h⟩ := h
  exact ⟨p, e, h.ts f⟩
theorem IsSt.ts {H H' : Hp} {x : V} {s : Stl} (f : Tps H H') (h : IsSt K H x s) : IsSt K H' x s := by
  obtain ⟨p, va, vb, vr, e, h, a, b, c⟩ := h
  exact ⟨p, va, vb, vr, e, f _ _ h, a.ts f, b.ts f, c.ts f⟩
theorem Sts.ts {H H' : Hp} {xs : List V} {ss : List Stl} (f : Tps H H') (h : Sts K H xs ss) : Sts K H' xs ss := by
  unfold Sts at *
  induction h with
  | nil => exact .nil
  | cons h t ih => exact .cons (h.ts f) ih
def wF (n : Nat) (t : Addr) : List (Str × V) := [("wares", .int (n : Nat)), ("stalls", .ref t)]
def IsWeb (K : PySem.W.Frag) (C : Addr) (H : Hp) (x : V) (n : Nat) (ss : List Stl) : Prop := ∃ p dx t xs, x = .ref p ∧ H p = some (.ins C dx (wF n t)) ∧ H t = some (.tup xs) ∧ Sts K H xs ss
theorem IsWeb.same {C : Addr} {H H' : Hp} {x : V} {n : Nat} {ss : List Stl} (f : Same H H') (h : IsWeb K C H x n ss) : IsWeb K C H' x n ss := by
  obtain ⟨p, dx, t, xs, e, h1, h2, h3⟩ := h
  exact ⟨p, dx, t, xs, e, f _ _ h1, f _ _ h2, h3.same f⟩
theorem lk_here {k : Str} {v : V} {r : List (Str × V)} : List.lookup k ((k, v) :: r) = some v := by
  have e : (k == k) = true := beq_self_eq_true k
  simp only [List.lookup, e]
theorem lk_past {k g : Str} {v : V} {r : List (Str × V)} (h : (k == g) = false) : List.lookup k ((g, v) :: r) = List.lookup k r := by
  simp only [List.lookup, h]
theorem wF_wares (n : Nat) (t : Addr) : (wF n t).lookup ("wares" : Str) = some (.int (n : Nat)) := lk_here
theorem wF_stalls (n : Nat) (t : Addr) : (wF n t).lookup ("stalls" : Str) = some (.ref t) := (lk_past (by decide +kernel)).trans lk_here
theorem wF_new (n : Nat) (t : Addr) : putF "stalls" (.ref t) (putF "wares" (.int (n : Nat)) []) = wF n t := by
  have h : ¬ (("wares" : Str) = "stalls") := by decide +kernel
  show putF "stalls" (.ref t) [("wares", .int (n : Nat))] = _
  simp [putF, h, wF]
theorem rd_fld {K : PySem.W.Frag} {ta : TE} {f : Str} {σ : L2.St} {H : Hp} {Q : VK} (h : ta σ H fun x H1 => ∃ a C dx fs v, x = .ref a ∧ H1 a = some (.ins C dx fs) ∧ Cls K C ∧ NoAttr K C f ∧ fs.lookup f = some v ∧ Q v H1) : tFld K ta f σ H Q := h
/-- what a stall is behind a move -/
def Stl.first (s : Stl) (x : Rat) : Stl := ⟨s.u, s.v, x, s.r * s.r / x, s.r⟩
def Stl.secnd (s : Stl) (y : Rat) : Stl := ⟨s.u, s.v, s.r * s.r / y, y, s.r⟩
def Stl.behind (s : Stl) (w : Nat) (x : Rat) : Stl := if w = s.u then s.first (s.a + x) else s.secnd (s.b + x)
def Stl.out (s t : Stl) (w : Nat) : Rat := if w = s.u then s.b - t.b else s.a - t.a
/-- a move of the web -/
def IsMv (K : PySem.W.Frag) (H : Hp) (v : V) (i w : Nat) (x : Rat) : Prop := ∃ p vx, v = .ref p ∧ H p = some (.tup [.int (i : Nat), .int (w : Nat), vx]) ∧ IsF K H vx x
theorem IsMv.same {H H' : Hp} {v : V} {i w : Nat} {x : Rat} (f : Same H H') (h : IsMv K H v i w x) : IsMv K H' v i w x := by
  obtain ⟨p, vx, e, h, a⟩ := h
  exact ⟨p, vx, e, f _ _ h, a.same f⟩
theorem Sts.get {H : Hp} {xs : List V} {ss : List Stl} (h : Sts K H xs ss) : ∀ {i : Nat} {s : Stl}, ss[i]? = some s → ∃ x, xs[i]? = some x ∧ IsSt K H x s := by
  unfold Sts at h
  induction h with
  | nil =>
    intro i x e
    simp at e
  | cons h t ih =>
    intro i x e
    match i with
    | 0 =>
      simp at e
      subst e
      exact ⟨_, rfl, h⟩
    | i + 1 => exact ih (by simpa using e)
end My
namespace My
open PySem PySem.Spec PyProof.Rows L2
variable {K : PySem.W.Frag}
theorem tps_put {H1 H : Hp} {D : Addr} {o : HO} {ys : List V} (h : H D = some (.lst ys)) : Tps H (upd H D o) := fun b xs hb => by
  refine (upd_ne fun e => ?_).trans hb
  rw [e, h] at hb
  cases hb
theorem same_put {H1 H : Hp} {D : Addr} {o : HO} (n : H1 D = none) (s : Same H1 H) : Same H1 (upd H D o) := fun b x h => (upd_ne (ne_of_none h n)).trans (s b x h)
/-- what stands while the tuples stand -/
def Mn {α : Type} (R : Hp → V → α → Prop) : Prop := ∀ H H' v a, Tps H H' → R H v a → R H' v a
theorem Paired.mono {α : Type} {R : Hp → V → α → Prop} (hR : Mn R) {H H' : Hp} (f : Tps H H') {ys : List V} {as : List α} (h : Paired (R H) ys as) : Paired (R H') ys as := by
  induction h with
  | nil => exact .nil
  | cons h t ih => exact .cons (hR _ _ _ _ f h) ih
theorem same_tps {H H' : Hp} (s : Same H H') : Tps H H' := fun b xs h => s _ _ h
theorem sqT_same {H H' : Hp} {a : Addr} {xs : List V} (e : Same H H') (h : SqT K H a xs) : SqT K H' a xs := by
  rcases h with (h | ⟨o, h⟩) | h
  · exact .inl (.inl (e _ _ h))
  · exact .inl (.inr ⟨o, e _ _ h⟩)
  · exact .inr h
section
variable {α : Type} {R : Hp → V → α → Prop} {g : TG} {tt : TT} {te : TE} {vs : List Nat} {σ : L2.St} {H1 : Hp} {D : Addr} {Qd : Hp → Prop} {f : Nat → Option α}
/-- the state of a list under way -/
def Lst (R : Hp → V → α → Prop) (H1 : Hp) (D : Addr) (as : List α) (H : Hp) : Prop := Same H1 H ∧ ∃ ys, H D = some (.lst ys) ∧ Paired (R H) ys as
theorem Lst.len {as : List α} {H : Hp} : Lst R H1 D as H → ∃ ys, H D = some (.lst ys) ∧ ys.length = as.length := fun ⟨_, ys, h, p⟩ => ⟨ys, h, Paired.length p⟩
theorem Lst.add (hR : Mn R) (nD : H1 D = none) {as : List α} {a : α} {H H' : Hp} {y : V} (l : Lst R H1 D as H) (s : Same H H') (h : R H' y a) (hn : as.length < 1000) :
    ∃ acc, H' D = some (.lst acc) ∧ acc.length < sizeLine ∧ Lst R H1 D (as ++ [a]) (upd H' D (.lst (acc ++ [y]))) := by
  obtain ⟨s1, ys, hD, p⟩ := l
  have hl := Paired.length p
  refine ⟨ys, s _ _ hD, small1000 (by omega), same_put nD (s1.trans s), _, upd_same, ?_⟩
  have t : Tps H' (upd H' D (.lst (ys ++ [y]))) := tps_put (H1 := H1) (s _ _ hD)
  exact Paired.mono hR t (Paired.snoc (Paired.mono hR (same_tps s) p) h)
theorem Lst.skip (hR : Mn R) {as : List α} {H H' : Hp} (l : Lst R H1 D as H) (s : Same H H') : Lst R H1 D as H' := by
  obtain ⟨s1, ys, hD, p⟩ := l
  exact ⟨s1.trans s, ys, s _ _ hD, Paired.mono hR (same_tps s) p⟩
def upTo (f : Nat → Option α) (i : Nat) : List α := (List.range i).filterMap f
theorem upTo_some {i : Nat} {a : α} (h : f i = some a) : upTo f (i + 1) = upTo f i ++ [a] := by
  unfold upTo
  rw [List.range_succ, List.filterMap_append]
  simp [h]
theorem upTo_none {i : Nat} (h : f i = none) : upTo f (i + 1) = upTo f i := by
  unfold upTo
  rw [List.range_succ, List.filterMap_append]
  simp [h]
theorem upTo_len (f : Nat → Option α) (i : Nat) : (upTo f i).length ≤ i := by
  unfold upTo
  refine Nat.le_trans (List.length_filterMap_le _ _) ?_
  simp
/-- one turn -/
def Turn1 (R : Hp → V → α → Prop) (H1 : Hp) (f : Nat → Option α) (i : Nat) (G : Hp → VK → (Hp → Prop) → Prop) : Prop :=
  ∀ H' (Q : VK) (N : Hp → Prop), Same H1 H' → (∀ a y H4, f i = some a → Same H' H4 → R H4 y a → Q y H4) → (∀ H3, f i = none → Same H' H3 → N H3) → G H' Q N
theorem Turn1.step (hR : Mn R) (nD : H1 D = none) {i : Nat} (hi : i < 1000) {G : Hp → VK → (Hp → Prop) → Prop} (t : Turn1 R H1 f i G) {H : Hp} (l : Lst R H1 D (upTo f i) H) :
    G H (fun y H4 => ∃ acc, H4 D = some (.lst acc) ∧ acc.length < sizeLine ∧ Lst R H1 D (upTo f (i + 1)) (upd H4 D (.lst (acc ++ [y])))) (Lst R H1 D (upTo f (i + 1))) := by
  refine t H _ _ l.1 (fun a y H4 e s h => ?_) fun H3 e s => ?_
  · rw [upTo_some e]
    exact l.add hR nD s h (Nat.lt_of_le_of_lt (upTo_len f i) hi)
  · rw [upTo_none e]
    exact l.skip hR s
theorem lst_new (nD : H1 D = none) : Lst R H1 D (upTo f 0) (upd H1 D (.lst [])) := ⟨same_upd nD, [], upd_same, .nil⟩
theorem lc_rangeP (hR : Mn R) {lo : Int} {n : Nat} (nD : H1 D = none) (hn : n ≤ 1000)
    (hs : ∀ i, i < n → Turn1 R H1 f i fun H' Q N => g (.int (lo + i)) (wipe σ vs) H' fun σ2 H2 => wipe σ2 vs = wipe σ vs ∧ tt σ2 H2 fun b H3 => if b = true then te σ2 H3 Q else N H3)
    (hd : ∀ H', Lst R H1 D (upTo f n) H' → Qd H') :
    ∃ W : Nat → Nat → Hp → Prop, (∃ m, W 0 m (upd H1 D (.lst []))) ∧ ∀ i m H, W i m H →
      ((Itr lo n).stop i H ∧ Qd H) ∨ ((Itr lo n).go i H ∧ ∃ Nx : Hp → Prop, (∀ H', Nx H' → ∃ m', m' < m ∧ W (i + 1) m' H') ∧ ∀ x H', (Itr lo n).yld i H x H' → g x (wipe σ vs) H' fun σ2 H2 => wipe σ2 vs = wipe σ vs ∧ tt σ2 H2 fun b H3 =>
        if b = true then te σ2 H3 fun y H4 => ∃ acc, H4 D = some (.lst acc) ∧ acc.length < sizeLine ∧ Nx (upd H4 D (.lst (acc ++ [y]))) else Nx H3) :=
  lc_range (fun i H => Lst R H1 D (upTo f i) H) (lst_new nD) (fun i H hi l => Turn1.step (i := i) hR nD (by omega) (hs i hi) l) hd
theorem lc_tupP (hR : Mn R) {a : Addr} {xs : List V} (nD : H1 D = none) (hn : xs.length ≤ 1000) (hl : SqT K H1 a xs)
    (hs : ∀ i x, xs[i]? = some x → Turn1 R H1 f i fun H' Q N => g x (wipe σ vs) H' fun σ2 H2 => wipe σ2 vs = wipe σ vs ∧ tt σ2 H2 fun b H3 => if b = true then te σ2 H3 Q else N H3)
    (hd : ∀ H', Lst R H1 D (upTo f xs.length) H' → Qd H') :
    ∃ W : Nat → Nat → Hp → Prop, (∃ m, W 0 m (upd H1 D (.lst []))) ∧ ∀ i m H, W i m H →
      ((Itt K a).stop i H ∧ Qd H) ∨ ((Itt K a).go i H ∧ ∃ Nx : Hp → Prop, (∀ H', Nx H' → ∃ m', m' < m ∧ W (i + 1) m' H') ∧ ∀ x H', (Itt K a).yld i H x H' → g x (wipe σ vs) H' fun σ2 H2 => wipe σ2 vs = wipe σ vs ∧ tt σ2 H2 fun b H3 =>
        if b = true then te σ2 H3 fun y H4 => ∃ acc, H4 D = some (.lst acc) ∧ acc.length < sizeLine ∧ Nx (upd H4 D (.lst (acc ++ [y]))) else Nx H3) :=
  lc_tup (xs := xs) (fun i H => Lst R H1 D (upTo f i) H) (lst_new nD) (fun i H _ l => sqT_same l.1 hl) (fun i x H hx l => Turn1.step (i := i) hR nD (by
    have := (List.getElem?_eq_some_iff.mp hx).1
    omega) (hs i x hx) l) hd
theorem lc_listP (hR : Mn R) {a : Addr} {xs : List V} (nD : H1 D = none) (hn : xs.length ≤ 1000) (hl : SqL K H1 a xs)
    (hs : ∀ i x, xs[i]? = some x → Turn1 R H1 f i fun H' Q N => g x (wipe σ vs) H' fun σ2 H2 => wipe σ2 vs = wipe σ vs ∧ tt σ2 H2 fun b H3 => if b = true then te σ2 H3 Q else N H3)
    (hd : ∀ H', Lst R H1 D (upTo f xs.length) H' → Qd H') :
    ∃ W : Nat → Nat → Hp → Prop, (∃ m, W 0 m (upd H1 D (.lst []))) ∧ ∀ i m H, W i m H →
      ((Itl K a).stop i H ∧ Qd H) ∨ ((Itl K a).go i H ∧ ∃ Nx : Hp → Prop, (∀ H', Nx H' → ∃ m', m' < m ∧ W (i + 1) m' H') ∧ ∀ x H', (Itl K a).yld i H x H' → g x (wipe σ vs) H' fun σ2 H2 => wipe σ2 vs = wipe σ vs ∧ tt σ2 H2 fun b H3 =>
        if b = true then te σ2 H3 fun y H4 => ∃ acc, H4 D = some (.lst acc) ∧ acc.length < sizeLine ∧ Nx (upd H4 D (.lst (acc ++ [y]))) else Nx H3) :=
  lc_list (xs := xs) (fun i H => Lst R H1 D (upTo f i) H) (lst_new nD) (fun i H _ l => l.1.seq hl) (fun i x H hx l => Turn1.step (i := i) hR nD (by
    have := (List.getElem?_eq_some_iff.mp hx).1
    omega) (hs i x hx) l) hd
theorem lc_enumTP (hR : Mn R) {a : Addr} {xs : List V} (nD : H1 D = none) (hn : xs.length ≤ 1000) (hl : SqT K H1 a xs)
    (hs : ∀ i x, xs[i]? = some x → Turn1 R H1 f i fun H' Q N => ∀ T, H' T = none → g (.ref T) (wipe σ vs) (upd H' T (.tup [.int (i : Nat), x])) fun σ2 H2 => wipe σ2 vs = wipe σ vs ∧ tt σ2 H2 fun b H3 => if b = true then te σ2 H3 Q else N H3)
    (hd : ∀ H', Lst R H1 D (upTo f xs.length) H' → Qd H') :
    ∃ W : Nat → Nat → Hp → Prop, (∃ m, W 0 m (upd H1 D (.lst []))) ∧ ∀ i m H, W i m H →
      ((IteT K a).stop i H ∧ Qd H) ∨ ((IteT K a).go i H ∧ ∃ Nx : Hp → Prop, (∀ H', Nx H' → ∃ m', m' < m ∧ W (i + 1) m' H') ∧ ∀ x H', (IteT K a).yld i H x H' → g x (wipe σ vs) H' fun σ2 H2 => wipe σ2 vs = wipe σ vs ∧ tt σ2 H2 fun b H3 =>
        if b = true then te σ2 H3 fun y H4 => ∃ acc, H4 D = some (.lst acc) ∧ acc.length < sizeLine ∧ Nx (upd H4 D (.lst (acc ++ [y]))) else Nx H3) := by
  refine ⟨fun i m H => m = xs.length - i ∧ i ≤ xs.length ∧ Lst R H1 D (upTo f i) H, ⟨xs.length, by simp, Nat.zero_le _, lst_new nD⟩, ?_⟩
  rintro i m H ⟨rfl, hi, l⟩
  have q := sqT_same l.1 hl
  by_cases hlt : i < xs.length
  · refine .inr ⟨⟨xs, xs[i], q, by simp [hlt]⟩, Lst R H1 D (upTo f (i + 1)), fun H' p' => ⟨xs.length - (i + 1), by omega, rfl, hlt, p'⟩, fun x H' y => ?_⟩
    obtain ⟨T, x, rfl, nT, rfl, y⟩ := y
    exact Turn1.step (i := i) hR nD (by omega) (hs i x (y xs q)) l T nT
  · have e : i = xs.length := by omega
    subst e
    exact .inl ⟨⟨xs, q, rfl⟩, hd H l⟩
end
end My
namespace My
open PySem PySem.Spec PyProof.Rows L2
section
variable {X : Cx} {K : PySem.W.Frag}
theorem sl_tupK (h : X.K = K) : SlR X (rSlT K) := h ▸ sl_tup
theorem sl_listK (h : X.K = K) : SlR X (rSlL K) := h ▸ sl_list
def rIxA (K : PySem.W.Frag) : R2 := fun x y H Q => ∃ p xs i v, x = .ref p ∧ y = .int i ∧ (SqL K H p xs ∨ SqT K H p xs) ∧ atI xs i = some v ∧ Q v H
theorem ix_any : IxR X (rIxA X.K) := by
  intro value slice pins s σ H x y v u Q I rx ry h hs
  obtain ⟨p, xs, i, z, e1, e2, hq, he, q⟩ := h
  rcases hq with hq | hq
  · exact ix_list value slice pins s σ H x y v u Q I rx ry ⟨p, xs, i, z, e1, e2, hq, he, q⟩ hs
  · exact ix_tup value slice pins s σ H x y v u Q I rx ry ⟨p, xs, i, z, e1, e2, hq, he, q⟩ hs
theorem ix_anyK (h : X.K = K) : IxR X (rIxA K) := h ▸ ix_any
theorem ix_tupK (h : X.K = K) : IxR X (rIxT K) := h ▸ ix_tup
theorem ix_listK (h : X.K = K) : IxR X (rIxL K) := h ▸ ix_list
theorem op_inK (h : X.K = K) : OpR X (compareOp .In) (rIn K false) := h ▸ op_in_seq
theorem op_eqDK (h : X.K = K) (hu : X.A.units + 64 < cLine) : OpR X (compareOp .Eq) (rEqD K) := h ▸ op_eqD hu
theorem op_neDK (h : X.K = K) (hu : X.A.units + 64 < cLine) : OpR X (compareOp .NotEq) (rNeD K) := h ▸ op_neD hu
theorem call_lenNK (h : X.K = K) : CallR X (.builtin "len") (rLen K) := h ▸ call_lenN
theorem call_isiK' (h : X.K = K) : CallR X (.builtin "isinstance") (rIsi K) := h ▸ call_isi
theorem pe_fldK {e : Expr} {f : Str} {pos : Pos} {ta : TE} (h : X.K = K) (he : PE X e ta) (hb : attributeBase e f X.env (eval e X.env) = eval e X.env) : PE X (.Attribute e f pos) (tFld K ta f) := h ▸ pe_fld he hb
end
end My
namespace My
open PySem PySem.Spec PyProof.Rows L2
/-! ### a list or a tuple walked -/
def iSeqA (K : PySem.W.Frag) (te : TE) : TI := fun σ H R => te σ H fun x H1 => ∃ a, x = .ref a ∧ (((∃ xs, SqL K H1 a xs) ∧ R (Itl K a) H1) ∨ ((∃ xs, SqT K H1 a xs) ∧ R (Itt K a) H1))
theorem pi_seqA {X : Cx} {tg l : Expr} {tl : TE} (hl : PE X l tl) : PI X tg l (iSeqA X.K tl) := by
  refine ⟨fun pins s σ H R I h => ?_⟩
  refine thn (hl.run pins s σ H _ I h) fun v s1 ⟨x, H1, I1, r1, q1⟩ => ?_
  obtain ⟨a, e, q⟩ := q1
  subst e
  cases r1
  rcases q with ⟨⟨xs, hq⟩, q⟩ | ⟨⟨xs, hq⟩, q⟩
  · obtain ⟨its, rv, p, hz⟩ := I1.list hq
    refine wpAny_pyIter_list p.isList ?_
    refine ⟨s1.heap.objs.size, [s1.heap.objs.size], _, _, H1, rfl, I1.kept (t' := s1.toks) fun b o e => Heap.get?_push_of_some _ e, turn_list a _, ⟨_, Heap.get?_push_size _ rfl, rfl, rfl⟩, fun b hb => ?_, q⟩
    have e : b = s1.heap.objs.size := by simpa using hb
    subst e
    exact I1.fpOk (Nat.le_refl _) (I1.hok.fresh (Nat.le_refl _))
  · obtain ⟨its, rv, p, hz⟩ := I1.tuple hq
    refine wpAny_pyIter_tuple (show s1.heap.IsTuple a its.toArray from p) ?_
    refine ⟨s1.heap.objs.size, [s1.heap.objs.size], _, _, H1, rfl, I1.kept (t' := s1.toks) fun b o e => Heap.get?_push_of_some _ e, turn_tuple a _, ⟨_, Heap.get?_push_size _ rfl, rfl, rfl⟩, fun b hb => ?_, q⟩
    have e : b = s1.heap.objs.size := by simpa using hb
    subst e
    exact I1.fpOk (Nat.le_refl _) (I1.hok.fresh (Nat.le_refl _))
variable {K : PySem.W.Frag}
theorem rd_seqA {te : TE} {σ : L2.St} {H : Hp} {R : It → Hp → Prop} (h : te σ H fun x H1 => ∃ a, x = .ref a ∧ (((∃ xs, SqL K H1 a xs) ∧ R (Itl K a) H1) ∨ ((∃ xs, SqT K H1 a xs) ∧ R (Itt K a) H1))) : iSeqA K te σ H R := h
/-- an address of a list or a tuple of these values -/
def Sq (K : PySem.W.Frag) (H : Hp) (a : Addr) (xs : List V) : Prop := SqL K H a xs ∨ SqT K H a xs
theorem Sq.same {H H' : Hp} {a : Addr} {xs : List V} (s : Same H H') (h : Sq K H a xs) : Sq K H' a xs := h.imp (Same.seq s) (sqT_same s)
theorem Sq.l {H : Hp} {a : Addr} {xs : List V} (h : H a = some (.lst xs)) : Sq K H a xs := .inl (.of h)
theorem Sq.t {H : Hp} {a : Addr} {xs : List V} (h : H a = some (.tup xs)) : Sq K H a xs := .inr (.of h)
section
variable {α : Type} {R : Hp → V → α → Prop} {g : TG} {tt : TT} {te : TE} {vs : List Nat} {σ : L2.St} {H1 : Hp} {Qd : Addr → Hp → Prop} {f : Nat → Option α}
theorem lc_seqA (hR : Mn R) {a : Addr} {xs : List V} (hn : xs.length ≤ 1000) (hl : Sq K H1 a xs)
    (hs : ∀ i x, xs[i]? = some x → Turn1 R H1 f i fun H' Q N => g x (wipe σ vs) H' fun σ2 H2 => wipe σ2 vs = wipe σ vs ∧ tt σ2 H2 fun b H3 => if b = true then te σ2 H3 Q else N H3)
    (hd : ∀ D H', Lst R H1 D (upTo f xs.length) H' → Qd D H') {RR : It → Hp → Prop}
    (hRR : RR = fun J H1 => ∀ D, H1 D = none → ∃ W : Nat → Nat → Hp → Prop, (∃ m, W 0 m (upd H1 D (.lst []))) ∧ ∀ i m H, W i m H →
      (J.stop i H ∧ Qd D H) ∨ (J.go i H ∧ ∃ Nx : Hp → Prop, (∀ H', Nx H' → ∃ m', m' < m ∧ W (i + 1) m' H') ∧ ∀ x H', J.yld i H x H' → g x (wipe σ vs) H' fun σ2 H2 => wipe σ2 vs = wipe σ vs ∧ tt σ2 H2 fun b H3 =>
        if b = true then te σ2 H3 fun y H4 => ∃ acc, H4 D = some (.lst acc) ∧ acc.length < sizeLine ∧ Nx (upd H4 D (.lst (acc ++ [y]))) else Nx H3)) :
    ((∃ xs, SqL K H1 a xs) ∧ RR (Itl K a) H1) ∨ ((∃ xs, SqT K H1 a xs) ∧ RR (Itt K a) H1) := by
  subst hRR
  rcases hl with hl | hl
  · exact .inl ⟨⟨_, hl⟩, fun D nD => lc_listP hR nD hn hl hs fun H' l => hd D H' l⟩
  · exact .inr ⟨⟨_, hl⟩, fun D nD => lc_tupP hR nD hn hl hs fun H' l => hd D H' l⟩
end
section
variable {g : TG} {tb : TS} {D : Ends} {σ : L2.St} {H : Hp}
theorem for_seqA {H0 : Hp} {a : Addr} {xs : List V} (Pv : Nat → L2.St → Hp → Prop) (h : Sq K H0 a xs) (h0 : Pv 0 σ H) (hl : ∀ i σ' H', Pv i σ' H' → Same H0 H')
    (hs : ∀ i x σ H, xs[i]? = some x → Pv i σ H → g x σ H fun σ2 H2 => tb { D with nx := Pv (i + 1), ct := Pv (i + 1), bk := D.nx } σ2 H2) (hd : ∀ σ H, Pv xs.length σ H → D.nx σ H) {RR : It → Hp → Prop}
    (hRR : RR = fun J H1 => ∃ W : Nat → Nat → L2.St → Hp → Prop, (∃ m, W 0 m σ H1) ∧ ∀ i m σ H, W i m σ H →
      (J.stop i H ∧ D.nx σ H) ∨ (J.go i H ∧ ∃ N : L2.St → Hp → Prop, (∀ σ' H', N σ' H' → ∃ m', m' < m ∧ W (i + 1) m' σ' H') ∧ ∀ x H', J.yld i H x H' → g x σ H' fun σ2 H2 => tb { D with nx := N, ct := N, bk := D.nx } σ2 H2)) :
    ((∃ xs, SqL K H a xs) ∧ RR (Itl K a) H) ∨ ((∃ xs, SqT K H a xs) ∧ RR (Itt K a) H) := by
  subst hRR
  rcases h with h | h
  · exact .inl ⟨⟨_, (hl 0 σ H h0).seq h⟩, for_list Pv h0 (fun i σ' H' hi p => (hl i σ' H' p).seq h) hs hd⟩
  · exact .inr ⟨⟨_, sqT_same (hl 0 σ H h0) h⟩, for_tup Pv h0 (fun i σ' H' hi p => sqT_same (hl i σ' H' p) h) hs hd⟩
end
end My
namespace My
open PySem PySem.Spec PyProof.Rows L2
section
variable {X : Cx} {K : PySem.W.Frag} {tg l : Expr} {tl : TE}
theorem pi_listK (h : X.K = K) (hl : PE X l tl) : PI X tg l (iList K tl) := h ▸ pi_list hl
theorem pi_tupK (h : X.K = K) (hl : PE X l tl) : PI X tg l (iTup K tl) := h ▸ pi_tup hl
theorem pi_seqAK (h : X.K = K) (hl : PE X l tl) : PI X tg l (iSeqA K tl) := h ▸ pi_seqA hl
end
end My
namespace My
open PySem PySem.Spec PyProof.Rows L2
/-! ### zip of a tuple and a list -/
abbrev zmH1 (h : Heap) (l1 : Addr) : Heap := h.push { cls := .type "tuple_iterator", data := .fields #[.ref l1, .int 0 0] }
abbrev zmH2 (h : Heap) (l1 l2 : Addr) : Heap := (zmH1 h l1).push { cls := .type "list_iterator", data := .fields #[.ref l2, .int 0 0] }
abbrev zmH3 (h : Heap) (l1 l2 : Addr) : Heap := (zmH2 h l1 l2).push { cls := .type "tuple", data := .seq #[.ref h.objs.size, .ref (zmH1 h l1).objs.size] }
abbrev zmH4 (h : Heap) (l1 l2 : Addr) : Heap := (zmH3 h l1 l2).push { cls := .type "tuple", data := .seq #[.none, .none] }
abbrev zmH5 (h : Heap) (l1 l2 : Addr) : Heap := (zmH4 h l1 l2).push { cls := .type "zip", data := .fields #[.none, .bool false, .bool false, .ref (zmH2 h l1 l2).objs.size, .ref (zmH3 h l1 l2).objs.size] }
theorem meets_zm_new (l1 l2 : Addr) (xs ys : Array Value) :
    Meets (Builtin.«zip.__new__» ⟨[.type "zip", .ref l1, .ref l2], []⟩) (fun _ R s => s.heap.IsTuple l1 xs ∧ s.heap.IsList l2 ys ∧
      R (.ok (.ret (.ref (zmH4 s.heap l1 l2).objs.size))) { s with heap := zmH5 s.heap l1 l2 }) :=
  .of_wp fun prog w A R s h => by
    obtain ⟨hp, g, d, tk, os⟩ := s
    obtain ⟨hl1, hl2, h⟩ := h
    have hsub := sub_zip
    have hL1 : Heap.IsTuple (Shared.heap ⟨hp, g, d, tk, os⟩) l1 xs := hl1
    have hL2 : Heap.IsList (Shared.heap ⟨hp.push { cls := .type "tuple_iterator", data := .fields #[.ref l1, .int 0 0] }, g, d, tk, os⟩) l2 ys := Heap.IsList.push hl2 _
    wp_walk using wpAny_pyIter_tuple hL1, wpAny_pyIter_list hL2
    exact ⟨_, rfl, h⟩
section
variable {prog : Program} {w : World} {A : Around} {E : Value → Shared → Prop} {s : Shared}
theorem call_zm {l1 l2 : Addr} {xs ys : Array Value} {Q : Value → Shared → Prop} (hl1 : s.heap.IsTuple l1 xs) (hl2 : s.heap.IsList l2 ys)
    (h : ∀ h', IsZip h' (s.heap.objs.size + 4) (s.heap.objs.size + 2) (s.heap.objs.size + 3) .none → IsPair h' (s.heap.objs.size + 2) (.ref s.heap.objs.size) (.ref (s.heap.objs.size + 1)) →
      IsPair h' (s.heap.objs.size + 3) .none .none → h'.IsTupleIter s.heap.objs.size l1 0 → h'.IsListIter (s.heap.objs.size + 1) l2 0 → h'.objs.size = s.heap.objs.size + 5 →
      (∀ c o, s.heap.get? c = some o → h'.get? c = some o) → Q (.ref (s.heap.objs.size + 4)) { s with heap := h' }) :
    wpAny (model prog w) A (call (.type "zip") [.ref l1, .ref l2]) Q E s := by
  refine callType_new F.called_zip (by decide) (F.typeCall_zip_2 _ _) (F.newCall_zip_2 _ _) (fun obj => F.args_object_init_3 obj _ _) F.entry_zip_new
    (meets_zm_new l1 l2 xs ys) ⟨hl1, hl2, ?_⟩
  have z1 : (zmH1 s.heap l1).objs.size = s.heap.objs.size + 1 := Heap.size_push ..
  have z2 : (zmH2 s.heap l1 l2).objs.size = s.heap.objs.size + 2 := by rw [Heap.size_push, z1]
  have z3 : (zmH3 s.heap l1 l2).objs.size = s.heap.objs.size + 3 := by rw [Heap.size_push, z2]
  have z4 : (zmH4 s.heap l1 l2).objs.size = s.heap.objs.size + 4 := by rw [Heap.size_push, z3]
  have z5 : (zmH5 s.heap l1 l2).objs.size = s.heap.objs.size + 5 := by rw [Heap.size_push, z4]
  have g5 : (zmH5 s.heap l1 l2).get? (zmH4 s.heap l1 l2).objs.size = some _ := Heap.get?_push_size _ rfl
  have g4 : (zmH5 s.heap l1 l2).get? (zmH3 s.heap l1 l2).objs.size = some _ := Heap.get?_push_of_some _ (Heap.get?_push_size _ rfl)
  have g3 : (zmH5 s.heap l1 l2).get? (zmH2 s.heap l1 l2).objs.size = some _ := Heap.get?_push_of_some _ (Heap.get?_push_of_some _ (Heap.get?_push_size _ rfl))
  have g2 : (zmH5 s.heap l1 l2).get? (zmH1 s.heap l1).objs.size = some _ := Heap.get?_push_of_some _ (Heap.get?_push_of_some _ (Heap.get?_push_of_some _ (Heap.get?_push_size _ rfl)))
  have g1 : (zmH5 s.heap l1 l2).get? s.heap.objs.size = some _ := Heap.get?_push_of_some _ (Heap.get?_push_of_some _ (Heap.get?_push_of_some _ (Heap.get?_push_of_some _ (Heap.get?_push_size _ rfl))))
  show _ ∧ _
  rw [z2, z3, z4] at g5
  rw [z1, z2] at g3
  rw [z3] at g4
  rw [z1] at g2
  rw [z4]
  exact ⟨⟨_, g5, rfl⟩, h _ g5 g3 g4 ⟨_, g1, rfl, rfl⟩ ⟨_, g2, rfl, rfl⟩ z5 fun c o x =>
    Heap.get?_push_of_some _ (Heap.get?_push_of_some _ (Heap.get?_push_of_some _ (Heap.get?_push_of_some _ (Heap.get?_push_of_some _ x))))⟩
end
def ItzM (K : PySem.W.Frag) (a b : Addr) : It :=
  ⟨fun i H => ∃ (xs ys : List V) (x y : V), SqT K H a xs ∧ SqL K H b ys ∧ xs[i]? = some x ∧ ys[i]? = some y,
    fun i H v H' => ∃ T x y, v = .ref T ∧ H T = none ∧ H' = upd H T (.tup [x, y]) ∧ (∀ xs, SqT K H a xs → xs[i]? = some x) ∧ ∀ ys, SqL K H b ys → ys[i]? = some y,
    fun i H => ∃ xs ys : List V, SqT K H a xs ∧ SqL K H b ys ∧ (xs.length = i ∧ i ≤ ys.length)⟩
theorem zip_sep {z TI TO i1 i2 a b : Addr} (D : ZipApart z TI TO i1 i2 a b) : ZipSep2 z TI TO i1 i2 [i1, a] [i2, b] where
  TIz := D.TIz
  TOz := D.TOz
  TITO := D.TITO
  TIi1 := D.TIi1
  mem1 := by simp
  zf1 := by
    simp
    exact ⟨D.i1z.symm, D.l1z.symm⟩
  Tf1 := by
    simp
    exact ⟨D.TOi1, D.l1TO.symm⟩
  TIi2 := D.TIi2
  mem2 := by simp
  zf2 := by
    simp
    exact ⟨D.i2z.symm, D.l2z.symm⟩
  Tf2 := by
    simp
    exact ⟨D.TOi2, D.l2TO.symm⟩
  sep1_2 := by
    simp
    exact ⟨D.i12, D.l2i1.symm⟩
  sep2_1 := by
    simp
    exact ⟨D.i12.symm, D.l1i2.symm⟩
theorem turn_zm {P : Program} {w : World} {K : PySem.W.Frag} {elts : List Expr} {kk : Nat} {tpos : Pos} {a b z TI TO i1 i2 : Addr} (D : ZipApart z TI TO i1 i2 a b) :
    Turn P w K (.Tuple elts kk tpos) (ItzM K a b) [z, TI, TO, i1, i2] z (fun i h => IsZip h z TI TO .none ∧ IsPair h TI (.ref i1) (.ref i2) ∧ (∃ x y, IsPair h TO x y) ∧ h.IsTupleIter i1 a i ∧ h.IsListIter i2 b i) where
  mem := by simp
  obj := fun i h st c hc => by
    obtain ⟨hz, hTI, ⟨x, y, hTO⟩, ⟨o1, e1, _, d1⟩, ⟨o2, e2, _, d2⟩⟩ := st
    have e' : c = z ∨ c = TI ∨ c = TO ∨ c = i1 ∨ c = i2 := by simpa using hc
    rcases e' with q | q | q | q | q
    · rw [q]; exact ⟨_, hz, fun v q => nomatch q⟩
    · rw [q]; exact ⟨_, hTI, fun v q => nomatch q⟩
    · rw [q]; exact ⟨_, hTO, fun v q => nomatch q⟩
    · rw [q]; exact ⟨o1, e1, fun v q => by rw [d1] at q; cases q⟩
    · rw [q]; exact ⟨o2, e2, fun v q => by rw [d2] at q; cases q⟩
  keep := fun i h h' st k => by
    obtain ⟨hz, hTI, ⟨x, y, hTO⟩, h1, h2⟩ := st
    exact ⟨k z (by simp) _ hz, k TI (by simp) _ hTI, ⟨x, y, k TO (by simp) _ hTO⟩, h1.at fun o q => k i1 (by simp) o q, h2.at fun o q => k i2 (by simp) o q⟩
  item := by
    intro X hP hw hK hc i pins s σ H E I hf st hg
    subst hP hw hK
    obtain ⟨hz, hTI, ⟨x0, y0, hTO⟩, h1, h2⟩ := st
    obtain ⟨xs, ys, x, y, hqx, hqy, hx, hy⟩ := hg
    obtain ⟨its, rv, p, _⟩ := I.tuple hqx
    obtain ⟨its2, rv2, p2, _⟩ := I.list hqy
    obtain ⟨u, hu, ru⟩ := rv.get hx
    obtain ⟨u2, hu2, ru2⟩ := rv2.get hy
    have hzl : z < s.heap.objs.size := Heap.lt_size hz
    have hh : X.A.in1.handled = none := I.ok.hd hc
    have D1 := tupDraws (prog := X.prog) (w := X.w) (A := X.A.in1) (its := its.toArray) hh D.l1i1
    have D2 := Draws.list (prog := X.prog) (w := X.w) (A := X.A.in1) hh i2 b D.l2i2 its2.toArray
    have n1 : i < its.toArray.size := by
      have := (List.getElem?_eq_some_iff.mp hu).1
      simpa using this
    have n2 : i < its2.toArray.size := by
      have := (List.getElem?_eq_some_iff.mp hu2).1
      simpa using this
    refine wpAny_pyNext_zipD2_item (zip_sep D) D1 D2 hz hTI hTO ⟨h1, p⟩ ⟨h2, p2.isList⟩ n1 n2 fun v1 v2 h' tk e1 e2 z' TO' h1' h2' hT hsz hk => ?_
    obtain rfl : u = v1 := by
      have e3 : its.toArray[i]? = some u := by simpa using hu
      exact Option.some.inj (e3.symm.trans e1)
    obtain rfl : u2 = v2 := by
      have e3 : its2.toArray[i]? = some u2 := by simpa using hu2
      exact Option.some.inj (e3.symm.trans e2)
    refine ⟨_, rfl, wpAny_letOwnedTupleGo_zip (s := { s with heap := h', toks := tk }) z' fun h'' z'' sb => ?_⟩
    have hT2 : h''.get? s.heap.objs.size = some { cls := .type "tuple", data := .seq #[u, u2] } := (sb.2 _ (Nat.ne_of_gt hzl)).trans hT
    have new : ObjOk X.prog X.w (upd H s.heap.objs.size (.tup [x, y])) h'' s.heap.objs.size (.tup [x, y]) :=
      ⟨by show 2 ≤ sizeLine; decide, [u, u2], .cons ru (.cons ru2 .nil), ⟨_, hT2, rfl, _, rfl⟩⟩
    have I1 : Inv X pins σ (upd H s.heap.objs.size (.tup [x, y])) { s with heap := h'', toks := tk } :=
      I.turnedNew (t' := tk) (ch := [z, TI, TO, i1, i2]) (fun c o hb q => (sb.2 c (fun q' => hb (by simp [q']))).trans (hk c o (fun q' => hb (by simp [q'])) (fun q' => hb (by simp [q'])) (fun q' => hb (by simp [q'])) (fun q' => hb (by simp [q'])) q)) hf (Nat.le_refl _) new
    refine ⟨.ref s.heap.objs.size, _, I1, rfl, ⟨_, x, y, rfl, I.hok.fresh (Nat.le_refl _), rfl, fun l hl => by rw [I.tuple_inj hl hqx]; exact hx, fun l hl => by rw [I.list_inj hl hqy]; exact hy⟩, ⟨z'', ?_, ⟨u, u2, ?_⟩, ?_, ?_⟩, fun c hcm => ?_⟩
    · exact (sb.2 _ D.TIz).trans (hk _ _ D.TIz D.TITO D.TIi1 D.TIi2 hTI)
    · exact (sb.2 _ D.TOz).trans TO'
    · exact Heap.IsTupleIter.at (show h'.IsTupleIter i1 a (i + 1) from h1'.1) fun o q => (sb.2 _ D.i1z).trans q
    · exact h2'.1.at fun o q => (sb.2 _ D.i2z).trans q
    · have hlt : c < s.heap.objs.size := by
        have e' : c = z ∨ c = TI ∨ c = TO ∨ c = i1 ∨ c = i2 := by simpa using hcm
        rcases e' with q | q | q | q | q
        · rw [q]; exact hzl
        · rw [q]; exact Heap.lt_size hTI
        · rw [q]; exact Heap.lt_size hTO
        · rw [q]; obtain ⟨_, e1, _⟩ := h1; exact Heap.lt_size e1
        · rw [q]; obtain ⟨_, e2, _⟩ := h2; exact Heap.lt_size e2
      rw [upd_ne (Nat.ne_of_lt hlt)]
      exact (hf c hcm).1
  done := by
    intro X hP hw hK hc i pins s σ H E I hf st hg
    subst hP hw hK
    obtain ⟨hz, hTI, ⟨x0, y0, hTO⟩, h1, h2⟩ := st
    obtain ⟨xs, ys, hqx, hqy, hend⟩ := hg
    obtain ⟨its, rv, p, _⟩ := I.tuple hqx
    obtain ⟨its2, rv2, p2, _⟩ := I.list hqy
    have l1 := rv.length
    have l2 := rv2.length
    have hh : X.A.in1.handled = none := I.ok.hd hc
    have D1 := tupDraws (prog := X.prog) (w := X.w) (A := X.A.in1) (its := its.toArray) hh D.l1i1
    have D2 := Draws.list (prog := X.prog) (w := X.w) (A := X.A.in1) hh i2 b D.l2i2 its2.toArray
    exact wpAny_pyNext_zipD2_end (zip_sep D) D1 D2 hz hTI hTO ⟨h1, p⟩ ⟨h2, p2.isList⟩ (by simp; omega) (by simp; omega) (.inl (by simp; omega)) fun h' tk hk => ⟨rfl, I.turnedL (t' := tk) (ch := [z, TI, TO, i1, i2]) (fun c o hb q =>
      hk c o (fun q' => hb (by simp [q'])) (fun q' => hb (by simp [q'])) (fun q' => hb (by simp [q'])) (fun q' => hb (by simp [q'])) q) hf⟩
  self := fun A i s Q E st h => wpAny_pyIter_zip st.1 h
def iZipM (K : PySem.W.Frag) (ta : TA) : TI := fun σ H R => ta σ H fun vs H1 => ∃ a b xs ys, vs = [.ref a, .ref b] ∧ SqT K H1 a xs ∧ ((SqL K H1 b ys ∧ R (ItzM K a b) H1) ∨ (SqT K H1 b ys ∧ R (RZ.ItzT K a b) H1))
theorem pi_zipM {X : Cx} {e e2 : Expr} {ta : TA} {p pos tpos : Pos} {elts : List Expr} {kk : Nat} (hg : Gl X "zip") (hm : X.mg "zip" = none) (ha : PA X [e, e2] ta)
    (hs : starEach [e, e2] X.env = (false, eval e X.env) :: starEach [e2] X.env := by rfl) (hpl : (backTo pos (starEach [e2] X.env)).any (·.1) = false := by rfl) :
    PI X (.Tuple elts kk tpos) (.Call (.Name "zip" p) [e, e2] [] pos) (iZipM X.K ta) := by
  refine ⟨fun pins s σ H R I h => ?_⟩
  refine Call_ (ld_blt I hg hm PyProof.Rows.boot_zip (PyProof.Rows.callWith_type1 (thn (ha.run pos pins s σ H _ I h) fun us s1 ⟨vs, H1, I1, r1, q1⟩ => ?_) hs hpl))
  obtain ⟨a, b, xs, ys, ex, hqx, q1⟩ := q1
  subst ex
  cases r1 with
  | cons r rr =>
    cases rr with
    | cons r' rr =>
      cases rr
      cases r
      cases r'
      have fresh5 : ∀ c, c ∈ [s1.heap.objs.size + 4, s1.heap.objs.size + 2, s1.heap.objs.size + 3, s1.heap.objs.size, s1.heap.objs.size + 1] → FpOk X pins H1 c := fun c hcm => by
        have e' : c = s1.heap.objs.size + 4 ∨ c = s1.heap.objs.size + 2 ∨ c = s1.heap.objs.size + 3 ∨ c = s1.heap.objs.size ∨ c = s1.heap.objs.size + 1 := by simpa using hcm
        have hle : s1.heap.objs.size ≤ c := by
          rcases e' with z | z | z | z | z
          · rw [z]; exact Nat.le_add_right _ _
          · rw [z]; exact Nat.le_add_right _ _
          · rw [z]; exact Nat.le_add_right _ _
          · rw [z]; exact Nat.le_refl _
          · rw [z]; exact Nat.le_add_right _ _
        exact I1.fpOk hle (I1.hok.fresh hle)
      obtain ⟨its, rv, p1, _⟩ := I1.tuple hqx
      obtain ⟨o1, ho1, _⟩ := id p1
      rcases q1 with ⟨hqy, q⟩ | ⟨hqy, q⟩
      · obtain ⟨its2, rv2, p2, _⟩ := I1.list hqy
        refine call_zm (show s1.heap.IsTuple a its.toArray from p1) p2.isList fun h' hz hTI hTO h1 h2 hsz hk => wpAny_pyIter_zip hz ?_
        have I2 : Inv X pins σ H1 { s1 with heap := h' } := I1.kept (t' := s1.toks) hk
        exact ⟨s1.heap.objs.size + 4, [s1.heap.objs.size + 4, s1.heap.objs.size + 2, s1.heap.objs.size + 3, s1.heap.objs.size, s1.heap.objs.size + 1], _, _, H1, rfl, I2, turn_zm (PySem.W.ktu_apart s1.heap.objs.size a b (Heap.lt_size ho1) p2.lt), ⟨hz, hTI, ⟨_, _, hTO⟩, h1, h2⟩, fresh5, q⟩
      · obtain ⟨its2, rv2, p2, _⟩ := I1.tuple hqy
        obtain ⟨o2, ho2, _⟩ := id p2
        refine RZ.call_zipT (show s1.heap.IsTuple a its.toArray from p1) (show s1.heap.IsTuple b its2.toArray from p2) fun h' hz hTI hTO h1 h2 hsz hk => wpAny_pyIter_zip hz ?_
        have I2 : Inv X pins σ H1 { s1 with heap := h' } := I1.kept (t' := s1.toks) hk
        exact ⟨s1.heap.objs.size + 4, [s1.heap.objs.size + 4, s1.heap.objs.size + 2, s1.heap.objs.size + 3, s1.heap.objs.size, s1.heap.objs.size + 1], _, _, H1, rfl, I2, RZ.turn_zipT (PySem.W.ktu_apart s1.heap.objs.size a b (Heap.lt_size ho1) (Heap.lt_size ho2)), ⟨hz, hTI, ⟨_, _, hTO⟩, h1, h2⟩, fresh5, q⟩
variable {K : PySem.W.Frag}
theorem rd_zipM {ta : TA} {σ : L2.St} {H : Hp} {R : It → Hp → Prop} (h : ta σ H fun vs H1 => ∃ a b xs ys, vs = [.ref a, .ref b] ∧ SqT K H1 a xs ∧ ((SqL K H1 b ys ∧ R (ItzM K a b) H1) ∨ (SqT K H1 b ys ∧ R (RZ.ItzT K a b) H1))) : iZipM K ta σ H R := h
section
variable {α : Type} {R : Hp → V → α → Prop} {g : TG} {tt : TT} {te : TE} {vs : List Nat} {σ : L2.St} {H1 : Hp} {Qd : Addr → Hp → Prop} {f : Nat → Option α}
/-- a comprehension over zip of a tuple and a list or a tuple of the same length -/
theorem lc_zipM (hR : Mn R) {a b : Addr} {xs ys : List V} (hn : xs.length ≤ 1000) (hlen : xs.length = ys.length) (ha : SqT K H1 a xs) (hb : Sq K H1 b ys)
    (hs : ∀ i x y, xs[i]? = some x → ys[i]? = some y → Turn1 R H1 f i fun H' Q N => ∀ T, H' T = none → g (.ref T) (wipe σ vs) (upd H' T (.tup [x, y])) fun σ2 H2 => wipe σ2 vs = wipe σ vs ∧ tt σ2 H2 fun b H3 => if b = true then te σ2 H3 Q else N H3)
    (hd : ∀ D H', Lst R H1 D (upTo f xs.length) H' → Qd D H') {RR : It → Hp → Prop}
    (hRR : RR = fun J H1 => ∀ D, H1 D = none → ∃ W : Nat → Nat → Hp → Prop, (∃ m, W 0 m (upd H1 D (.lst []))) ∧ ∀ i m H, W i m H →
      (J.stop i H ∧ Qd D H) ∨ (J.go i H ∧ ∃ Nx : Hp → Prop, (∀ H', Nx H' → ∃ m', m' < m ∧ W (i + 1) m' H') ∧ ∀ x H', J.yld i H x H' → g x (wipe σ vs) H' fun σ2 H2 => wipe σ2 vs = wipe σ vs ∧ tt σ2 H2 fun b H3 =>
        if b = true then te σ2 H3 fun y H4 => ∃ acc, H4 D = some (.lst acc) ∧ acc.length < sizeLine ∧ Nx (upd H4 D (.lst (acc ++ [y]))) else Nx H3)) :
    (SqL K H1 b ys ∧ RR (ItzM K a b) H1) ∨ (SqT K H1 b ys ∧ RR (RZ.ItzT K a b) H1) := by
  subst hRR
  rcases hb with hb | hb
  · refine .inl ⟨hb, fun D nD => ?_⟩
    refine ⟨fun i m H => m = xs.length - i ∧ i ≤ xs.length ∧ Lst R H1 D (upTo f i) H, ⟨xs.length, by simp, Nat.zero_le _, lst_new nD⟩, ?_⟩
    rintro i m H ⟨rfl, hi, l⟩
    have qa := sqT_same l.1 ha
    have qb := l.1.seq hb
    by_cases hlt : i < xs.length
    · refine .inr ⟨⟨xs, ys, xs[i], ys[i], qa, qb, by simp [hlt], by simp⟩, Lst R H1 D (upTo f (i + 1)), fun H' p' => ⟨xs.length - (i + 1), by omega, rfl, hlt, p'⟩, fun x H' y => ?_⟩
      obtain ⟨T, x, y, rfl, nT, rfl, hx, hy⟩ := y
      exact Turn1.step (i := i) hR nD (by omega) (hs i x y (hx xs qa) (hy ys qb)) l T nT
    · have e : i = xs.length := by omega
      subst e
      exact .inl ⟨⟨xs, ys, qa, qb, rfl, by omega⟩, hd D H l⟩
  · refine .inr ⟨hb, fun D nD => ?_⟩
    refine ⟨fun i m H => m = xs.length - i ∧ i ≤ xs.length ∧ Lst R H1 D (upTo f i) H, ⟨xs.length, by simp, Nat.zero_le _, lst_new nD⟩, ?_⟩
    rintro i m H ⟨rfl, hi, l⟩
    have qa := sqT_same l.1 ha
    have qb := sqT_same l.1 hb
    by_cases hlt : i < xs.length
    · refine .inr ⟨⟨xs, ys, xs[i], ys[i], qa, qb, by simp [hlt], by simp⟩, Lst R H1 D (upTo f (i + 1)), fun H' p' => ⟨xs.length - (i + 1), by omega, rfl, hlt, p'⟩, fun x H' y => ?_⟩
      obtain ⟨T, x, y, rfl, nT, rfl, hx, hy⟩ := y
      exact Turn1.step (i := i) hR nD (by omega) (hs i x y (hx xs qa) (hy ys qb)) l T nT
    · have e : i = xs.length := by omega
      subst e
      exact .inl ⟨⟨xs, ys, qa, qb, .inl (Nat.le_refl _)⟩, hd D H l⟩
end
end My
namespace My
open PySem PySem.Spec PyProof.Rows L2
/-! ### zip of a list and a tuple -/
abbrev znH1 (h : Heap) (l1 : Addr) : Heap := h.push { cls := .type "list_iterator", data := .fields #[.ref l1, .int 0 0] }
abbrev znH2 (h : Heap) (l1 l2 : Addr) : Heap := (znH1 h l1).push { cls := .type "tuple_iterator", data := .fields #[.ref l2, .int 0 0] }
abbrev znH3 (h : Heap) (l1 l2 : Addr) : Heap := (znH2 h l1 l2).push { cls := .type "tuple", data := .seq #[.ref h.objs.size, .ref (znH1 h l1).objs.size] }
abbrev znH4 (h : Heap) (l1 l2 : Addr) : Heap := (znH3 h l1 l2).push { cls := .type "tuple", data := .seq #[.none, .none] }
abbrev znH5 (h : Heap) (l1 l2 : Addr) : Heap := (znH4 h l1 l2).push { cls := .type "zip", data := .fields #[.none, .bool false, .bool false, .ref (znH2 h l1 l2).objs.size, .ref (znH3 h l1 l2).objs.size] }
theorem meets_zn_new (l1 l2 : Addr) (xs ys : Array Value) :
    Meets (Builtin.«zip.__new__» ⟨[.type "zip", .ref l1, .ref l2], []⟩) (fun _ R s => s.heap.IsList l1 xs ∧ s.heap.IsTuple l2 ys ∧
      R (.ok (.ret (.ref (znH4 s.heap l1 l2).objs.size))) { s with heap := znH5 s.heap l1 l2 }) :=
  .of_wp fun prog w A R s h => by
    obtain ⟨hp, g, d, tk, os⟩ := s
    obtain ⟨hl1, hl2, h⟩ := h
    have hsub := sub_zip
    have hL1 : Heap.IsList (Shared.heap ⟨hp, g, d, tk, os⟩) l1 xs := hl1
    have hL2 : Heap.IsTuple (Shared.heap ⟨hp.push { cls := .type "list_iterator", data := .fields #[.ref l1, .int 0 0] }, g, d, tk, os⟩) l2 ys := Heap.IsTuple.push hl2 _
    wp_walk using wpAny_pyIter_list hL1, wpAny_pyIter_tuple hL2
    exact ⟨_, rfl, h⟩
section
variable {prog : Program} {w : World} {A : Around} {E : Value → Shared → Prop} {s : Shared}
theorem call_zn {l1 l2 : Addr} {xs ys : Array Value} {Q : Value → Shared → Prop} (hl1 : s.heap.IsList l1 xs) (hl2 : s.heap.IsTuple l2 ys)
    (h : ∀ h', IsZip h' (s.heap.objs.size + 4) (s.heap.objs.size + 2) (s.heap.objs.size + 3) .none → IsPair h' (s.heap.objs.size + 2) (.ref s.heap.objs.size) (.ref (s.heap.objs.size + 1)) →
      IsPair h' (s.heap.objs.size + 3) .none .none → h'.IsListIter s.heap.objs.size l1 0 → h'.IsTupleIter (s.heap.objs.size + 1) l2 0 → h'.objs.size = s.heap.objs.size + 5 →
      (∀ c o, s.heap.get? c = some o → h'.get? c = some o) → Q (.ref (s.heap.objs.size + 4)) { s with heap := h' }) :
    wpAny (model prog w) A (call (.type "zip") [.ref l1, .ref l2]) Q E s := by
  refine callType_new F.called_zip (by decide) (F.typeCall_zip_2 _ _) (F.newCall_zip_2 _ _) (fun obj => F.args_object_init_3 obj _ _) F.entry_zip_new
    (meets_zn_new l1 l2 xs ys) ⟨hl1, hl2, ?_⟩
  have z1 : (znH1 s.heap l1).objs.size = s.heap.objs.size + 1 := Heap.size_push ..
  have z2 : (znH2 s.heap l1 l2).objs.size = s.heap.objs.size + 2 := by rw [Heap.size_push, z1]
  have z3 : (znH3 s.heap l1 l2).objs.size = s.heap.objs.size + 3 := by rw [Heap.size_push, z2]
  have z4 : (znH4 s.heap l1 l2).objs.size = s.heap.objs.size + 4 := by rw [Heap.size_push, z3]
  have z5 : (znH5 s.heap l1 l2).objs.size = s.heap.objs.size + 5 := by rw [Heap.size_push, z4]
  have g5 : (znH5 s.heap l1 l2).get? (znH4 s.heap l1 l2).objs.size = some _ := Heap.get?_push_size _ rfl
  have g4 : (znH5 s.heap l1 l2).get? (znH3 s.heap l1 l2).objs.size = some _ := Heap.get?_push_of_some _ (Heap.get?_push_size _ rfl)
  have g3 : (znH5 s.heap l1 l2).get? (znH2 s.heap l1 l2).objs.size = some _ := Heap.get?_push_of_some _ (Heap.get?_push_of_some _ (Heap.get?_push_size _ rfl))
  have g2 : (znH5 s.heap l1 l2).get? (znH1 s.heap l1).objs.size = some _ := Heap.get?_push_of_some _ (Heap.get?_push_of_some _ (Heap.get?_push_of_some _ (Heap.get?_push_size _ rfl)))
  have g1 : (znH5 s.heap l1 l2).get? s.heap.objs.size = some _ := Heap.get?_push_of_some _ (Heap.get?_push_of_some _ (Heap.get?_push_of_some _ (Heap.get?_push_of_some _ (Heap.get?_push_size _ rfl))))
  show _ ∧ _
  rw [z2, z3, z4] at g5
  rw [z1, z2] at g3
  rw [z3] at g4
  rw [z1] at g2
  rw [z4]
  exact ⟨⟨_, g5, rfl⟩, h _ g5 g3 g4 ⟨_, g1, rfl, rfl⟩ ⟨_, g2, rfl, rfl⟩ z5 fun c o x =>
    Heap.get?_push_of_some _ (Heap.get?_push_of_some _ (Heap.get?_push_of_some _ (Heap.get?_push_of_some _ (Heap.get?_push_of_some _ x))))⟩
end
def ItzN (K : PySem.W.Frag) (a b : Addr) : It :=
  ⟨fun i H => ∃ (xs ys : List V) (x y : V), SqL K H a xs ∧ SqT K H b ys ∧ xs[i]? = some x ∧ ys[i]? = some y,
    fun i H v H' => ∃ T x y, v = .ref T ∧ H T = none ∧ H' = upd H T (.tup [x, y]) ∧ (∀ xs, SqL K H a xs → xs[i]? = some x) ∧ ∀ ys, SqT K H b ys → ys[i]? = some y,
    fun i H => ∃ xs ys : List V, SqL K H a xs ∧ SqT K H b ys ∧ (xs.length = i ∧ i ≤ ys.length)⟩
theorem turn_zn {P : Program} {w : World} {K : PySem.W.Frag} {elts : List Expr} {kk : Nat} {tpos : Pos} {a b z TI TO i1 i2 : Addr} (D : ZipApart z TI TO i1 i2 a b) :
    Turn P w K (.Tuple elts kk tpos) (ItzN K a b) [z, TI, TO, i1, i2] z (fun i h => IsZip h z TI TO .none ∧ IsPair h TI (.ref i1) (.ref i2) ∧ (∃ x y, IsPair h TO x y) ∧ h.IsListIter i1 a i ∧ h.IsTupleIter i2 b i) where
  mem := by simp
  obj := fun i h st c hc => by
    obtain ⟨hz, hTI, ⟨x, y, hTO⟩, ⟨o1, e1, _, d1⟩, ⟨o2, e2, _, d2⟩⟩ := st
    have e' : c = z ∨ c = TI ∨ c = TO ∨ c = i1 ∨ c = i2 := by simpa using hc
    rcases e' with q | q | q | q | q
    · rw [q]; exact ⟨_, hz, fun v q => nomatch q⟩
    · rw [q]; exact ⟨_, hTI, fun v q => nomatch q⟩
    · rw [q]; exact ⟨_, hTO, fun v q => nomatch q⟩
    · rw [q]; exact ⟨o1, e1, fun v q => by rw [d1] at q; cases q⟩
    · rw [q]; exact ⟨o2, e2, fun v q => by rw [d2] at q; cases q⟩
  keep := fun i h h' st k => by
    obtain ⟨hz, hTI, ⟨x, y, hTO⟩, h1, h2⟩ := st
    exact ⟨k z (by simp) _ hz, k TI (by simp) _ hTI, ⟨x, y, k TO (by simp) _ hTO⟩, h1.at fun o q => k i1 (by simp) o q, h2.at fun o q => k i2 (by simp) o q⟩
  item := by
    intro X hP hw hK hc i pins s σ H E I hf st hg
    subst hP hw hK
    obtain ⟨hz, hTI, ⟨x0, y0, hTO⟩, h1, h2⟩ := st
    obtain ⟨xs, ys, x, y, hqx, hqy, hx, hy⟩ := hg
    obtain ⟨its, rv, p, _⟩ := I.list hqx
    obtain ⟨its2, rv2, p2, _⟩ := I.tuple hqy
    obtain ⟨u, hu, ru⟩ := rv.get hx
    obtain ⟨u2, hu2, ru2⟩ := rv2.get hy
    have hzl : z < s.heap.objs.size := Heap.lt_size hz
    have hh : X.A.in1.handled = none := I.ok.hd hc
    have D1 := Draws.list (prog := X.prog) (w := X.w) (A := X.A.in1) hh i1 a D.l1i1 its.toArray
    have D2 := tupDraws (prog := X.prog) (w := X.w) (A := X.A.in1) (its := its2.toArray) hh D.l2i2
    have n1 : i < its.toArray.size := by
      have := (List.getElem?_eq_some_iff.mp hu).1
      simpa using this
    have n2 : i < its2.toArray.size := by
      have := (List.getElem?_eq_some_iff.mp hu2).1
      simpa using this
    refine wpAny_pyNext_zipD2_item (zip_sep D) D1 D2 hz hTI hTO ⟨h1, p.isList⟩ ⟨h2, p2⟩ n1 n2 fun v1 v2 h' tk e1 e2 z' TO' h1' h2' hT hsz hk => ?_
    obtain rfl : u = v1 := by
      have e3 : its.toArray[i]? = some u := by simpa using hu
      exact Option.some.inj (e3.symm.trans e1)
    obtain rfl : u2 = v2 := by
      have e3 : its2.toArray[i]? = some u2 := by simpa using hu2
      exact Option.some.inj (e3.symm.trans e2)
    refine ⟨_, rfl, wpAny_letOwnedTupleGo_zip (s := { s with heap := h', toks := tk }) z' fun h'' z'' sb => ?_⟩
    have hT2 : h''.get? s.heap.objs.size = some { cls := .type "tuple", data := .seq #[u, u2] } := (sb.2 _ (Nat.ne_of_gt hzl)).trans hT
    have new : ObjOk X.prog X.w (upd H s.heap.objs.size (.tup [x, y])) h'' s.heap.objs.size (.tup [x, y]) :=
      ⟨by show 2 ≤ sizeLine; decide, [u, u2], .cons ru (.cons ru2 .nil), ⟨_, hT2, rfl, _, rfl⟩⟩
    have I1 : Inv X pins σ (upd H s.heap.objs.size (.tup [x, y])) { s with heap := h'', toks := tk } :=
      I.turnedNew (t' := tk) (ch := [z, TI, TO, i1, i2]) (fun c o hb q => (sb.2 c (fun q' => hb (by simp [q']))).trans (hk c o (fun q' => hb (by simp [q'])) (fun q' => hb (by simp [q'])) (fun q' => hb (by simp [q'])) (fun q' => hb (by simp [q'])) q)) hf (Nat.le_refl _) new
    refine ⟨.ref s.heap.objs.size, _, I1, rfl, ⟨_, x, y, rfl, I.hok.fresh (Nat.le_refl _), rfl, fun l hl => by rw [I.list_inj hl hqx]; exact hx, fun l hl => by rw [I.tuple_inj hl hqy]; exact hy⟩, ⟨z'', ?_, ⟨u, u2, ?_⟩, ?_, ?_⟩, fun c hcm => ?_⟩
    · exact (sb.2 _ D.TIz).trans (hk _ _ D.TIz D.TITO D.TIi1 D.TIi2 hTI)
    · exact (sb.2 _ D.TOz).trans TO'
    · exact h1'.1.at fun o q => (sb.2 _ D.i1z).trans q
    · exact Heap.IsTupleIter.at (show h'.IsTupleIter i2 b (i + 1) from h2'.1) fun o q => (sb.2 _ D.i2z).trans q
    · have hlt : c < s.heap.objs.size := by
        have e' : c = z ∨ c = TI ∨ c = TO ∨ c = i1 ∨ c = i2 := by simpa using hcm
        rcases e' with q | q | q | q | q
        · rw [q]; exact hzl
        · rw [q]; exact Heap.lt_size hTI
        · rw [q]; exact Heap.lt_size hTO
        · rw [q]; obtain ⟨_, e1, _⟩ := h1; exact Heap.lt_size e1
        · rw [q]; obtain ⟨_, e2, _⟩ := h2; exact Heap.lt_size e2
      rw [upd_ne (Nat.ne_of_lt hlt)]
      exact (hf c hcm).1
  done := by
    intro X hP hw hK hc i pins s σ H E I hf st hg
    subst hP hw hK
    obtain ⟨hz, hTI, ⟨x0, y0, hTO⟩, h1, h2⟩ := st
    obtain ⟨xs, ys, hqx, hqy, hend⟩ := hg
    obtain ⟨its, rv, p, _⟩ := I.list hqx
    obtain ⟨its2, rv2, p2, _⟩ := I.tuple hqy
    have l1 := rv.length
    have l2 := rv2.length
    have hh : X.A.in1.handled = none := I.ok.hd hc
    have D1 := Draws.list (prog := X.prog) (w := X.w) (A := X.A.in1) hh i1 a D.l1i1 its.toArray
    have D2 := tupDraws (prog := X.prog) (w := X.w) (A := X.A.in1) (its := its2.toArray) hh D.l2i2
    exact wpAny_pyNext_zipD2_end (zip_sep D) D1 D2 hz hTI hTO ⟨h1, p.isList⟩ ⟨h2, p2⟩ (by simp; omega) (by simp; omega) (.inl (by simp; omega)) fun h' tk hk => ⟨rfl, I.turnedL (t' := tk) (ch := [z, TI, TO, i1, i2]) (fun c o hb q =>
      hk c o (fun q' => hb (by simp [q'])) (fun q' => hb (by simp [q'])) (fun q' => hb (by simp [q'])) (fun q' => hb (by simp [q'])) q) hf⟩
  self := fun A i s Q E st h => wpAny_pyIter_zip st.1 h
def iZipN (K : PySem.W.Frag) (ta : TA) : TI := fun σ H R => ta σ H fun vs H1 => ∃ a b xs ys, vs = [.ref a, .ref b] ∧ SqT K H1 b ys ∧ ((SqL K H1 a xs ∧ R (ItzN K a b) H1) ∨ (SqT K H1 a xs ∧ R (RZ.ItzT K a b) H1))
theorem pi_zipN {X : Cx} {e e2 : Expr} {ta : TA} {p pos tpos : Pos} {elts : List Expr} {kk : Nat} (hg : Gl X "zip") (hm : X.mg "zip" = none) (ha : PA X [e, e2] ta)
    (hs : starEach [e, e2] X.env = (false, eval e X.env) :: starEach [e2] X.env := by rfl) (hpl : (backTo pos (starEach [e2] X.env)).any (·.1) = false := by rfl) :
    PI X (.Tuple elts kk tpos) (.Call (.Name "zip" p) [e, e2] [] pos) (iZipN X.K ta) := by
  refine ⟨fun pins s σ H R I h => ?_⟩
  refine Call_ (ld_blt I hg hm PyProof.Rows.boot_zip (PyProof.Rows.callWith_type1 (thn (ha.run pos pins s σ H _ I h) fun us s1 ⟨vs, H1, I1, r1, q1⟩ => ?_) hs hpl))
  obtain ⟨a, b, xs, ys, ex, hqy, q1⟩ := q1
  subst ex
  cases r1 with
  | cons r rr =>
    cases rr with
    | cons r' rr =>
      cases rr
      cases r
      cases r'
      have fresh5 : ∀ c, c ∈ [s1.heap.objs.size + 4, s1.heap.objs.size + 2, s1.heap.objs.size + 3, s1.heap.objs.size, s1.heap.objs.size + 1] → FpOk X pins H1 c := fun c hcm => by
        have e' : c = s1.heap.objs.size + 4 ∨ c = s1.heap.objs.size + 2 ∨ c = s1.heap.objs.size + 3 ∨ c = s1.heap.objs.size ∨ c = s1.heap.objs.size + 1 := by simpa using hcm
        have hle : s1.heap.objs.size ≤ c := by
          rcases e' with z | z | z | z | z
          · rw [z]; exact Nat.le_add_right _ _
          · rw [z]; exact Nat.le_add_right _ _
          · rw [z]; exact Nat.le_add_right _ _
          · rw [z]; exact Nat.le_refl _
          · rw [z]; exact Nat.le_add_right _ _
        exact I1.fpOk hle (I1.hok.fresh hle)
      obtain ⟨its2, rv2, p2, _⟩ := I1.tuple hqy
      obtain ⟨o2, ho2, _⟩ := id p2
      rcases q1 with ⟨hqx, q⟩ | ⟨hqx, q⟩
      · obtain ⟨its, rv, p1, _⟩ := I1.list hqx
        refine call_zn p1.isList (show s1.heap.IsTuple b its2.toArray from p2) fun h' hz hTI hTO h1 h2 hsz hk => wpAny_pyIter_zip hz ?_
        have I2 : Inv X pins σ H1 { s1 with heap := h' } := I1.kept (t' := s1.toks) hk
        exact ⟨s1.heap.objs.size + 4, [s1.heap.objs.size + 4, s1.heap.objs.size + 2, s1.heap.objs.size + 3, s1.heap.objs.size, s1.heap.objs.size + 1], _, _, H1, rfl, I2, turn_zn (PySem.W.ktu_apart s1.heap.objs.size a b p1.lt (Heap.lt_size ho2)), ⟨hz, hTI, ⟨_, _, hTO⟩, h1, h2⟩, fresh5, q⟩
      · obtain ⟨its, rv, p1, _⟩ := I1.tuple hqx
        obtain ⟨o1, ho1, _⟩ := id p1
        refine RZ.call_zipT (show s1.heap.IsTuple a its.toArray from p1) (show s1.heap.IsTuple b its2.toArray from p2) fun h' hz hTI hTO h1 h2 hsz hk => wpAny_pyIter_zip hz ?_
        have I2 : Inv X pins σ H1 { s1 with heap := h' } := I1.kept (t' := s1.toks) hk
        exact ⟨s1.heap.objs.size + 4, [s1.heap.objs.size + 4, s1.heap.objs.size + 2, s1.heap.objs.size + 3, s1.heap.objs.size, s1.heap.objs.size + 1], _, _, H1, rfl, I2, RZ.turn_zipT (PySem.W.ktu_apart s1.heap.objs.size a b (Heap.lt_size ho1) (Heap.lt_size ho2)), ⟨hz, hTI, ⟨_, _, hTO⟩, h1, h2⟩, fresh5, q⟩
variable {K : PySem.W.Frag}
theorem rd_zipN {ta : TA} {σ : L2.St} {H : Hp} {R : It → Hp → Prop} (h : ta σ H fun vs H1 => ∃ a b xs ys, vs = [.ref a, .ref b] ∧ SqT K H1 b ys ∧ ((SqL K H1 a xs ∧ R (ItzN K a b) H1) ∨ (SqT K H1 a xs ∧ R (RZ.ItzT K a b) H1))) : iZipN K ta σ H R := h
section
variable {α : Type} {R : Hp → V → α → Prop} {g : TG} {tt : TT} {te : TE} {vs : List Nat} {σ : L2.St} {H1 : Hp} {Qd : Addr → Hp → Prop} {f : Nat → Option α}
/-- a comprehension over zip of a list and a tuple or a tuple of the same length -/
theorem lc_zipN (hR : Mn R) {a b : Addr} {xs ys : List V} (hn : xs.length ≤ 1000) (hlen : xs.length = ys.length) (ha : Sq K H1 a xs) (hb : SqT K H1 b ys)
    (hs : ∀ i x y, xs[i]? = some x → ys[i]? = some y → Turn1 R H1 f i fun H' Q N => ∀ T, H' T = none → g (.ref T) (wipe σ vs) (upd H' T (.tup [x, y])) fun σ2 H2 => wipe σ2 vs = wipe σ vs ∧ tt σ2 H2 fun b H3 => if b = true then te σ2 H3 Q else N H3)
    (hd : ∀ D H', Lst R H1 D (upTo f xs.length) H' → Qd D H') {RR : It → Hp → Prop}
    (hRR : RR = fun J H1 => ∀ D, H1 D = none → ∃ W : Nat → Nat → Hp → Prop, (∃ m, W 0 m (upd H1 D (.lst []))) ∧ ∀ i m H, W i m H →
      (J.stop i H ∧ Qd D H) ∨ (J.go i H ∧ ∃ Nx : Hp → Prop, (∀ H', Nx H' → ∃ m', m' < m ∧ W (i + 1) m' H') ∧ ∀ x H', J.yld i H x H' → g x (wipe σ vs) H' fun σ2 H2 => wipe σ2 vs = wipe σ vs ∧ tt σ2 H2 fun b H3 =>
        if b = true then te σ2 H3 fun y H4 => ∃ acc, H4 D = some (.lst acc) ∧ acc.length < sizeLine ∧ Nx (upd H4 D (.lst (acc ++ [y]))) else Nx H3)) :
    (SqL K H1 a xs ∧ RR (ItzN K a b) H1) ∨ (SqT K H1 a xs ∧ RR (RZ.ItzT K a b) H1) := by
  subst hRR
  rcases ha with ha | ha
  · refine .inl ⟨ha, fun D nD => ?_⟩
    refine ⟨fun i m H => m = xs.length - i ∧ i ≤ xs.length ∧ Lst R H1 D (upTo f i) H, ⟨xs.length, by simp, Nat.zero_le _, lst_new nD⟩, ?_⟩
    rintro i m H ⟨rfl, hi, l⟩
    have qa := l.1.seq ha
    have qb := sqT_same l.1 hb
    by_cases hlt : i < xs.length
    · refine .inr ⟨⟨xs, ys, xs[i], ys[i], qa, qb, by simp [hlt], by simp⟩, Lst R H1 D (upTo f (i + 1)), fun H' p' => ⟨xs.length - (i + 1), by omega, rfl, hlt, p'⟩, fun x H' y => ?_⟩
      obtain ⟨T, x, y, rfl, nT, rfl, hx, hy⟩ := y
      exact Turn1.step (i := i) hR nD (by omega) (hs i x y (hx xs qa) (hy ys qb)) l T nT
    · have e : i = xs.length := by omega
      subst e
      exact .inl ⟨⟨xs, ys, qa, qb, rfl, by omega⟩, hd D H l⟩
  · refine .inr ⟨ha, fun D nD => ?_⟩
    refine ⟨fun i m H => m = xs.length - i ∧ i ≤ xs.length ∧ Lst R H1 D (upTo f i) H, ⟨xs.length, by simp, Nat.zero_le _, lst_new nD⟩, ?_⟩
    rintro i m H ⟨rfl, hi, l⟩
    have qa := sqT_same l.1 ha
    have qb := sqT_same l.1 hb
    by_cases hlt : i < xs.length
    · refine .inr ⟨⟨xs, ys, xs[i], ys[i], qa, qb, by simp [hlt], by simp⟩, Lst R H1 D (upTo f (i + 1)), fun H' p' => ⟨xs.length - (i + 1), by omega, rfl, hlt, p'⟩, fun x H' y => ?_⟩
      obtain ⟨T, x, y, rfl, nT, rfl, hx, hy⟩ := y
      exact Turn1.step (i := i) hR nD (by omega) (hs i x y (hx xs qa) (hy ys qb)) l T nT
    · have e : i = xs.length := by omega
      subst e
      exact .inl ⟨⟨xs, ys, qa, qb, .inl (Nat.le_refl _)⟩, hd D H l⟩
end
end My
namespace My
open PySem PySem.Spec PyProof.Rows L2
/-! ### a set made of a list of ints -/
abbrev bareSet (w : World) : Obj :=
  ⟨.type "set", none, .set #[] 0 (.fresh 0 0 (!w.params.followText "set-order")), #[]⟩
section
variable {P : Program} {w : World} {A : Around} {E : Value → Shared → Prop} {s : Shared}
/-- what the set's own __init__ comes to -/
def Filled (w : World) (s : Shared) (ns : List Int) (u : Value) (s' : Shared) : Prop :=
  u = .none ∧ ∃ (hp : Heap) (tk c : Nat), s' = { s with heap := hp, toks := tk } ∧
    SetR w hp s.heap.objs.size (fun j => decide (j ∈ ns)) c ∧ c ≤ ns.length ∧
    ∀ b o, s.heap.get? b = some o → hp.get? b = some o
theorem set_filled {l : Addr} {zs : Array Value} {ns : List Int} (nh : A.handled = none)
    (hl : s.heap.IsList l zs) (hi : IntsAre zs.toList ns) (room : ns.length + 1 < scanBound) :
    codeAny (model P w) A (.call (.builtin "set.__init__") ⟨[.ref s.heap.objs.size, .ref l], []⟩)
      (wants (Filled w s ns) E) { s with heap := s.heap.push (bareSet w) } := by
  have sz : zs.size = ns.length := by
    have := IntsAre.length hi
    rwa [Array.length_toList] at this
  have here : (s.heap.push (bareSet w)).get? s.heap.objs.size = some (bareSet w) :=
    Heap.get?_push_size _ rfl
  refine codeAny_call_builtin F.called_set.init.plain F.entry_set_init (check_set_init_1 ⟨_, here, rfl⟩ ?_)
  obtain ⟨⟨c1, d1, dt1, sl1⟩, at1, ec, k1, ed⟩ := hl
  dsimp only at ec ed
  subst ec ed
  have at2 : (s.heap.push (bareSet w)).get? l = some ⟨.type "list", d1, .seq zs k1, sl1⟩ :=
    Heap.get?_push_of_some _ at1
  have n1 := F.sub_list_set
  have n2 := F.sub_list_frozenset
  have n3 : (Value.type "list" == Value.type "dict") = false := by decide
  have isl : (s.heap.push (bareSet w)).IsList l zs := ⟨_, at2, rfl, k1, rfl⟩
  have lt : l < s.heap.objs.size := Heap.lt_size at1
  unfold Builtin.«set.__init__» noKeywords Builtin.Frozenset.updateFrom
  generalize ePI : pyIter = PI
  wp_walk
  subst ePI
  refine wpAny_pyIter_list isl (wpAny_bind (wpAny_runValue ?_))
  have nh3 : A.in1.in1.handled = none := by simp [nh]
  have sz1 : (s.heap.push (bareSet w)).objs.size = s.heap.objs.size + 1 := Heap.size_push ..
  have apart : l ≠ (s.heap.push (bareSet w)).objs.size := by
    rw [sz1]
    exact Nat.ne_of_lt (Nat.lt_succ_of_lt lt)
  have fresh : s.heap.objs.size ∉ [(s.heap.push (bareSet w)).objs.size, l] := by
    rw [sz1]
    intro hm
    rcases List.mem_cons.mp hm with z | z
    · exact absurd z (Nat.ne_of_lt (Nat.lt_succ_self _))
    · exact absurd (List.mem_singleton.mp z) (Nat.ne_of_gt lt)
  have each : ∀ (i : Nat) (v : Value), zs[i]? = some v → ∃ k t, ns[i]? = some k ∧ v = .int k t := fun i v hv => by
    have hn : i < ns.length := sz ▸ (Array.getElem?_eq_some_iff.mp hv).1
    obtain ⟨t, e⟩ := IntsAre.int_at hi i v ((Array.getElem?_toList ..).trans hv)
    refine ⟨ns[i], t, List.getElem?_eq_getElem hn, e.trans ?_⟩
    simp [List.getD_eq_getElem?_getD, List.getElem?_eq_getElem hn]
  have got : ((s.heap.push (bareSet w)).push ⟨.type "list_iterator", none, .fields #[.ref l, .int 0 0], #[]⟩).get? s.heap.objs.size = some (bareSet w) :=
    Heap.get?_push_of_some _ here
  refine set_update_ints ((Walks.list nh3 _ l apart zs).toS) s.heap.objs.size fresh ns sz room each (zs.size - 0) 0 _ (by omega)
    (Nat.zero_le _) ?z1 ?z0 fun s2 c mv hc hR => ?_
  case z1 => exact ⟨⟨_, Heap.get?_push_size _ rfl, rfl, rfl⟩, isl.push _⟩
  case z0 => exact ⟨0, Nat.le_refl 0, setR_new_at got⟩
  obtain ⟨hp2, gg, dr, tk, os2⟩ := s2
  have e1 : gg = s.gens := mv.gens
  have e2 : dr = s.drawn := mv.drawn
  have e3 : os2 = s.os := mv.os
  subst e1 e2 e3
  rw [sz] at hc
  show wpAny _ _ _ _ _ _
  refine wpAny_pure ?_
  show wpAny _ _ (ret Value.none) _ _ _
  refine wpAny_pure ⟨rfl, hp2, tk, c, rfl, hR, hc, fun b o e => ?_⟩
  have lb : b < s.heap.objs.size := Heap.lt_size e
  refine mv.heap b o (fun hm => ?_) (Heap.get?_push_of_some _ (Heap.get?_push_of_some _ e))
  rcases List.mem_cons.mp hm with z | hm
  · exact absurd z (Nat.ne_of_lt lb)
  · have z := List.mem_singleton.mp hm
    rw [sz1] at z
    exact absurd z (Nat.ne_of_lt (Nat.lt_succ_of_lt lb))
theorem set_of_list {l : Addr} {zs : Array Value} {ns : List Int} {Q : Value → Shared → Prop} (nh : A.handled = none)
    (hl : s.heap.IsList l zs) (hi : IntsAre zs.toList ns) (room : ns.length + 1 < scanBound)
    (h : ∀ (hp : Heap) (tk c : Nat), SetR w hp s.heap.objs.size (fun j => decide (j ∈ ns)) c → c ≤ ns.length →
      (∀ b o, s.heap.get? b = some o → hp.get? b = some o) → Q (.ref s.heap.objs.size) { s with heap := hp, toks := tk }) :
    wpAny (model P w) A (call (.type "set") [.ref l]) Q E s := by
  obtain ⟨c, tl, hmro⟩ := F.called_set.mro
  have g1 := F.called_set.made
  have g2 := F.called_set.sub
  have g3 := F.called_set.notType
  have g4 := F.called_set.canCreate
  have g5 := F.typeCall_set_1 (.ref l)
  refine wpAny_call (codeAny_of_tree ?_)
  show wpAny _ _ (callAny (.type "set") _) _ _ _
  refine wpAny_pure ⟨Code.quiet_builtin _ (by decide +kernel), codeAny_builtin F.entry_type_call ?_⟩
  rw [Around.under_plain (weight_type_call_type "set" [.ref l] []) rfl]
  repeat any_goals (first | assumption | wp_step)
  refine codeAny_mono (code_set_led1 (.ref l) (E := E)
    (Q₁ := fun obj s₁ => obj = .ref s.heap.objs.size ∧ s₁ = { s with heap := s.heap.push (bareSet w) }) ⟨rfl, rfl⟩) fun r s₁ hr => ?_
  cases r with
  | error e => exact hr
  | ok fl =>
    cases fl with
    | ret obj =>
      obtain ⟨rfl, rfl⟩ := hr
      have here : (s.heap.push (bareSet w)).get? s.heap.objs.size = some (bareSet w) := Heap.get?_push_size _ rfl
      have ty : Shared.TypeIs { s with heap := s.heap.push (bareSet w) } (.ref s.heap.objs.size) "set" := ⟨_, here, rfl⟩
      have g6 := F.called_set.init.lookup
      have g7 := F.called_set.init.bind (.ref s.heap.objs.size)
      repeat any_goals (first | assumption | wp_step)
      refine codeAny_mono (set_filled (E := E) (by simp [nh]) hl hi room) fun r₂ s₂ hr₂ => ?_
      cases r₂ with
      | error e => exact hr₂
      | ok fl₂ =>
        cases fl₂ with
        | ret r =>
          obtain ⟨rfl, hp, tk, c', rfl, f1, f2, f3⟩ := hr₂
          repeat any_goals (first | assumption | wp_step)
          exact h hp tk c' f1 f2 f3
        | _ => exact hr₂.elim
    | _ => exact hr.elim
end
/-- set(xs), xs a list of ints -/
def rSetOfI (K : PySem.W.Frag) (w : World) : List V → Hp → VK → Prop := fun xs H Q => ∃ (l : Addr) (ns : List Int), xs = [V.ref l] ∧ SqL K H l (ns.map V.int) ∧ ns.length ≤ 1000 ∧
  ∀ p c, H p = none → c ≤ ns.length → Q (.ref p) (upd H p (SetO w p (fun j => decide (j ∈ ns)) c))
theorem cr_setOfI {X : Cx} (hc : X.calm = true) : CallR X (.type "set") (rSetOfI X.K X.w) := by
  intro pins s σ H xs us Q I r h
  obtain ⟨l, ns, rfl, hq, hn, q⟩ := h
  rw [Vals.ref1 r]
  obtain ⟨its, rv, pl, hz⟩ := I.list hq
  refine set_of_list (I.ok.hd hc) pl.isList (by simpa using intsAre_of rv) (by unfold scanBound; omega) fun hp tk c hR cl kp => ?_
  exact ⟨.ref s.heap.objs.size, _, I.laid (t' := tk) kp (Nat.le_refl _) (setO_new hR), rfl, q _ c (I.hok.fresh (Nat.le_refl _)) cl⟩
end My
namespace My
open PySem PySem.Spec PyProof.Rows L2
theorem ints_of {ys : List V} {bs : List Nat} (h : Paired (fun (v : V) (b : Nat) => v = .int (b : Nat)) ys bs) : ys = (bs.map fun b : Nat => (b : Int)).map V.int := by
  induction h with
  | nil => rfl
  | cons h t ih => rw [h, ih]; rfl
theorem room1 {k : Nat} {A : Around} (r : Room k A) : A.units + 1 < cLine := by
  have := r.un
  omega
/-- ascending lists with the same members are the same -/
theorem asc_eq : ∀ {l m : List Int}, l.Pairwise (· < ·) → m.Pairwise (· < ·) → (∀ k, k ∈ l ↔ k ∈ m) → l = m
  | [], [], _, _, _ => rfl
  | [], b :: m, _, _, h => by
    have := (h b).mpr (by simp)
    cases this
  | a :: l, [], _, _, h => by
    have := (h a).mp (by simp)
    cases this
  | a :: l, b :: m, h1, h2, h => by
    rw [List.pairwise_cons] at h1 h2
    have e : a = b := by
      have x := (h a).mp (by simp)
      have y := (h b).mpr (by simp)
      rcases List.mem_cons.mp x with x | x
      · exact x
      · rcases List.mem_cons.mp y with y | y
        · exact y.symm
        · have := h1.1 b y
          have := h2.1 a x
          omega
    subst e
    rw [asc_eq h1.2 h2.2 fun k => ?_]
    constructor
    · intro hk
      have x := (h k).mp (by simp [hk])
      rcases List.mem_cons.mp x with x | x
      · have := h1.1 k hk
        omega
      · exact x
    · intro hk
      have x := (h k).mpr (by simp [hk])
      rcases List.mem_cons.mp x with x | x
      · have := h2.1 k hk
        omega
      · exact x
/-- so many unlike numbers below n are all of them -/
theorem nodup_le : ∀ (n : Nat) (l : List Nat), l.Nodup → (∀ x ∈ l, x < n) → l.length ≤ n
  | 0, l, _, h => by
    cases l with
    | nil => exact Nat.le_refl 0
    | cons a l => exact absurd (h a (by simp)) (Nat.not_lt_zero _)
  | n + 1, l, nd, h => by
    have ih := nodup_le n (l.filter fun x => decide (x ≠ n)) (nd.filter _) fun x hx => by
      rw [List.mem_filter, decide_eq_true_eq] at hx
      have := h x hx.1
      omega
    have c := List.nodup_iff_count.mp nd n
    have e := List.length_eq_countP_add_countP (p := fun x => decide (x ≠ n)) (l := l)
    rw [List.countP_eq_length_filter] at e
    have e2 : l.countP (fun x => decide ¬ decide (x ≠ n) = true) = l.count n := by
      unfold List.count
      congr 1
      funext x
      by_cases z : x = n <;> simp [z]
    omega
theorem all_there {n : Nat} {l : List Nat} (nd : l.Nodup) (h : ∀ x ∈ l, x < n) (hl : n ≤ l.length) {x : Nat} (hx : x < n) : x ∈ l := by
  apply Classical.byContradiction
  intro c
  have := nodup_le n (x :: l) (List.nodup_cons.mpr ⟨c, nd⟩) fun y hy => by
    rcases List.mem_cons.mp hy with rfl | z
    · exact hx
    · exact h y z
  rw [List.length_cons] at this
  omega
end My
namespace My
open PySem PySem.Spec PyProof.Rows L2
theorem sw_trueD {kx vx : Expr} {gs : List Comprehension} {scope : Scope} {pos py : Pos} {y : Str} {l : Nat} {env : Env} (hk : env.scope.kind = .function) (hy : env.scope.names.lookup y = some .local) (hl : (py.line == pos.line) = true)
    (ha : (scope.names.any fun (n, k) => n == y && (k == .local || k == .cell)) = false) : swapsWith (.DictComp kx vx gs scope pos) (some (.Name y py)) l env = pure true := by
  have ky : env.kindOf y = some .local := hy
  have hb : env.blockKind = .function := by unfold Env.blockKind; rw [hk]; rfl
  unfold swapsWith
  simp only [hb, ky, ha, Expr.pos, hl]
  rfl
section
variable {X : Cx}
/-- name = {..} on one line, the name a local -/
theorem ps_setDc {i : Nat} {y : Str} {py : Pos} {kx vx tg iter : Expr} {ifs : List Expr} {scope : Scope} {own : List (Str × Nat)} {pos spos : Pos} {wi : TI} {g : TG} {tt : TT} {tk tv : TE} (hc : X.calm = true) (hN : X.N.Nodup) (hy : X.N[i]? = some y) (hyl : X.env.scope.names.lookup y = some .local)
    (hsw : swapsWith (.DictComp kx vx [⟨tg, iter, ifs, 0⟩] scope pos) (some (.Name y py)) spos.line X.env = pure true) (hi : PI X tg iter wi) (ok : BlkOk X.N X.env.scope scope own)
    (hg : ∀ (s : Shared) (H : Hp) (C : Addr) (cl : List (Str × Addr)) (fp : List Addr), PG (X.blk s H scope (compEnvC scope cl C X.env) fp) tg g) (ht : ∀ (s : Shared) (H : Hp) (C : Addr) (cl : List (Str × Addr)) (fp : List Addr), PTs (X.blk s H scope (compEnvC scope cl C X.env) fp) ifs tt)
    (hk : ∀ (s : Shared) (H : Hp) (C : Addr) (cl : List (Str × Addr)) (fp : List Addr), PE (X.blk s H scope (compEnvC scope cl C X.env) fp) kx tk)
    (he : ∀ (s : Shared) (H : Hp) (C : Addr) (cl : List (Str × Addr)) (fp : List Addr), PE (X.blk s H scope (compEnvC scope cl C X.env) fp) vx tv) (hs : ∀ x, foldedSetIterable iter X.env x = pure x := by intro _; rfl) :
    PS X (.Assign [.Name y py] (.DictComp kx vx [⟨tg, iter, ifs, 0⟩] scope pos) spos) (tAsg (tDc wi g tt tk tv (own.map (·.2))) (gName i)) := by
  refine ⟨fun pins s σ H D I h => ?_⟩
  rw [exec_Assign_Name_used _ _ _ _ hsw]
  refine wpAny_bind (wpAny_standAt (wpAny_bind ?_))
  show wpAny _ X.A (do let _ ← comprehension (.DictComp kx vx [⟨tg, iter, ifs, 0⟩] scope pos) scope X.env (firstIterPos [⟨tg, iter, ifs, 0⟩] pos) newDict false (eval iter X.env) (some (assign (.Name y py) X.env))) _ _ s
  have h : tDc wi g tt tk tv (own.map (·.2)) σ H (fun x H1 => gName i x σ H1 D.nx) := h
  refine wpAny_bind (thn (dc_core (Qf := fun _ s' => SP X pins D .next s') hc hN I hi ok hg ht hk he hs h fun L C s' m H' I' q hn f => ?_) fun _ s' hq => wpAny_pure (wpAny_pure hq))
  show wpAny _ _ (assign (.Name y py) X.env (.ref L)) _ _ _
  refine wpAny_assign_Name (store_ok2 (v := V.ref L) I' hN hy (.inl hyl) rfl (fun s2 I2 ⟨a, sb, ha⟩ => ?_) (.inr hyl))
  obtain ⟨f0, f1, f2, f3, f4, f5⟩ := f
  have haC : C ≠ a := by
    rcases ha with z | z
    · rw [z]; exact f1
    · exact fun e => f4 y a z e.symm
  refine ⟨m, hn.sameBut sb haC, fun h3 sb3 => ?_⟩
  exact ⟨_, H', I2.turned (t' := s2.toks) (fun b o hb e => (sb3.2 b hb).trans e) f0 f1 f3 f4 f5, q⟩
end
end My
namespace My
open PySem PySem.Spec PyProof.Rows L2
variable {K : PySem.W.Frag}
theorem rd_dc {wi : TI} {g : TG} {tt : TT} {tk tv : TE} {vs : List Nat} {σ : L2.St} {H : Hp} {Q : VK} (h : wi σ H fun J H1 => ∀ D, H1 D = none → ∃ W : Nat → Nat → Hp → Prop, (∃ m, W 0 m (upd H1 D (.dK []))) ∧ ∀ i m H, W i m H →
    (J.stop i H ∧ Q (.ref D) H) ∨ (J.go i H ∧ ∃ Nx : Hp → Prop, (∀ H', Nx H' → ∃ m', m' < m ∧ W (i + 1) m' H') ∧ ∀ x H', J.yld i H x H' → g x (wipe σ vs) H' fun σ2 H2 => wipe σ2 vs = wipe σ vs ∧ tt σ2 H2 fun b H3 =>
      if b = true then tk σ2 H3 fun y H4 => tv σ2 H4 fun z H5 => ∃ kvs k, y = kV k ∧ H5 D = some (.dK kvs) ∧ kvs.length < sizeLine ∧ Nx (upd H5 D (.dK (putK kvs k z))) else Nx H3)) : tDc wi g tt tk tv vs σ H Q := h
theorem rd_dget {td ty : TE} {σ : L2.St} {H : Hp} {Q : VK} (h : td σ H fun x H1 => ty σ H1 fun y H2 => ∃ a v, x = .ref a ∧ DGet H2 a y (some v) ∧ Q v H2) : tDGet td ty σ H Q := h
theorem rd_din {td ty : TE} {σ : L2.St} {H : Hp} {Q : VK} (h : ty σ H fun y H1 => td σ H1 fun x H2 => ∃ a o, x = .ref a ∧ DGet H2 a y o ∧ Q (.bl o.isSome) H2) : tDIn ty td σ H Q := h
theorem rd_dnotin {td ty : TE} {σ : L2.St} {H : Hp} {Q : VK} (h : ty σ H fun y H1 => td σ H1 fun x H2 => ∃ a o, x = .ref a ∧ DGet H2 a y o ∧ Q (.bl (!o.isSome)) H2) : tDNotIn ty td σ H Q := h
theorem rd_dput {td ty tv : TE} {D : Ends} {σ : L2.St} {H : Hp} (h : tv σ H fun v H1 => td σ H1 fun x H2 => ty σ H2 fun y H3 => ∃ a H4, x = .ref a ∧ DPut H3 a y v H4 ∧ D.nx σ H4) : sDPut td ty tv D σ H := h
/-- over a list that stays -/
theorem dc_listO {a : Addr} {xs : List V} {g : TG} {tt : TT} {tk tv : TE} {vs : List Nat} {σ : L2.St} {H1 : Hp} {D : Addr} {Qd : Hp → Prop} (Pv : Nat → Hp → Prop)
    (h0 : Pv 0 (upd H1 D (.dK []))) (hl : ∀ i H, Pv i H → SqL K H a xs)
    (hs : ∀ i x H, xs[i]? = some x → Pv i H → g x (wipe σ vs) H fun σ2 H2 => wipe σ2 vs = wipe σ vs ∧ tt σ2 H2 fun b H3 =>
      if b = true then tk σ2 H3 fun y H4 => tv σ2 H4 fun z H5 => ∃ kvs k, y = kV k ∧ H5 D = some (.dK kvs) ∧ kvs.length < sizeLine ∧ Pv (i + 1) (upd H5 D (.dK (putK kvs k z))) else Pv (i + 1) H3) (hd : ∀ H, Pv xs.length H → Qd H) :
    ∃ W : Nat → Nat → Hp → Prop, (∃ m, W 0 m (upd H1 D (.dK []))) ∧ ∀ i m H, W i m H →
      ((Itl K a).stop i H ∧ Qd H) ∨ ((Itl K a).go i H ∧ ∃ Nx : Hp → Prop, (∀ H', Nx H' → ∃ m', m' < m ∧ W (i + 1) m' H') ∧ ∀ x H', (Itl K a).yld i H x H' → g x (wipe σ vs) H' fun σ2 H2 => wipe σ2 vs = wipe σ vs ∧ tt σ2 H2 fun b H3 =>
        if b = true then tk σ2 H3 fun y H4 => tv σ2 H4 fun z H5 => ∃ kvs k, y = kV k ∧ H5 D = some (.dK kvs) ∧ kvs.length < sizeLine ∧ Nx (upd H5 D (.dK (putK kvs k z))) else Nx H3) := by
  refine ⟨fun i k H => k + i = xs.length ∧ Pv i H, ⟨xs.length, rfl, h0⟩, fun i k H h => ?_⟩
  obtain ⟨hk, p⟩ := h
  have there := hl i H p
  rcases Nat.lt_or_ge i xs.length with lt | ge
  · refine .inr ⟨⟨xs, xs[i], there, List.getElem?_eq_getElem lt⟩, Pv (i + 1), fun H' p' => ⟨k - 1, by omega, by omega, p'⟩, fun x H' y => ?_⟩
    obtain ⟨e, y⟩ := y
    subst e
    exact hs i x _ (y xs there) p
  · have e : i = xs.length := by omega
    subst e
    exact .inl ⟨⟨xs, there, Nat.le_refl _⟩, hd H p⟩
theorem tps_putD {H H1 : Hp} {D : Addr} {kvs : List (Key × V)} {o : HO} (h : H D = some (.dK kvs)) : Tps H (upd H D o) := fun b xs hb => by
  rw [upd_ne (fun z => by
    rw [z, h] at hb
    cases hb)]
  exact hb
end My
namespace My
open PySem PySem.Spec PyProof.Rows L2
/-! ### dict(enumerate(list)) -/
def enumD (xs : List V) : List (Key × V) := (List.range xs.length).map fun i : Nat => ((Sum.inl (i : Int) : Key), xs.getD i .non)
def enumU (us : List Value) : List (Key × Value) := (List.range us.length).map fun i : Nat => ((Sum.inl (i : Int) : Key), us.getD i .none)
theorem enum_kv {xs : List V} {us : List Value} (r : Vals xs us) : KV (enumD xs) (enumU us) := by
  unfold enumD enumU KV
  rw [r.length]
  have h : ∀ l : List Nat, (∀ i ∈ l, i < us.length) → Paired (fun (p : Key × V) (q : Key × Value) => p.1 = q.1 ∧ RelV p.2 q.2) (l.map fun i : Nat => ((Sum.inl (i : Int) : Key), xs.getD i .non)) (l.map fun i : Nat => ((Sum.inl (i : Int) : Key), us.getD i .none)) := by
    intro l
    induction l with
    | nil => exact fun _ => .nil
    | cons a l ih =>
      intro h
      refine .cons ⟨rfl, ?_⟩ (ih fun i hi => h i (List.mem_cons_of_mem _ hi))
      have ha := h a (List.mem_cons_self ..)
      have ha' : a < xs.length := by rw [r.length]; exact ha
      obtain ⟨u, hu, ru⟩ := r.get (List.getElem?_eq_getElem ha')
      show RelV (xs.getD a .non) (us.getD a .none)
      rw [List.getD_eq_getElem?_getD, List.getD_eq_getElem?_getD, hu, List.getElem?_eq_getElem ha']
      exact ru
  exact h _ fun i hi => List.mem_range.mp hi
def tDictEnum (K : PySem.W.Frag) (te : TE) : TE := fun σ H Q => te σ H fun x H1 => ∃ a xs, x = .ref a ∧ SqL K H1 a xs ∧ ∀ p, H1 p = none → Q (.ref p) (upd H1 p (.dK (mergeK [] (enumD xs))))
theorem rd_dictEnum {K : PySem.W.Frag} {te : TE} {σ : L2.St} {H : Hp} {Q : VK} (h : te σ H fun x H1 => ∃ a xs, x = .ref a ∧ SqL K H1 a xs ∧ ∀ p, H1 p = none → Q (.ref p) (upd H1 p (.dK (mergeK [] (enumD xs))))) : tDictEnum K te σ H Q := h
section
variable {X : Cx}
theorem pe_dictEnum {e : Expr} {te : TE} {p p2 pos pos2 : Pos} (hc : X.calm = true) (hg : Gl X "dict") (hm : X.mg "dict" = none) (hg2 : Gl X "enumerate") (hm2 : X.mg "enumerate" = none) (he : PE X e te)
    (na : starEach [e] X.env = (false, eval e X.env) :: starEach [] X.env := by rfl)
    (nb : starEach [.Call (.Name "enumerate" p2) [e] [] pos2] X.env = (false, eval (.Call (.Name "enumerate" p2) [e] [] pos2) X.env) :: starEach [] X.env := by rfl) :
    PE X (.Call (.Name "dict" p) [.Call (.Name "enumerate" p2) [e] [] pos2] [] pos) (tDictEnum X.K te) := by
  refine ⟨fun pins s σ H Q I h => ?_⟩
  refine Call_ (ld_blt I hg hm PyProof.Rows.boot_dict (PyProof.Rows.callWith_type1 (args_cons ?_ nb) nb))
  refine Call_ (ld_blt I hg2 hm2 boot_enumerate (PyProof.Rows.callWith_type1 (one_arg he I h (fun v s2 x H2 I2 r q => ?_) na) na))
  obtain ⟨a, xs, rfl, hq, q⟩ := q
  cases r
  obtain ⟨its, rv, p', hz⟩ := I2.list hq
  refine call_enumerate_list p'.isList fun h' he' hit hsz hk => args_nil ?_
  have I3 : Inv X pins σ H2 { s2 with heap := h' } := I2.kept (t' := s2.toks) hk
  have hl : h'.IsList a its.toArray := p'.isList.at fun o x => hk _ o x
  have lt : a < s2.heap.objs.size := p'.lt
  refine PySem.call_dict_pairs (s := { s2 with heap := h' }) (knd := mixKind X.prog X.w) (kvs := enumU its) (PySem.PairArg.enumerate (prog := X.prog) (w := X.w) (s2.heap.objs.size + 1) s2.heap.objs.size a (Nat.succ_ne_self _) (Nat.ne_of_lt (Nat.lt_succ_of_lt lt)) (Nat.ne_of_lt lt) its.toArray) (I3.ok.hd hc) ⟨⟨_, he'⟩, hit, hl⟩ ⟨by simp [enumU], fun i key v hr => ?_⟩ (by have := rv.length; simp; omega) fun h2 tk hd' hk2 => ?_
  · obtain ⟨⟨t, rfl⟩, hv⟩ := hr
    have hv' : its[i]? = some v := by simpa using hv
    have hi := (List.getElem?_eq_some_iff.mp hv').1
    refine ⟨Sum.inl (i : Int), ?_, mixKind_int _ _ _ _⟩
    unfold enumU
    rw [List.getElem?_map, List.getElem?_range hi]
    show some ((Sum.inl (i : Int) : Key), its.getD i Value.none) = some _
    rw [List.getD_eq_getElem?_getD, hv']
    rfl
  · have hm : (h'.objs.size == sysModules) = false := beq_eq_false_iff_ne.mpr (Nat.ne_of_gt I3.big)
    have rel := enum_kv rv
    have hlen : (mergeK [] (enumD xs)).length ≤ sizeLine := by
      refine Nat.le_trans (length_mergeK _ []) ?_
      rw [List.length_nil, Nat.zero_add]
      unfold enumD
      rw [List.length_map, List.length_range]
      exact hz
    have kk : ∀ b o, b ∉ [s2.heap.objs.size + 1, s2.heap.objs.size] → h'.get? b = some o → h2.get? b = some o := hk2
    refine ⟨.ref h'.objs.size, upd H2 h'.objs.size (.dK (mergeK [] (enumD xs))), I2.laid (t' := tk) (fun b o e => kk b o (fun z => ?_) (hk b o e)) (by omega) (show ObjOk X.prog X.w _ _ _ (.dK (mergeK [] (enumD xs))) from ⟨hlen, hm, merged [] (enumU its), KV.merge rel .nil, hd'⟩), rfl, q _ (I2.hok.fresh (by omega))⟩
    have := Heap.lt_size e
    simp only [List.mem_cons, List.not_mem_nil, or_false] at z
    have hs : s2.heap.objs.size = s2.heap.objs.size := rfl
    rcases z with z | z
    · rw [z] at this
      exact absurd this (by simp)
    · rw [z] at this
      exact absurd this (by simp)
end
end My
namespace My
open PySem PySem.Spec PyProof.Rows L2
variable {K : PySem.W.Frag}
/-! ### dicts of numbered things: the keys, and what each holds -/
def dkv (js : List Nat) (g : Nat → V) : List (Key × V) := js.map fun j : Nat => ((Sum.inl (j : Int) : Key), g j)
abbrev ky (j : Nat) : Key := Sum.inl (j : Int)
theorem ky_inj {i j : Nat} (h : ky i = ky j) : i = j := by
  have e : (i : Int) = (j : Int) := by injection h
  omega
theorem dkv_len (js : List Nat) (g : Nat → V) : (dkv js g).length = js.length := List.length_map ..
theorem valV_dkv {g : Nat → V} {j : Nat} : ∀ {js : List Nat}, j ∈ js → valV (dkv js g) (ky j) = some (g j)
  | a :: js, h => by
    by_cases e : a = j
    · subst e
      exact valV_pos (p := (ky a, g a)) rfl
    · rw [show dkv (a :: js) g = (ky a, g a) :: dkv js g from rfl, valV_neg (fun z => e (ky_inj z))]
      rcases List.mem_cons.mp h with z | z
      · exact absurd z.symm e
      · exact valV_dkv z
theorem valV_dkvN {g : Nat → V} {j : Nat} : ∀ {js : List Nat}, ¬ j ∈ js → valV (dkv js g) (ky j) = none
  | [], _ => rfl
  | a :: js, h => by
    have e : ¬ ky a = ky j := fun z => h (by rw [ky_inj z]; exact List.mem_cons_self ..)
    rw [show dkv (a :: js) g = (ky a, g a) :: dkv js g from rfl, valV_neg (p := (ky a, g a)) e]
    exact valV_dkvN fun z => h (List.mem_cons_of_mem _ z)
def putG (g : Nat → V) (j : Nat) (v : V) : Nat → V := fun i => if i = j then v else g i
theorem putG_same {g : Nat → V} {j : Nat} {v : V} : putG g j v j = v := if_pos rfl
theorem putG_ne {g : Nat → V} {j i : Nat} {v : V} (h : i ≠ j) : putG g j v i = g i := if_neg h
theorem any_dkv {g : Nat → V} {j : Nat} : ∀ {js : List Nat}, ((dkv js g).any fun kv => decide (kv.1 = ky j)) = decide (j ∈ js)
  | [] => by simp [dkv]
  | a :: js => by
    rw [show dkv (a :: js) g = (ky a, g a) :: dkv js g from rfl, List.any_cons, any_dkv]
    by_cases e : a = j
    · subst e
      simp
    · have : ¬ ky a = ky j := fun z => e (ky_inj z)
      simp only [this, decide_false, Bool.false_or, List.mem_cons]
      simp [Ne.symm e]
theorem putK_old {g : Nat → V} {j : Nat} {v : V} {js : List Nat} (h : j ∈ js) : putK (dkv js g) (ky j) v = dkv js (putG g j v) := by
  unfold putK
  rw [any_dkv, if_pos (decide_eq_true h)]
  unfold dkv
  rw [List.map_map]
  refine List.map_congr_left fun i _ => ?_
  show (if ky i = ky j then (ky i, v) else (ky i, g i)) = (ky i, putG g j v i)
  by_cases e : i = j
  · subst e
    rw [if_pos rfl, putG_same]
  · rw [if_neg (fun z => e (ky_inj z)), putG_ne e]
theorem putK_add {g : Nat → V} {j : Nat} {v : V} {js : List Nat} (h : ¬ j ∈ js) : putK (dkv js g) (ky j) v = dkv (js ++ [j]) (putG g j v) := by
  unfold putK
  rw [any_dkv, if_neg (by simp [h])]
  unfold dkv
  rw [List.map_append]
  congr 1
  · refine List.map_congr_left fun i hi => ?_
    rw [putG_ne fun z => h (by rw [← z]; exact hi)]
  · show [(ky j, v)] = [(ky j, putG g j v j)]
    rw [putG_same]
theorem dkv_congr {g g' : Nat → V} {js : List Nat} (h : ∀ j ∈ js, g j = g' j) : dkv js g = dkv js g' := List.map_congr_left fun j hj => by rw [h j hj]
theorem merge_dkv {g : Nat → V} : ∀ (js ks : List Nat), (ks ++ js).Nodup → mergeK (dkv ks g) (dkv js g) = dkv (ks ++ js) g
  | [], ks, _ => by
    rw [List.append_nil]
    rfl
  | j :: js, ks, h => by
    have hn : ¬ j ∈ ks := fun z => by
      have := (List.nodup_append.mp h).2.2 j z j (List.mem_cons_self ..)
      exact this rfl
    show mergeK (putK (dkv ks g) (ky j) (g j)) (dkv js g) = _
    rw [putK_add hn, dkv_congr (g' := g) (js := ks ++ [j]) fun i _ => by
      unfold putG
      split
      · rename_i e
        rw [e]
      · rfl]
    have e : ks ++ [j] ++ js = ks ++ j :: js := by simp
    rw [← e] at h ⊢
    exact merge_dkv js (ks ++ [j]) h
theorem enumD_dkv (xs : List V) : mergeK [] (enumD xs) = dkv (List.range xs.length) fun i => xs.getD i .non := by
  have := merge_dkv (g := fun i => xs.getD i .non) (List.range xs.length) [] (by simpa using List.nodup_range)
  exact this
/-! ### locks -/
theorem lock_same {H H' : Hp} {d : Addr} {u : HO} {od : Obj} (h : H d = some u) (s : Same (upd H d (.frz od u)) H') : Same H (upd H' d u) := fun b o hb => by
  by_cases e : b = d
  · subst e
    rw [h] at hb
    cases hb
    exact upd_same
  · exact (upd_ne e).trans (s _ _ ((upd_ne e).trans hb))
theorem lock_off {H : Hp} {d : Addr} {u : HO} {od : Obj} : Fw d H (upd H d (.frz od u)) := fun _ _ n h => (upd_ne n).trans h
theorem unlock_tps {H' : Hp} {d : Addr} {u : HO} {od : Obj} (h : H' d = some (.frz od u)) : Tps H' (upd H' d u) := fun b xs hb => by
  refine (upd_ne fun e => ?_).trans hb
  rw [e, h] at hb
  cases hb
theorem lock_free {H : Hp} {d p : Addr} {u : HO} {od : Obj} (h : (upd H d (.frz od u)) p = none) : p ≠ d ∧ H p = none := by
  have n : p ≠ d := fun e => by
    rw [e, upd_same] at h
    cases h
  rw [upd_ne n] at h
  exact ⟨n, h⟩
theorem rd_lock {t : TS} {D : Ends} {σ : L2.St} {H : Hp} {d : Addr} {kvs : List (Key × V)} (hd : H d = some (.dK kvs))
    (h : ∀ od, t ⟨fun σ' H' => H' d = some (.frz od (.dK kvs)) ∧ D.nx σ' (upd H' d (.dK kvs)), fun v H' => H' d = some (.frz od (.dK kvs)) ∧ D.rt v (upd H' d (.dK kvs)), fun σ' H' => H' d = some (.frz od (.dK kvs)) ∧ D.bk σ' (upd H' d (.dK kvs)), fun σ' H' => H' d = some (.frz od (.dK kvs)) ∧ D.ct σ' (upd H' d (.dK kvs))⟩ σ (upd H d (.frz od (.dK kvs)))) : tLock t D σ H := ⟨d, _, hd, trivial, h⟩
theorem rd_lockE {t : TE} {σ : L2.St} {H : Hp} {Q : VK} {d : Addr} {kvs : List (Key × V)} (hd : H d = some (.dK kvs)) (h : ∀ od, t σ (upd H d (.frz od (.dK kvs))) fun v H' => H' d = some (.frz od (.dK kvs)) ∧ Q v (upd H' d (.dK kvs))) : tLockE t σ H Q := ⟨d, _, hd, trivial, h⟩
theorem rd_keys {td : TE} {σ : L2.St} {H : Hp} {R : It → Hp → Prop} (h : td σ H fun x H1 => ∃ d o, x = .ref d ∧ ((∃ kvs, H1 d = some (.frz o (.dK kvs)) ∧ R (Itk d o kvs) H1) ∨ ∃ kvs, H1 d = some (.frz o (.dT kvs)) ∧ R (Itkt d o kvs) H1)) : iKeys td σ H R := h
theorem rd_keysK {R : It → Hp → Prop} {H1 : Hp} {d : Addr} {o : Obj} {kvs : List (Key × V)} (h : H1 d = some (.frz o (.dK kvs))) (r : R (Itk d o kvs) H1) :
    ∃ d' o', (V.ref d) = .ref d' ∧ ((∃ kvs, H1 d' = some (.frz o' (.dK kvs)) ∧ R (Itk d' o' kvs) H1) ∨ ∃ kvs, H1 d' = some (.frz o' (.dT kvs)) ∧ R (Itkt d' o' kvs) H1) := ⟨d, o, rfl, .inl ⟨kvs, h, r⟩⟩
theorem rd_meth {C : Addr} {m : Str} {sp : Sp} {dvs : List V} {E : XK} {ta : TE} {t : TA} {σ : L2.St} {H : Hp} {Q : VK} (h : ta σ H fun x H1 => ∃ a dx fs, x = .ref a ∧ H1 a = some (.ins C dx fs) ∧ fs.lookup m = none ∧ t σ H1 fun vs H2 => sp (x :: (vs ++ dvs)) H2 Q E) : tMeth C m sp dvs E ta t σ H Q := h
theorem rd_dgetO {td ty tx : TE} {σ : L2.St} {H : Hp} {Q : VK} (h : td σ H fun x H1 => ∃ a, x = .ref a ∧ L2.IsD H1 a ∧ ty σ H1 fun y H2 => tx σ H2 fun z H3 => ∃ o, DGet H3 a y o ∧ Q (o.getD z) H3) : tDGet2 td ty tx σ H Q := h
theorem rd_lstRgT {ta : TE} {σ : L2.St} {H : Hp} {Q : VK} (h : ta σ H fun x H1 => ∃ n, x = .int n ∧ (RgOk 0 n ∧ ∀ q, H1 q = none → Q (.ref q) (upd H1 q (.lst (rgV 0 n))))) : tLstRg (tRg1 ta) σ H Q := h
def nvT (l : List Nat) : List V := l.map fun i : Nat => V.int (i : Nat)
theorem nvT_range (n : Nat) : rgV 0 (n : Int) = nvT (List.range n) := by
  unfold rgV nvT
  rw [show ((n : Int) - 0).toNat = n by omega]
  refine List.map_congr_left fun i _ => ?_
  rw [Int.zero_add]
/-! ### walks over the keys of a locked dict -/
section
variable {g : TG} {tb : TS} {D : Ends} {σ : L2.St} {H : Hp} {d : Addr} {od : Obj} {js : List Nat} {gv : Nat → V}
theorem key_at {i : Nat} {x : V} (y : ∃ k v, (dkv js gv)[i]? = some (k, v) ∧ x = kV k) : ∃ j, js[i]? = some j ∧ x = .int (j : Nat) := by
  obtain ⟨k, v, h, rfl⟩ := y
  unfold dkv at h
  rw [List.getElem?_map] at h
  cases e : js[i]? with
  | none =>
    rw [e] at h
    cases h
  | some j =>
    rw [e] at h
    cases h
    exact ⟨j, rfl, rfl⟩
theorem for_keys (Pv : Nat → L2.St → Hp → Prop) (h0 : Pv 0 σ H) (hl : ∀ i σ H, Pv i σ H → H d = some (.frz od (.dK (dkv js gv))))
    (hs : ∀ i j σ H, js[i]? = some j → Pv i σ H → g (.int (j : Nat)) σ H fun σ2 H2 => tb { D with nx := Pv (i + 1), ct := Pv (i + 1), bk := D.nx } σ2 H2) (hd : ∀ σ H, Pv js.length σ H → D.nx σ H) :
    ∃ W : Nat → Nat → L2.St → Hp → Prop, (∃ m, W 0 m σ H) ∧ ∀ i m σ H, W i m σ H →
      ((Itk d od (dkv js gv)).stop i H ∧ D.nx σ H) ∨ ((Itk d od (dkv js gv)).go i H ∧ ∃ N : L2.St → Hp → Prop, (∀ σ' H', N σ' H' → ∃ m', m' < m ∧ W (i + 1) m' σ' H') ∧ ∀ x H', (Itk d od (dkv js gv)).yld i H x H' → g x σ H' fun σ2 H2 => tb { D with nx := N, ct := N, bk := D.nx } σ2 H2) := by
  refine ⟨fun i m σ H => m = js.length - i ∧ i ≤ js.length ∧ Pv i σ H, ⟨js.length, by simp, Nat.zero_le _, h0⟩, ?_⟩
  rintro i m σ H ⟨rfl, hi, p⟩
  have q := hl i σ H p
  by_cases hlt : i < js.length
  · refine .inr ⟨⟨q, by rw [dkv_len]; exact hlt⟩, Pv (i + 1), fun σ' H' p' => ⟨js.length - (i + 1), by omega, rfl, hlt, p'⟩, fun x H' y => ?_⟩
    obtain ⟨rfl, y⟩ := y
    obtain ⟨j, hj, rfl⟩ := key_at y
    exact hs i j σ _ hj p
  · have e : i = js.length := by omega
    subst e
    exact .inl ⟨⟨q, by rw [dkv_len]; exact Nat.le_refl _⟩, hd σ H p⟩
end
section
variable {g : TG} {tt : TT} {tk tv te : TE} {vs : List Nat} {σ : L2.St} {H1 : Hp} {D d : Addr} {Qd : Hp → Prop} {od : Obj} {js : List Nat} {gv : Nat → V}
theorem dc_keys (Pv : Nat → Hp → Prop) (h0 : Pv 0 (upd H1 D (.dK []))) (hl : ∀ i H, Pv i H → H d = some (.frz od (.dK (dkv js gv))))
    (hs : ∀ i j H, js[i]? = some j → Pv i H → g (.int (j : Nat)) (wipe σ vs) H fun σ2 H2 => wipe σ2 vs = wipe σ vs ∧ tt σ2 H2 fun b H3 =>
      if b = true then tk σ2 H3 fun y H4 => tv σ2 H4 fun z H5 => ∃ kvs k, y = kV k ∧ H5 D = some (.dK kvs) ∧ kvs.length < sizeLine ∧ Pv (i + 1) (upd H5 D (.dK (putK kvs k z))) else Pv (i + 1) H3) (hd : ∀ H, Pv js.length H → Qd H) :
    ∃ W : Nat → Nat → Hp → Prop, (∃ m, W 0 m (upd H1 D (.dK []))) ∧ ∀ i m H, W i m H →
      ((Itk d od (dkv js gv)).stop i H ∧ Qd H) ∨ ((Itk d od (dkv js gv)).go i H ∧ ∃ Nx : Hp → Prop, (∀ H', Nx H' → ∃ m', m' < m ∧ W (i + 1) m' H') ∧ ∀ x H', (Itk d od (dkv js gv)).yld i H x H' → g x (wipe σ vs) H' fun σ2 H2 => wipe σ2 vs = wipe σ vs ∧ tt σ2 H2 fun b H3 =>
        if b = true then tk σ2 H3 fun y H4 => tv σ2 H4 fun z H5 => ∃ kvs k, y = kV k ∧ H5 D = some (.dK kvs) ∧ kvs.length < sizeLine ∧ Nx (upd H5 D (.dK (putK kvs k z))) else Nx H3) := by
  refine ⟨fun i m H => m = js.length - i ∧ i ≤ js.length ∧ Pv i H, ⟨js.length, by simp, Nat.zero_le _, h0⟩, ?_⟩
  rintro i m H ⟨rfl, hi, p⟩
  have q := hl i H p
  by_cases hlt : i < js.length
  · refine .inr ⟨⟨q, by rw [dkv_len]; exact hlt⟩, Pv (i + 1), fun H' p' => ⟨js.length - (i + 1), by omega, rfl, hlt, p'⟩, fun x H' y => ?_⟩
    obtain ⟨rfl, y⟩ := y
    obtain ⟨j, hj, rfl⟩ := key_at y
    exact hs i j _ hj p
  · have e : i = js.length := by omega
    subst e
    exact .inl ⟨⟨q, by rw [dkv_len]; exact Nat.le_refl _⟩, hd H p⟩
theorem dc_rng (Pv : Nat → Hp → Prop) {n : Nat} (h0 : Pv 0 (upd H1 D (.dK [])))
    (hs : ∀ i H, i < n → Pv i H → g (.int (0 + (i : Nat))) (wipe σ vs) H fun σ2 H2 => wipe σ2 vs = wipe σ vs ∧ tt σ2 H2 fun b H3 =>
      if b = true then tk σ2 H3 fun y H4 => tv σ2 H4 fun z H5 => ∃ kvs k, y = kV k ∧ H5 D = some (.dK kvs) ∧ kvs.length < sizeLine ∧ Pv (i + 1) (upd H5 D (.dK (putK kvs k z))) else Pv (i + 1) H3) (hd : ∀ H, Pv n H → Qd H) :
    ∃ W : Nat → Nat → Hp → Prop, (∃ m, W 0 m (upd H1 D (.dK []))) ∧ ∀ i m H, W i m H →
      ((Itr 0 n).stop i H ∧ Qd H) ∨ ((Itr 0 n).go i H ∧ ∃ Nx : Hp → Prop, (∀ H', Nx H' → ∃ m', m' < m ∧ W (i + 1) m' H') ∧ ∀ x H', (Itr 0 n).yld i H x H' → g x (wipe σ vs) H' fun σ2 H2 => wipe σ2 vs = wipe σ vs ∧ tt σ2 H2 fun b H3 =>
        if b = true then tk σ2 H3 fun y H4 => tv σ2 H4 fun z H5 => ∃ kvs k, y = kV k ∧ H5 D = some (.dK kvs) ∧ kvs.length < sizeLine ∧ Nx (upd H5 D (.dK (putK kvs k z))) else Nx H3) := by
  refine ⟨fun i m H => m = n - i ∧ i ≤ n ∧ Pv i H, ⟨n, by simp, Nat.zero_le _, h0⟩, ?_⟩
  rintro i m H ⟨rfl, hi, p⟩
  by_cases hlt : i < n
  · refine .inr ⟨hlt, Pv (i + 1), fun H' p' => ⟨n - (i + 1), by omega, rfl, hlt, p'⟩, fun x H' y => ?_⟩
    obtain ⟨rfl, rfl⟩ := y
    exact hs i _ hlt p
  · have e : i = n := by omega
    subst e
    exact .inl ⟨Nat.le_refl _, hd H p⟩
theorem lc_keys (Pv : Nat → Hp → Prop) (h0 : Pv 0 (upd H1 D (.lst []))) (hl : ∀ i H, Pv i H → H d = some (.frz od (.dK (dkv js gv))))
    (hs : ∀ i j H, js[i]? = some j → Pv i H → g (.int (j : Nat)) (wipe σ vs) H fun σ2 H2 => wipe σ2 vs = wipe σ vs ∧ tt σ2 H2 fun b H3 =>
      if b = true then te σ2 H3 fun y H4 => ∃ acc, H4 D = some (.lst acc) ∧ acc.length < sizeLine ∧ Pv (i + 1) (upd H4 D (.lst (acc ++ [y]))) else Pv (i + 1) H3) (hd : ∀ H, Pv js.length H → Qd H) :
    ∃ W : Nat → Nat → Hp → Prop, (∃ m, W 0 m (upd H1 D (.lst []))) ∧ ∀ i m H, W i m H →
      ((Itk d od (dkv js gv)).stop i H ∧ Qd H) ∨ ((Itk d od (dkv js gv)).go i H ∧ ∃ Nx : Hp → Prop, (∀ H', Nx H' → ∃ m', m' < m ∧ W (i + 1) m' H') ∧ ∀ x H', (Itk d od (dkv js gv)).yld i H x H' → g x (wipe σ vs) H' fun σ2 H2 => wipe σ2 vs = wipe σ vs ∧ tt σ2 H2 fun b H3 =>
        if b = true then te σ2 H3 fun y H4 => ∃ acc, H4 D = some (.lst acc) ∧ acc.length < sizeLine ∧ Nx (upd H4 D (.lst (acc ++ [y]))) else Nx H3) := by
  refine ⟨fun i m H => m = js.length - i ∧ i ≤ js.length ∧ Pv i H, ⟨js.length, by simp, Nat.zero_le _, h0⟩, ?_⟩
  rintro i m H ⟨rfl, hi, p⟩
  have q := hl i H p
  by_cases hlt : i < js.length
  · refine .inr ⟨⟨q, by rw [dkv_len]; exact hlt⟩, Pv (i + 1), fun H' p' => ⟨js.length - (i + 1), by omega, rfl, hlt, p'⟩, fun x H' y => ?_⟩
    obtain ⟨rfl, y⟩ := y
    obtain ⟨j, hj, rfl⟩ := key_at y
    exact hs i j _ hj p
  · have e : i = js.length := by omega
    subst e
    exact .inl ⟨⟨q, by rw [dkv_len]; exact Nat.le_refl _⟩, hd H p⟩
end
end My
namespace My
open PySem PySem.Spec PyProof.Rows L2
/-! ### min of a dict with numbers as keys -/
theorem argBest_min (f : Nat → Int) (bt : Nat → Nat → Bool) (hb : ∀ i j, bt i j = decide (f i < f j)) : ∀ m, PySem.argBest bt m ≤ m ∧ ∀ i, i ≤ m → f (PySem.argBest bt m) ≤ f i := by
  intro m
  induction m with
  | zero => exact ⟨Nat.le_refl _, fun i hi => by rw [show i = 0 by omega]; exact Int.le_refl _⟩
  | succ m ih =>
    obtain ⟨h1, h2⟩ := ih
    unfold PySem.argBest
    rw [hb]
    by_cases c : f (m + 1) < f (PySem.argBest bt m)
    · rw [if_pos (decide_eq_true c)]
      refine ⟨Nat.le_refl _, fun i hi => ?_⟩
      by_cases e : i = m + 1
      · rw [e]
        exact Int.le_refl _
      · have := h2 i (by omega)
        omega
    · rw [if_neg (by simpa using c)]
      refine ⟨by omega, fun i hi => ?_⟩
      by_cases e : i = m + 1
      · rw [e]
        omega
      · exact h2 i (by omega)
def rMinD : List V → Hp → VK → Prop := fun vs H Q => ∃ (d : Addr) (js : List Nat) (g : Nat → V), vs = [V.ref d] ∧ H d = some (.dK (dkv js g)) ∧ js ≠ [] ∧ ∀ m, m ∈ js → (∀ j ∈ js, m ≤ j) → Q (.int (m : Nat)) H
theorem cr_minD {X : Cx} (hc : X.calm = true) (hu : X.A.units + 64 < cLine) : CallR X (.builtin "min") rMinD := by
  intro pins s σ H vs us Q I r h
  obtain ⟨p, js, g, rfl, hk, hne, q⟩ := h
  obtain ⟨u, eu, rx⟩ := vals1 r
  subst eu
  obtain rfl : u = Value.ref p := rx
  obtain ⟨z, lo, vs, rk, hd⟩ := (show ObjOk X.prog X.w H s.heap p (.dK (dkv js g)) from I.hok p _ hk)
  obtain ⟨ep, hat⟩ := hd.dictAt
  have hl : (dkv js g).length = vs.length := Paired.length rk
  rw [dkv_len] at hl
  have hn : 0 < js.length := List.length_pos_iff.mpr hne
  have keyAt : ∀ (i : Nat) (v : Value), (∃ k x, vs[i]? = some (k, x) ∧ (mixKind X.prog X.w).is k v = true) → ∃ (j : Nat) (t : Tok), js[i]? = some j ∧ v = .int (j : Nat) t := fun i v hv => by
    obtain ⟨k, x, h1, h2⟩ := hv
    have e1 : ((dkv js g).map (·.1))[i]? = some k := by
      rw [KV.keys rk, List.getElem?_map, h1] <;> rfl
    unfold dkv at e1
    rw [List.map_map, List.getElem?_map] at e1
    cases e : js[i]? with
    | none =>
      rw [e] at e1
      cases e1
    | some j =>
      rw [e] at e1
      have ek : k = Sum.inl (j : Int) := (Option.some.inj e1).symm
      rw [ek] at h2
      obtain ⟨t, ht⟩ := (show ∃ t, v = Value.int j t from keyIs_rel (k := Sum.inl (j : Int)) h2)
      exact ⟨j, t, rfl, ht⟩
  obtain ⟨oI, St, hit, W, st0⟩ := (PySem.W.kdl_dict (knd := mixKind X.prog X.w) (kvs := vs) (ep := ep) lo).iter X.A.in1 s (I.ok.hd hc) hat
  refine PySem.call_min_walkH (hit _ _ ?_)
  refine ⟨_, _, _, _, _, _, _, s.heap, (fun i j => decide (((js.getD i 0 : Nat) : Int) < ((js.getD j 0 : Nat) : Int))), rfl, W.toS, st0, fun b hb => ?_, by omega, fun b o e hb => ?_, fun b o e => Heap.get?_push_of_some _ e, fun i j vi vj s' Q' E' hk' hi hj hq => ?_, fun v s' hP m => ?_⟩
  · show b < (s.heap.push _).objs.size
    rw [Heap.size_push]
    have lt := hat.lt_size
    rcases List.mem_cons.mp hb with rfl | hb
    · exact Nat.lt_succ_self _
    · rcases List.mem_cons.mp hb with rfl | hb
      · exact Nat.lt_succ_of_lt lt
      · cases hb
  · exact absurd (Heap.lt_size e) ((List.mem_singleton.mp hb) ▸ Nat.lt_irrefl _)
  · obtain ⟨a, ta, ha, rfl⟩ := keyAt i vi hi
    obtain ⟨b, tb, hb, rfl⟩ := keyAt j vj hj
    have hq : Q' (Value.bool (decide (((js.getD i 0 : Nat) : Int) < ((js.getD j 0 : Nat) : Int)))) s' := hq
    rw [List.getD_eq_getElem?_getD, List.getD_eq_getElem?_getD, ha, hb] at hq
    have dp : min (PyData.depth (.int (a : Nat))) (PyData.depth (.int (b : Nat))) ≤ 2 := by simp [PyData.depth]
    refine PySem.W.rcLt_alike (.int (a : Nat)) (.int (b : Nat)) X.A.in1 s' _ _ [] [] (.int _ _) (.int _ _) rfl (by simp) ?_ X.prog X.w E' Q' (by
      have e : PySem.W.dataLt (.int (a : Nat)) (.int (b : Nat)) = decide (((a : Nat) : Int) < ((b : Nat) : Int)) := by
        exact PySem.W.dataLt_int _ _
      rw [e]
      exact hq)
    show X.A.units + 1 + _ < _
    omega
  · obtain ⟨h', tk, rfl, hk'⟩ := PySem.W.moved_old rfl rfl m
    obtain ⟨j, t, hj, rfl⟩ := keyAt _ v hP
    obtain ⟨b1, b2⟩ := argBest_min (fun i => ((js.getD i 0 : Nat) : Int)) _ (fun _ _ => rfl) (vs.length - 1)
    refine ⟨.int (j : Nat), H, I.kept hk', ⟨_, rfl⟩, q j (List.mem_of_getElem? hj) fun k hk => ?_⟩
    obtain ⟨i, hi⟩ := List.getElem?_of_mem hk
    have hil := (List.getElem?_eq_some_iff.mp hi).1
    have := b2 i (by omega)
    simp only [List.getD_eq_getElem?_getD] at this
    rw [hi] at this
    simp only [List.getD_eq_getElem?_getD] at hj
    rw [hj] at this
    simp at this
    omega
end My
namespace My
open PySem PySem.Spec PyProof.Rows L2
def topS (i : Nat) : Stmt := PySem.Challenge.pw_rootstalls_k17_scales_judged.main.body.getD i (.Pass ⟨0, 0, 0, 0⟩)
abbrev s__wall : Stmt := topS 1
abbrev N__wall : List Str := ["k"]
theorem sc__wall : FnScope N__wall ["k"] (defScope s__wall) := ⟨rfl, rfl, rfl, by decide +kernel, rfl, by decide +kernel, by decide +kernel⟩
abbrev s_is_integer : Stmt := topS 11
abbrev N_is_integer : List Str := ["thing"]
theorem sc_is_integer : FnScope N_is_integer ["thing"] (defScope s_is_integer) := ⟨rfl, rfl, rfl, by decide +kernel, rfl, by decide +kernel, by decide +kernel⟩
abbrev s_is_row : Stmt := topS 12
abbrev N_is_row : List Str := ["thing"]
theorem sc_is_row : FnScope N_is_row ["thing"] (defScope s_is_row) := ⟨rfl, rfl, rfl, by decide +kernel, rfl, by decide +kernel, by decide +kernel⟩
abbrev s_is_fraction : Stmt := topS 13
abbrev N_is_fraction : List Str := ["thing", "top", "bottom"]
theorem sc_is_fraction : FnScope N_is_fraction ["thing"] (defScope s_is_fraction) := ⟨rfl, rfl, rfl, by decide +kernel, rfl, by decide +kernel, by decide +kernel⟩
abbrev s_is_amount : Stmt := topS 14
abbrev N_is_amount : List Str := ["thing"]
theorem sc_is_amount : FnScope N_is_amount ["thing"] (defScope s_is_amount) := ⟨rfl, rfl, rfl, by decide +kernel, rfl, by decide +kernel, by decide +kernel⟩
abbrev s_is_some : Stmt := topS 15
abbrev N_is_some : List Str := ["thing"]
theorem sc_is_some : FnScope N_is_some ["thing"] (defScope s_is_some) := ⟨rfl, rfl, rfl, by decide +kernel, rfl, by decide +kernel, by decide +kernel⟩
abbrev s_are_amounts : Stmt := topS 16
abbrev N_are_amounts : List Str := ["things", "number", "thing"]
theorem sc_are_amounts : FnScope N_are_amounts ["things", "number"] (defScope s_are_amounts) := ⟨rfl, rfl, rfl, by decide +kernel, rfl, by decide +kernel, by decide +kernel⟩
abbrev s_added : Stmt := topS 17
abbrev N_added : List Str := ["one", "other", "common", "part", "top", "shared"]
theorem sc_added : FnScope N_added ["one", "other"] (defScope s_added) := ⟨rfl, rfl, rfl, by decide +kernel, rfl, by decide +kernel, by decide +kernel⟩
abbrev s_negated : Stmt := topS 18
abbrev N_negated : List Str := ["one"]
theorem sc_negated : FnScope N_negated ["one"] (defScope s_negated) := ⟨rfl, rfl, rfl, by decide +kernel, rfl, by decide +kernel, by decide +kernel⟩
abbrev s_lessened : Stmt := topS 19
abbrev N_lessened : List Str := ["one", "other"]
theorem sc_lessened : FnScope N_lessened ["one", "other"] (defScope s_lessened) := ⟨rfl, rfl, rfl, by decide +kernel, rfl, by decide +kernel, by decide +kernel⟩
abbrev s_multiplied : Stmt := topS 20
abbrev N_multiplied : List Str := ["one", "other", "left", "right"]
theorem sc_multiplied : FnScope N_multiplied ["one", "other"] (defScope s_multiplied) := ⟨rfl, rfl, rfl, by decide +kernel, rfl, by decide +kernel, by decide +kernel⟩
abbrev s_divided : Stmt := topS 21
abbrev N_divided : List Str := ["one", "other"]
theorem sc_divided : FnScope N_divided ["one", "other"] (defScope s_divided) := ⟨rfl, rfl, rfl, by decide +kernel, rfl, by decide +kernel, by decide +kernel⟩
abbrev s_squared : Stmt := topS 22
abbrev N_squared : List Str := ["one"]
theorem sc_squared : FnScope N_squared ["one"] (defScope s_squared) := ⟨rfl, rfl, rfl, by decide +kernel, rfl, by decide +kernel, by decide +kernel⟩
abbrev s_summed : Stmt := topS 23
abbrev N_summed : List Str := ["fractions", "total", "one"]
theorem sc_summed : FnScope N_summed ["fractions"] (defScope s_summed) := ⟨rfl, rfl, rfl, by decide +kernel, rfl, by decide +kernel, by decide +kernel⟩
abbrev s_lies_below : Stmt := topS 24
abbrev N_lies_below : List Str := ["one", "other"]
theorem sc_lies_below : FnScope N_lies_below ["one", "other"] (defScope s_lies_below) := ⟨rfl, rfl, rfl, by decide +kernel, rfl, by decide +kernel, by decide +kernel⟩
abbrev s_is_stall : Stmt := topS 28
abbrev N_is_stall : List Str := ["wares", "thing", "one", "other", "kept", "other_kept", "root", "ware"]
theorem sc_is_stall : FnScope N_is_stall ["wares", "thing"] (defScope s_is_stall) := ⟨rfl, rfl, rfl, by decide +kernel, rfl, by decide +kernel, by decide +kernel⟩
abbrev s_hold_of : Stmt := topS 30
abbrev N_hold_of : List Str := ["stall", "ware"]
theorem sc_hold_of : FnScope N_hold_of ["stall", "ware"] (defScope s_hold_of) := ⟨rfl, rfl, rfl, by decide +kernel, rfl, by decide +kernel, by decide +kernel⟩
abbrev s_stalls_of : Stmt := topS 31
abbrev N_stalls_of : List Str := ["ware", "stalls", "stall"]
theorem sc_stalls_of : FnScope N_stalls_of ["ware", "stalls"] (defScope s_stalls_of) := ⟨rfl, rfl, rfl, by decide +kernel, rfl, by decide +kernel, by decide +kernel⟩
abbrev s_kept_of : Stmt := topS 32
abbrev N_kept_of : List Str := ["ware", "stalls", "stall"]
theorem sc_kept_of : FnScope N_kept_of ["ware", "stalls"] (defScope s_kept_of) := ⟨rfl, rfl, rfl, by decide +kernel, rfl, by decide +kernel, by decide +kernel⟩
abbrev s_held : Stmt := topS 33
abbrev N_held : List Str := ["web", "ware"]
theorem sc_held : FnScope N_held ["web"] (defScope s_held) := ⟨rfl, rfl, rfl, by decide +kernel, rfl, by decide +kernel, by decide +kernel⟩
abbrev s_roots : Stmt := topS 34
abbrev N_roots : List Str := ["web", "rows", "_", "stall", "one", "other", "row"]
theorem sc_roots : FnScope N_roots ["web"] (defScope s_roots) := ⟨rfl, rfl, rfl, by decide +kernel, rfl, by decide +kernel, by decide +kernel⟩
abbrev s_check_purse : Stmt := topS 36
abbrev N_check_purse : List Str := ["web", "purse"]
theorem sc_check_purse : FnScope N_check_purse ["web", "purse"] (defScope s_check_purse) := ⟨rfl, rfl, rfl, by decide +kernel, rfl, by decide +kernel, by decide +kernel⟩
abbrev s_check_wish : Stmt := topS 37
abbrev N_check_wish : List Str := ["web", "wish"]
theorem sc_check_wish : FnScope N_check_wish ["web", "wish"] (defScope s_check_wish) := ⟨rfl, rfl, rfl, by decide +kernel, rfl, by decide +kernel, by decide +kernel⟩
abbrev s_may_stay : Stmt := topS 40
abbrev N_may_stay : List Str := ["web", "purse", "wish", "stock", "ware"]
theorem sc_may_stay : FnScope N_may_stay ["web", "purse", "wish"] (defScope s_may_stay) := ⟨rfl, rfl, rfl, by decide +kernel, rfl, by decide +kernel, by decide +kernel⟩
abbrev s_table_of : Stmt := topS 41
abbrev N_table_of : List Str := ["web", "purse", "wish", "between", "wares", "slants", "ties", "other", "one"]
theorem sc_table_of : FnScope N_table_of ["web", "purse", "wish"] (defScope s_table_of) := ⟨rfl, rfl, rfl, by decide +kernel, rfl, by decide +kernel, by decide +kernel⟩
abbrev s_strike_row : Stmt := topS 42
abbrev N_strike_row : List Str := ["table", "order", "steps", "ware"]
theorem sc_strike_row : FnScope N_strike_row ["table", "order"] (defScope s_strike_row) := ⟨rfl, rfl, rfl, by decide +kernel, rfl, by decide +kernel, by decide +kernel⟩
abbrev s_are_some : Stmt := topS 44
abbrev N_are_some : List Str := ["things", "number", "thing"]
theorem sc_are_some : FnScope N_are_some ["things", "number"] (defScope s_are_some) := ⟨rfl, rfl, rfl, by decide +kernel, rfl, by decide +kernel, by decide +kernel⟩
abbrev s_filled_back : Stmt := topS 45
abbrev N_filled_back : List Str := ["steps", "amounts", "alone", "filled", "ware", "slant", "ties", "beside", "other"]
theorem sc_filled_back : FnScope N_filled_back ["steps", "amounts", "alone"] (defScope s_filled_back) := ⟨rfl, rfl, rfl, by decide +kernel, rfl, by decide +kernel, by decide +kernel⟩
abbrev s_in_order : Stmt := topS 46
abbrev N_in_order : List Str := ["filled", "ware"]
theorem sc_in_order : FnScope N_in_order ["filled"] (defScope s_in_order) := ⟨rfl, rfl, rfl, by decide +kernel, rfl, by decide +kernel, by decide +kernel⟩
abbrev s_struck_in_turn : Stmt := topS 47
abbrev N_struck_in_turn : List Str := ["web", "purse", "wish"]
theorem sc_struck_in_turn : FnScope N_struck_in_turn ["web", "purse", "wish"] (defScope s_struck_in_turn) := ⟨rfl, rfl, rfl, by decide +kernel, rfl, by decide +kernel, by decide +kernel⟩
abbrev s_scales : Stmt := topS 48
abbrev N_scales : List Str := ["web", "purse", "wish", "steps", "_", "wrong"]
theorem sc_scales : FnScope N_scales ["web", "purse", "wish"] (defScope s_scales) := ⟨rfl, rfl, rfl, by decide +kernel, rfl, by decide +kernel, by decide +kernel⟩
abbrev s_is_scales : Stmt := topS 49
abbrev N_is_scales : List Str := ["web", "purse", "wish", "thing", "stay", "between", "ware", "row", "other"]
theorem sc_is_scales : FnScope N_is_scales ["web", "purse", "wish", "thing"] (defScope s_is_scales) := ⟨rfl, rfl, rfl, by decide +kernel, rfl, by decide +kernel, by decide +kernel⟩
abbrev s_l_deck : Stmt := topS 51
abbrev N_l_deck : List Str := ["_law_script", "_law_cell"]
theorem sc_l_deck : FnScope N_l_deck ["_law_script"] (defScope s_l_deck) := ⟨rfl, rfl, rfl, by decide +kernel, rfl, by decide +kernel, by decide +kernel⟩
abbrev s_l_pick : Stmt := topS 52
abbrev N_l_pick : List Str := ["_law_deck_here", "_law_many", "_law_found", "_law_cells", "_law_cell", "_law_number"]
theorem sc_l_pick : FnScope N_l_pick ["_law_deck_here", "_law_many"] (defScope s_l_pick) := ⟨rfl, rfl, rfl, by decide +kernel, rfl, by decide +kernel, by decide +kernel⟩
abbrev s_l_divisor : Stmt := topS 53
abbrev N_l_divisor : List Str := ["_law_one", "_law_other", "_law_turn", "_law_rest"]
theorem sc_l_divisor : FnScope N_l_divisor ["_law_one", "_law_other"] (defScope s_l_divisor) := ⟨rfl, rfl, rfl, by decide +kernel, rfl, by decide +kernel, by decide +kernel⟩
abbrev s_l_made : Stmt := topS 54
abbrev N_l_made : List Str := ["_law_top", "_law_bottom", "_law_divisor_here"]
theorem sc_l_made : FnScope N_l_made ["_law_top", "_law_bottom"] (defScope s_l_made) := ⟨rfl, rfl, rfl, by decide +kernel, rfl, by decide +kernel, by decide +kernel⟩
abbrev s_l_added : Stmt := topS 55
abbrev N_l_added : List Str := ["_law_one", "_law_other"]
theorem sc_l_added : FnScope N_l_added ["_law_one", "_law_other"] (defScope s_l_added) := ⟨rfl, rfl, rfl, by decide +kernel, rfl, by decide +kernel, by decide +kernel⟩
abbrev s_l_taken : Stmt := topS 56
abbrev N_l_taken : List Str := ["_law_one", "_law_other"]
theorem sc_l_taken : FnScope N_l_taken ["_law_one", "_law_other"] (defScope s_l_taken) := ⟨rfl, rfl, rfl, by decide +kernel, rfl, by decide +kernel, by decide +kernel⟩
abbrev s_l_product : Stmt := topS 57
abbrev N_l_product : List Str := ["_law_one", "_law_other"]
theorem sc_l_product : FnScope N_l_product ["_law_one", "_law_other"] (defScope s_l_product) := ⟨rfl, rfl, rfl, by decide +kernel, rfl, by decide +kernel, by decide +kernel⟩
abbrev s_l_amount : Stmt := topS 58
abbrev N_l_amount : List Str := ["_law_deck_here"]
theorem sc_l_amount : FnScope N_l_amount ["_law_deck_here"] (defScope s_l_amount) := ⟨rfl, rfl, rfl, by decide +kernel, rfl, by decide +kernel, by decide +kernel⟩
abbrev s_l_stall : Stmt := topS 59
abbrev N_l_stall : List Str := ["_law_deck_here", "_law_wares", "_law_one", "_law_other", "_law_root", "_law_factor"]
theorem sc_l_stall : FnScope N_l_stall ["_law_deck_here", "_law_wares"] (defScope s_l_stall) := ⟨rfl, rfl, rfl, by decide +kernel, rfl, by decide +kernel, by decide +kernel⟩
abbrev s_l_held : Stmt := topS 60
abbrev N_l_held : List Str := ["_law_wares", "_law_stalls", "_law_found", "_law_ware", "_law_stall_here"]
theorem sc_l_held : FnScope N_l_held ["_law_wares", "_law_stalls"] (defScope s_l_held) := ⟨rfl, rfl, rfl, by decide +kernel, rfl, by decide +kernel, by decide +kernel⟩
abbrev s_l_pulls : Stmt := topS 61
abbrev N_l_pulls : List Str := ["_law_wares", "_law_stalls", "_law_scale", "_law_found", "_law_ware", "_law_stall_here"]
theorem sc_l_pulls : FnScope N_l_pulls ["_law_wares", "_law_stalls", "_law_scale"] (defScope s_l_pulls) := ⟨rfl, rfl, rfl, by decide +kernel, rfl, by decide +kernel, by decide +kernel⟩
abbrev s_l_edge : Stmt := topS 62
abbrev N_l_edge : List Str := ["_law_wares", "_law_stalls", "_law_purse", "_law_scale", "_law_pulls_here", "_law_here", "_law_more", "_law_wish", "_law_ware", "_law_left"]
theorem sc_l_edge : FnScope N_l_edge ["_law_wares", "_law_stalls", "_law_purse", "_law_scale"] (defScope s_l_edge) := ⟨rfl, rfl, rfl, by decide +kernel, rfl, by decide +kernel, by decide +kernel⟩
abbrev s_l_deep : Stmt := topS 63
abbrev N_l_deep : List Str := ["_law_deck_here", "_law_found", "_law_sort", "_law_turn"]
theorem sc_l_deep : FnScope N_l_deep ["_law_deck_here"] (defScope s_l_deep) := ⟨rfl, rfl, rfl, by decide +kernel, rfl, by decide +kernel, by decide +kernel⟩
abbrev s_l_changed : Stmt := topS 64
abbrev N_l_changed : List Str := ["_law_deck_here", "_law_web", "_law_thing", "_law_at", "_law_pair", "_law_step", "_law_odd", "_law_small", "_law_three", "_law_item", "_law_menu"]
theorem sc_l_changed : FnScope N_l_changed ["_law_deck_here", "_law_web", "_law_thing"] (defScope s_l_changed) := ⟨rfl, rfl, rfl, by decide +kernel, rfl, by decide +kernel, by decide +kernel⟩
abbrev s_l_are_some : Stmt := topS 65
abbrev N_l_are_some : List Str := ["_law_thing", "_law_wares", "_law_pair"]
theorem sc_l_are_some : FnScope N_l_are_some ["_law_thing", "_law_wares"] (defScope s_l_are_some) := ⟨rfl, rfl, rfl, by decide +kernel, rfl, by decide +kernel, by decide +kernel⟩
abbrev s_l_due : Stmt := topS 66
abbrev N_l_due : List Str := ["_law_web", "_law_purse", "_law_wish", "_law_thing", "_law_pulls_here", "_law_here", "_law_ware", "_law_stay"]
theorem sc_l_due : FnScope N_l_due ["_law_web", "_law_purse", "_law_wish", "_law_thing"] (defScope s_l_due) := ⟨rfl, rfl, rfl, by decide +kernel, rfl, by decide +kernel, by decide +kernel⟩
abbrev s_l_is_judged : Stmt := topS 67
abbrev N_l_is_judged : List Str := ["_law_web", "_law_purse", "_law_wish", "_law_thing"]
theorem sc_l_is_judged : FnScope N_l_is_judged ["_law_web", "_law_purse", "_law_wish", "_law_thing"] (defScope s_l_is_judged) := ⟨rfl, rfl, rfl, by decide +kernel, rfl, by decide +kernel, by decide +kernel⟩
abbrev s_l_word : Stmt := topS 68
abbrev N_l_word : List Str := ["_law_web", "_law_purse", "_law_wish", "_law_thing", "_law_word_here"]
theorem sc_l_word : FnScope N_l_word ["_law_web", "_law_purse", "_law_wish", "_law_thing"] (defScope s_l_word) := ⟨rfl, rfl, rfl, by decide +kernel, rfl, by decide +kernel, by decide +kernel⟩
abbrev s_law : Stmt := topS 69
abbrev N_law : List Str := ["_law_script", "_law_deck_here", "_law_turn", "_law_wares", "_law_many", "_law_stalls", "_law_index", "_law_web", "_law_purse", "_law_ware", "_law_wish", "_law_scale", "_law_more", "_law_edge_here", "_law_pair", "_law_found", "_law_thing", "_law_change", "_law_words"]
theorem sc_law : FnScope N_law ["_law_script"] (defScope s_law) := ⟨rfl, rfl, rfl, by decide +kernel, rfl, by decide +kernel, by decide +kernel⟩
abbrev s_Web_init : Stmt := inClass (topS 29) 0
abbrev N_Web_init : List Str := ["self", "wares", "stalls", "index", "stall"]
theorem sc_Web_init : FnScope N_Web_init ["self", "wares", "stalls"] (defScope s_Web_init) := ⟨rfl, rfl, rfl, by decide +kernel, rfl, by decide +kernel, by decide +kernel⟩
abbrev s_Table_init : Stmt := inClass (topS 39) 0
abbrev N_Table_init : List Str := ["self", "slants", "ties"]
theorem sc_Table_init : FnScope N_Table_init ["self", "slants", "ties"] (defScope s_Table_init) := ⟨rfl, rfl, rfl, by decide +kernel, rfl, by decide +kernel, by decide +kernel⟩
abbrev s_Table_wrong_sign : Stmt := inClass (topS 39) 1
abbrev N_Table_wrong_sign : List Str := ["self", "ware", "top"]
theorem sc_Table_wrong_sign : FnScope N_Table_wrong_sign ["self", "ware"] (defScope s_Table_wrong_sign) := ⟨rfl, rfl, rfl, by decide +kernel, rfl, by decide +kernel, by decide +kernel⟩
abbrev s_Table_behind : Stmt := inClass (topS 39) 2
abbrev N_Table_behind : List Str := ["self", "ware", "slant", "beside", "slants", "one", "ties", "share", "other", "root"]
theorem sc_Table_behind : FnScope N_Table_behind ["self", "ware"] (defScope s_Table_behind) := ⟨rfl, rfl, rfl, by decide +kernel, rfl, by decide +kernel, by decide +kernel⟩
abbrev s_Table_ties_without : Stmt := inClass (topS 39) 3
abbrev N_Table_ties_without : List Str := ["self", "one", "ware", "beside", "other"]
theorem sc_Table_ties_without : FnScope N_Table_ties_without ["self", "one", "ware"] (defScope s_Table_ties_without) := ⟨rfl, rfl, rfl, by decide +kernel, rfl, by decide +kernel, by decide +kernel⟩
structure Txt (K : PySem.W.Frag) (mg : Str → Option Value) (f__wall f_is_integer f_is_row f_is_fraction f_is_amount f_is_some f_are_amounts f_added f_negated f_lessened f_multiplied f_divided f_squared f_summed f_lies_below f_is_stall f_hold_of f_stalls_of f_kept_of f_held f_roots f_check_purse f_check_wish f_may_stay f_table_of f_strike_row f_are_some f_filled_back f_in_order f_struck_in_turn f_scales f_is_scales f_l_deck f_l_pick f_l_divisor f_l_made f_l_added f_l_taken f_l_product f_l_amount f_l_stall f_l_held f_l_pulls f_l_edge f_l_deep f_l_changed f_l_are_some f_l_due f_l_is_judged f_l_word f_law f_Web_init f_Table_init f_Table_wrong_sign f_Table_behind f_Table_ties_without c_BadPurse c_BadWish c_Table c_Web c_ONE c_ZERO : Addr) (d__wall d_is_integer d_is_row d_is_fraction d_is_amount d_is_some d_are_amounts d_added d_negated d_lessened d_multiplied d_divided d_squared d_summed d_lies_below d_is_stall d_hold_of d_stalls_of d_kept_of d_held d_roots d_check_purse d_check_wish d_may_stay d_table_of d_strike_row d_are_some d_filled_back d_in_order d_struck_in_turn d_scales d_is_scales d_l_deck d_l_pick d_l_divisor d_l_made d_l_added d_l_taken d_l_product d_l_amount d_l_stall d_l_held d_l_pulls d_l_edge d_l_deep d_l_changed d_l_are_some d_l_due d_l_is_judged d_l_word d_law d_Web_init d_Table_init d_Table_wrong_sign d_Table_behind d_Table_ties_without : FuncData) : Prop where
  z_abs : mg "abs" = none
  z_all : mg "all" = none
  z_bool : mg "bool" = none
  z_dict : mg "dict" = none
  z_enumerate : mg "enumerate" = none
  z_int : mg "int" = none
  z_isinstance : mg "isinstance" = none
  z_len : mg "len" = none
  z_list : mg "list" = none
  z_max : mg "max" = none
  z_min : mg "min" = none
  z_range : mg "range" = none
  z_reversed : mg "reversed" = none
  z_tuple : mg "tuple" = none
  m_gcd : mg "gcd" = some (.builtin "math.gcd")
  x_BadWish_BadPurse : PySem.W.subIn K (.ref c_BadWish) (.ref c_BadPurse) = some false
  c_BadPurse : ExC K mg "BadPurse" c_BadPurse
  c_BadWish : ExC K mg "BadWish" c_BadWish
  w_Table : WebC K mg "Table" c_Table f_Table_init
  n_Table_slants : NoAttr K c_Table "slants"
  n_Table_ties : NoAttr K c_Table "ties"
  w_Web : WebC K mg "Web" c_Web f_Web_init
  n_Web_wares : NoAttr K c_Web "wares"
  n_Web_stalls : NoAttr K c_Web "stalls"
  v_ONE : mg "ONE" = some (.ref c_ONE)
  t_ONE : SqT K (fun _ => none) c_ONE [.int 1, .int 1]
  v_ZERO : mg "ZERO" = some (.ref c_ZERO)
  t_ZERO : SqT K (fun _ => none) c_ZERO [.int 0, .int 1]
  v_MOST_STALLS : ∃ u, mg "MOST_STALLS" = some u ∧ RelV (.int 16) u
  v_MOST_WARES : ∃ u, mg "MOST_WARES" = some u ∧ RelV (.int 8) u
  g__wall : mg "_wall" = some (.ref f__wall)
  F__wall : Fun K "_wall" "_wall" s__wall f__wall d__wall
  k__wall : PySem.W.keepIn K (.ref f__wall) = true
  b__wall : Binds K d__wall ["k"] []
  g_is_integer : mg "is_integer" = some (.ref f_is_integer)
  F_is_integer : Fun K "is_integer" "is_integer" s_is_integer f_is_integer d_is_integer
  k_is_integer : PySem.W.keepIn K (.ref f_is_integer) = true
  b_is_integer : Binds K d_is_integer ["thing"] []
  g_is_row : mg "is_row" = some (.ref f_is_row)
  F_is_row : Fun K "is_row" "is_row" s_is_row f_is_row d_is_row
  k_is_row : PySem.W.keepIn K (.ref f_is_row) = true
  b_is_row : Binds K d_is_row ["thing"] []
  g_is_fraction : mg "is_fraction" = some (.ref f_is_fraction)
  F_is_fraction : Fun K "is_fraction" "is_fraction" s_is_fraction f_is_fraction d_is_fraction
  k_is_fraction : PySem.W.keepIn K (.ref f_is_fraction) = true
  b_is_fraction : Binds K d_is_fraction ["thing"] []
  g_is_amount : mg "is_amount" = some (.ref f_is_amount)
  F_is_amount : Fun K "is_amount" "is_amount" s_is_amount f_is_amount d_is_amount
  k_is_amount : PySem.W.keepIn K (.ref f_is_amount) = true
  b_is_amount : Binds K d_is_amount ["thing"] []
  g_is_some : mg "is_some" = some (.ref f_is_some)
  F_is_some : Fun K "is_some" "is_some" s_is_some f_is_some d_is_some
  k_is_some : PySem.W.keepIn K (.ref f_is_some) = true
  b_is_some : Binds K d_is_some ["thing"] []
  g_are_amounts : mg "are_amounts" = some (.ref f_are_amounts)
  F_are_amounts : Fun K "are_amounts" "are_amounts" s_are_amounts f_are_amounts d_are_amounts
  k_are_amounts : PySem.W.keepIn K (.ref f_are_amounts) = true
  b_are_amounts : Binds K d_are_amounts ["things", "number"] []
  g_added : mg "added" = some (.ref f_added)
  F_added : Fun K "added" "added" s_added f_added d_added
  k_added : PySem.W.keepIn K (.ref f_added) = true
  b_added : Binds K d_added ["one", "other"] []
  g_negated : mg "negated" = some (.ref f_negated)
  F_negated : Fun K "negated" "negated" s_negated f_negated d_negated
  k_negated : PySem.W.keepIn K (.ref f_negated) = true
  b_negated : Binds K d_negated ["one"] []
  g_lessened : mg "lessened" = some (.ref f_lessened)
  F_lessened : Fun K "lessened" "lessened" s_lessened f_lessened d_lessened
  k_lessened : PySem.W.keepIn K (.ref f_lessened) = true
  b_lessened : Binds K d_lessened ["one", "other"] []
  g_multiplied : mg "multiplied" = some (.ref f_multiplied)
  F_multiplied : Fun K "multiplied" "multiplied" s_multiplied f_multiplied d_multiplied
  k_multiplied : PySem.W.keepIn K (.ref f_multiplied) = true
  b_multiplied : Binds K d_multiplied ["one", "other"] []
  g_divided : mg "divided" = some (.ref f_divided)
  F_divided : Fun K "divided" "divided" s_divided f_divided d_divided
  k_divided : PySem.W.keepIn K (.ref f_divided) = true
  b_divided : Binds K d_divided ["one", "other"] []
  g_squared : mg "squared" = some (.ref f_squared)
  F_squared : Fun K "squared" "squared" s_squared f_squared d_squared
  k_squared : PySem.W.keepIn K (.ref f_squared) = true
  b_squared : Binds K d_squared ["one"] []
  g_summed : mg "summed" = some (.ref f_summed)
  F_summed : Fun K "summed" "summed" s_summed f_summed d_summed
  k_summed : PySem.W.keepIn K (.ref f_summed) = true
  b_summed : Binds K d_summed ["fractions"] []
  g_lies_below : mg "lies_below" = some (.ref f_lies_below)
  F_lies_below : Fun K "lies_below" "lies_below" s_lies_below f_lies_below d_lies_below
  k_lies_below : PySem.W.keepIn K (.ref f_lies_below) = true
  b_lies_below : Binds K d_lies_below ["one", "other"] []
  g_is_stall : mg "is_stall" = some (.ref f_is_stall)
  F_is_stall : Fun K "is_stall" "is_stall" s_is_stall f_is_stall d_is_stall
  k_is_stall : PySem.W.keepIn K (.ref f_is_stall) = true
  b_is_stall : Binds K d_is_stall ["wares", "thing"] []
  g_hold_of : mg "hold_of" = some (.ref f_hold_of)
  F_hold_of : Fun K "hold_of" "hold_of" s_hold_of f_hold_of d_hold_of
  k_hold_of : PySem.W.keepIn K (.ref f_hold_of) = true
  b_hold_of : Binds K d_hold_of ["stall", "ware"] []
  g_stalls_of : mg "stalls_of" = some (.ref f_stalls_of)
  F_stalls_of : Fun K "stalls_of" "stalls_of" s_stalls_of f_stalls_of d_stalls_of
  k_stalls_of : PySem.W.keepIn K (.ref f_stalls_of) = true
  b_stalls_of : Binds K d_stalls_of ["ware", "stalls"] []
  g_kept_of : mg "kept_of" = some (.ref f_kept_of)
  F_kept_of : Fun K "kept_of" "kept_of" s_kept_of f_kept_of d_kept_of
  k_kept_of : PySem.W.keepIn K (.ref f_kept_of) = true
  b_kept_of : Binds K d_kept_of ["ware", "stalls"] []
  g_held : mg "held" = some (.ref f_held)
  F_held : Fun K "held" "held" s_held f_held d_held
  k_held : PySem.W.keepIn K (.ref f_held) = true
  b_held : Binds K d_held ["web"] []
  g_roots : mg "roots" = some (.ref f_roots)
  F_roots : Fun K "roots" "roots" s_roots f_roots d_roots
  k_roots : PySem.W.keepIn K (.ref f_roots) = true
  b_roots : Binds K d_roots ["web"] []
  g_check_purse : mg "check_purse" = some (.ref f_check_purse)
  F_check_purse : Fun K "check_purse" "check_purse" s_check_purse f_check_purse d_check_purse
  k_check_purse : PySem.W.keepIn K (.ref f_check_purse) = true
  b_check_purse : Binds K d_check_purse ["web", "purse"] []
  g_check_wish : mg "check_wish" = some (.ref f_check_wish)
  F_check_wish : Fun K "check_wish" "check_wish" s_check_wish f_check_wish d_check_wish
  k_check_wish : PySem.W.keepIn K (.ref f_check_wish) = true
  b_check_wish : Binds K d_check_wish ["web", "wish"] []
  g_may_stay : mg "may_stay" = some (.ref f_may_stay)
  F_may_stay : Fun K "may_stay" "may_stay" s_may_stay f_may_stay d_may_stay
  k_may_stay : PySem.W.keepIn K (.ref f_may_stay) = true
  b_may_stay : Binds K d_may_stay ["web", "purse", "wish"] []
  g_table_of : mg "table_of" = some (.ref f_table_of)
  F_table_of : Fun K "table_of" "table_of" s_table_of f_table_of d_table_of
  k_table_of : PySem.W.keepIn K (.ref f_table_of) = true
  b_table_of : Binds K d_table_of ["web", "purse", "wish"] []
  g_strike_row : mg "strike_row" = some (.ref f_strike_row)
  F_strike_row : Fun K "strike_row" "strike_row" s_strike_row f_strike_row d_strike_row
  k_strike_row : PySem.W.keepIn K (.ref f_strike_row) = true
  b_strike_row : Binds K d_strike_row ["table", "order"] []
  g_are_some : mg "are_some" = some (.ref f_are_some)
  F_are_some : Fun K "are_some" "are_some" s_are_some f_are_some d_are_some
  k_are_some : PySem.W.keepIn K (.ref f_are_some) = true
  b_are_some : Binds K d_are_some ["things", "number"] []
  g_filled_back : mg "filled_back" = some (.ref f_filled_back)
  F_filled_back : Fun K "filled_back" "filled_back" s_filled_back f_filled_back d_filled_back
  k_filled_back : PySem.W.keepIn K (.ref f_filled_back) = true
  b_filled_back : Binds K d_filled_back ["steps", "amounts", "alone"] []
  g_in_order : mg "in_order" = some (.ref f_in_order)
  F_in_order : Fun K "in_order" "in_order" s_in_order f_in_order d_in_order
  k_in_order : PySem.W.keepIn K (.ref f_in_order) = true
  b_in_order : Binds K d_in_order ["filled"] []
  g_struck_in_turn : mg "struck_in_turn" = some (.ref f_struck_in_turn)
  F_struck_in_turn : Fun K "struck_in_turn" "struck_in_turn" s_struck_in_turn f_struck_in_turn d_struck_in_turn
  k_struck_in_turn : PySem.W.keepIn K (.ref f_struck_in_turn) = true
  b_struck_in_turn : Binds K d_struck_in_turn ["web", "purse", "wish"] []
  g_scales : mg "scales" = some (.ref f_scales)
  F_scales : Fun K "scales" "scales" s_scales f_scales d_scales
  k_scales : PySem.W.keepIn K (.ref f_scales) = true
  b_scales : Binds K d_scales ["web", "purse", "wish"] []
  g_is_scales : mg "is_scales" = some (.ref f_is_scales)
  F_is_scales : Fun K "is_scales" "is_scales" s_is_scales f_is_scales d_is_scales
  k_is_scales : PySem.W.keepIn K (.ref f_is_scales) = true
  b_is_scales : Binds K d_is_scales ["web", "purse", "wish", "thing"] []
  g_l_deck : mg "_law_deck" = some (.ref f_l_deck)
  F_l_deck : Fun K "_law_deck" "_law_deck" s_l_deck f_l_deck d_l_deck
  k_l_deck : PySem.W.keepIn K (.ref f_l_deck) = true
  b_l_deck : Binds K d_l_deck ["_law_script"] []
  g_l_pick : mg "_law_pick" = some (.ref f_l_pick)
  F_l_pick : Fun K "_law_pick" "_law_pick" s_l_pick f_l_pick d_l_pick
  k_l_pick : PySem.W.keepIn K (.ref f_l_pick) = true
  b_l_pick : Binds K d_l_pick ["_law_deck_here", "_law_many"] []
  g_l_divisor : mg "_law_divisor" = some (.ref f_l_divisor)
  F_l_divisor : Fun K "_law_divisor" "_law_divisor" s_l_divisor f_l_divisor d_l_divisor
  k_l_divisor : PySem.W.keepIn K (.ref f_l_divisor) = true
  b_l_divisor : Binds K d_l_divisor ["_law_one", "_law_other"] []
  g_l_made : mg "_law_made" = some (.ref f_l_made)
  F_l_made : Fun K "_law_made" "_law_made" s_l_made f_l_made d_l_made
  k_l_made : PySem.W.keepIn K (.ref f_l_made) = true
  b_l_made : Binds K d_l_made ["_law_top", "_law_bottom"] []
  g_l_added : mg "_law_added" = some (.ref f_l_added)
  F_l_added : Fun K "_law_added" "_law_added" s_l_added f_l_added d_l_added
  k_l_added : PySem.W.keepIn K (.ref f_l_added) = true
  b_l_added : Binds K d_l_added ["_law_one", "_law_other"] []
  g_l_taken : mg "_law_taken" = some (.ref f_l_taken)
  F_l_taken : Fun K "_law_taken" "_law_taken" s_l_taken f_l_taken d_l_taken
  k_l_taken : PySem.W.keepIn K (.ref f_l_taken) = true
  b_l_taken : Binds K d_l_taken ["_law_one", "_law_other"] []
  g_l_product : mg "_law_product" = some (.ref f_l_product)
  F_l_product : Fun K "_law_product" "_law_product" s_l_product f_l_product d_l_product
  k_l_product : PySem.W.keepIn K (.ref f_l_product) = true
  b_l_product : Binds K d_l_product ["_law_one", "_law_other"] []
  g_l_amount : mg "_law_amount" = some (.ref f_l_amount)
  F_l_amount : Fun K "_law_amount" "_law_amount" s_l_amount f_l_amount d_l_amount
  k_l_amount : PySem.W.keepIn K (.ref f_l_amount) = true
  b_l_amount : Binds K d_l_amount ["_law_deck_here"] []
  g_l_stall : mg "_law_stall" = some (.ref f_l_stall)
  F_l_stall : Fun K "_law_stall" "_law_stall" s_l_stall f_l_stall d_l_stall
  k_l_stall : PySem.W.keepIn K (.ref f_l_stall) = true
  b_l_stall : Binds K d_l_stall ["_law_deck_here", "_law_wares"] []
  g_l_held : mg "_law_held" = some (.ref f_l_held)
  F_l_held : Fun K "_law_held" "_law_held" s_l_held f_l_held d_l_held
  k_l_held : PySem.W.keepIn K (.ref f_l_held) = true
  b_l_held : Binds K d_l_held ["_law_wares", "_law_stalls"] []
  g_l_pulls : mg "_law_pulls" = some (.ref f_l_pulls)
  F_l_pulls : Fun K "_law_pulls" "_law_pulls" s_l_pulls f_l_pulls d_l_pulls
  k_l_pulls : PySem.W.keepIn K (.ref f_l_pulls) = true
  b_l_pulls : Binds K d_l_pulls ["_law_wares", "_law_stalls", "_law_scale"] []
  g_l_edge : mg "_law_edge" = some (.ref f_l_edge)
  F_l_edge : Fun K "_law_edge" "_law_edge" s_l_edge f_l_edge d_l_edge
  k_l_edge : PySem.W.keepIn K (.ref f_l_edge) = true
  b_l_edge : Binds K d_l_edge ["_law_wares", "_law_stalls", "_law_purse", "_law_scale"] []
  g_l_deep : mg "_law_deep" = some (.ref f_l_deep)
  F_l_deep : Fun K "_law_deep" "_law_deep" s_l_deep f_l_deep d_l_deep
  k_l_deep : PySem.W.keepIn K (.ref f_l_deep) = true
  b_l_deep : Binds K d_l_deep ["_law_deck_here"] []
  g_l_changed : mg "_law_changed" = some (.ref f_l_changed)
  F_l_changed : Fun K "_law_changed" "_law_changed" s_l_changed f_l_changed d_l_changed
  k_l_changed : PySem.W.keepIn K (.ref f_l_changed) = true
  b_l_changed : Binds K d_l_changed ["_law_deck_here", "_law_web", "_law_thing"] []
  g_l_are_some : mg "_law_are_some" = some (.ref f_l_are_some)
  F_l_are_some : Fun K "_law_are_some" "_law_are_some" s_l_are_some f_l_are_some d_l_are_some
  k_l_are_some : PySem.W.keepIn K (.ref f_l_are_some) = true
  b_l_are_some : Binds K d_l_are_some ["_law_thing", "_law_wares"] []
  g_l_due : mg "_law_due" = some (.ref f_l_due)
  F_l_due : Fun K "_law_due" "_law_due" s_l_due f_l_due d_l_due
  k_l_due : PySem.W.keepIn K (.ref f_l_due) = true
  b_l_due : Binds K d_l_due ["_law_web", "_law_purse", "_law_wish", "_law_thing"] []
  g_l_is_judged : mg "_law_is_judged" = some (.ref f_l_is_judged)
  F_l_is_judged : Fun K "_law_is_judged" "_law_is_judged" s_l_is_judged f_l_is_judged d_l_is_judged
  k_l_is_judged : PySem.W.keepIn K (.ref f_l_is_judged) = true
  b_l_is_judged : Binds K d_l_is_judged ["_law_web", "_law_purse", "_law_wish", "_law_thing"] []
  g_l_word : mg "_law_word" = some (.ref f_l_word)
  F_l_word : Fun K "_law_word" "_law_word" s_l_word f_l_word d_l_word
  k_l_word : PySem.W.keepIn K (.ref f_l_word) = true
  b_l_word : Binds K d_l_word ["_law_web", "_law_purse", "_law_wish", "_law_thing"] []
  g_law : mg "law" = some (.ref f_law)
  F_law : Fun K "law" "law" s_law f_law d_law
  k_law : PySem.W.keepIn K (.ref f_law) = true
  b_law : Binds K d_law ["_law_script"] []
  F_Web_init : Fun K "__init__" "Web.__init__" s_Web_init f_Web_init d_Web_init
  b_Web_init : Binds K d_Web_init ["self", "wares", "stalls"] []
  F_Table_init : Fun K "__init__" "Table.__init__" s_Table_init f_Table_init d_Table_init
  b_Table_init : Binds K d_Table_init ["self", "slants", "ties"] []
  F_Table_wrong_sign : Fun K "wrong_sign" "Table.wrong_sign" s_Table_wrong_sign f_Table_wrong_sign d_Table_wrong_sign
  k_Table_wrong_sign : PySem.W.keepIn K (.ref f_Table_wrong_sign) = true
  b_Table_wrong_sign : Binds K d_Table_wrong_sign ["self", "ware"] []
  i_Table_wrong_sign : PySem.W.findIn K (.ref c_Table) "wrong_sign" = some (some (.ref f_Table_wrong_sign))
  fn_Table_wrong_sign : PySem.W.isFn K (.ref f_Table_wrong_sign) = true
  F_Table_behind : Fun K "behind" "Table.behind" s_Table_behind f_Table_behind d_Table_behind
  k_Table_behind : PySem.W.keepIn K (.ref f_Table_behind) = true
  b_Table_behind : Binds K d_Table_behind ["self", "ware"] []
  i_Table_behind : PySem.W.findIn K (.ref c_Table) "behind" = some (some (.ref f_Table_behind))
  fn_Table_behind : PySem.W.isFn K (.ref f_Table_behind) = true
  F_Table_ties_without : Fun K "ties_without" "Table.ties_without" s_Table_ties_without f_Table_ties_without d_Table_ties_without
  k_Table_ties_without : PySem.W.keepIn K (.ref f_Table_ties_without) = true
  b_Table_ties_without : Binds K d_Table_ties_without ["self", "one", "ware"] []
  i_Table_ties_without : PySem.W.findIn K (.ref c_Table) "ties_without" = some (some (.ref f_Table_ties_without))
  fn_Table_ties_without : PySem.W.isFn K (.ref f_Table_ties_without) = true
end My
/-! the steps of a reading, one after another; side conditions come last -/
local macro_rules | `(tactic| walk_at "hp") => `(tactic| (repeat (first | (with_reducible assumption) | (with_reducible exact L2.upd_same) | (refine (L2.upd_ne (by first | assumption | (apply Ne.symm; assumption))).trans ?_))))
local macro_rules | `(tactic| walk_at "sd") => `(tactic| first | assumption | decide | omega | (exact My.cpow_of (by decide)) | (exact My.cdivx (b := 64) (by decide) (by decide) (by decide)) | (exact My.cdivx (by omega) (by assumption) (by decide)))
local macro_rules | `(tactic| walk_at "rX") => `(tactic| fail)
local macro_rules | `(tactic| walk_at "rV") => `(tactic| first
  | (with_reducible refine My.rd_C ?_)
  | ((with_reducible refine' My.rd_var ?k1 ?_); (case k1 => rfl))
  | (with_reducible refine My.rd_op ?_) | (with_reducible refine My.rd_cons ?_) | (with_reducible refine My.rd_nil ?_) | (with_reducible refine My.rd_CB ?_) | (with_reducible refine My.rd_call ?_)
  | (with_reducible refine My.rd_rI0 ?_)
  | (with_reducible refine My.rd_rI ?_ (by walk_at "sd"))
  | (with_reducible refine My.rd_rI ?_ ?_)
  | ((with_reducible refine' My.rd_ixL ?k1 ?k2 ?_); (case k1 => walk_at "hp"); (case k2 => rfl))
  | ((with_reducible refine' My.rd_ixT ?k1 ?k2 ?_); (case k1 => walk_at "hp"); (case k2 => rfl))
  | ((with_reducible refine' My.rd_ixTp ?k1 ?k3 ?k2 ?_); (case k1 => walk_at "tp"); (case k2 => rfl); (case k3 => rfl))
  | (with_reducible refine My.rd_un ?_) | (with_reducible refine My.rd_rU ?_)
  | (with_reducible refine My.rd_eqI ?_) | (with_reducible refine My.rd_neI ?_) | (with_reducible refine My.rd_eqB ?_) | (with_reducible refine My.rd_neB ?_) | (with_reducible refine My.rd_eqS ?_) | (with_reducible refine My.rd_neS ?_)
  | (with_reducible refine My.rd_gcd ?_) | (with_reducible refine My.rd_bits ?_)
  | ((with_reducible refine' My.rd_lenL ?_ ?k1); (case k1 => walk_at "hp"))
  | ((with_reducible refine' My.rd_lenT ?_ ?k1); (case k1 => walk_at "hp"))
  | ((with_reducible refine' My.rd_lenTp ?_ ?k1 ?k3); (case k1 => walk_at "tp"); (case k3 => rfl))
  | (with_reducible refine My.rd_int ?_) | (with_reducible refine My.rd_abs ?_) | (with_reducible refine My.rd_min ?_) | (with_reducible refine My.rd_intB ?_)
  | (with_reducible refine ⟨_, rfl, ?_⟩)
  | (with_reducible refine My.rd_len ?_ rfl)
  | (with_reducible refine My.rd_tup ?_) | (with_reducible refine My.rd_lst ?_)
  | (with_reducible refine My.isi_int_int ?_) | (with_reducible refine My.isi_int_bool ?_) | (with_reducible refine My.isi_bl_bool ?_)
  | ((with_reducible refine' My.isi_tup_tup ?k1 ?_); (case k1 => walk_at "hp"))
  | ((with_reducible refine' My.isi_tp ?k1 ?k3 ?_); (case k1 => walk_at "tp"); (case k3 => rfl))
  | (with_reducible refine My.rd_isBl ?_))
local macro_rules | `(tactic| walk_at "rS") => `(tactic| first
  | (with_reducible refine My.rd_seq ?_) | (with_reducible refine My.rd_next ?_) | (with_reducible refine My.rd_asg ?_) | (with_reducible refine My.rd_gName ?_) | (with_reducible refine My.rd_ret ?_)
  | (with_reducible refine My.rd_ifS ?_) | (with_reducible refine My.rd_test ?_) | (with_reducible refine My.rd_B ?_) | (with_reducible refine My.rd_not ?_) | (with_reducible refine My.rd_and ?_) | (with_reducible refine My.rd_or ?_)
  | (with_reducible refine My.rd_andV ?_) | (with_reducible refine My.rd_orV ?_) | (with_reducible refine My.rd_notV ?_) | (with_reducible refine My.rd_ifE ?_) | (with_reducible refine My.rd_chain ?_)
  | (with_reducible refine My.rd_gSub ?_) | ((with_reducible refine' My.rd_setL ?k1 ?k2 ?_); (case k1 => walk_at "hp"); (case k2 => rfl))
  | ((with_reducible refine' My.rd_gTup ?k1 ?k2 ?_); (case k1 => walk_at "hp"); (case k2 => rfl)) | ((with_reducible refine' My.rd_gTp ?k1 ?k3 ?k2 ?_); (case k1 => walk_at "tp"); (case k2 => rfl); (case k3 => rfl)) | (with_reducible refine My.rd_gCons ?_) | (with_reducible refine My.rd_gNil ?_)
  | (with_reducible refine My.rd_drop ?_) | (with_reducible refine My.rd_for ?_) | (with_reducible refine My.rd_rng1 ?_) | (with_reducible refine My.rd_itL ?_) | (with_reducible refine My.rd_itT ?_)
  | (with_reducible refine My.rd_sl ?_) | (with_reducible refine My.rd_part ?_) | (with_reducible refine My.rd_nopart ?_) | (with_reducible refine My.rd_bm ?_) | (with_reducible refine My.rd_yes ?_) | (with_reducible refine My.rd_lc ?_)
  | (with_reducible refine My.ite_nt ?_) | (with_reducible refine My.ite_nf ?_)
  | (with_reducible refine L2.iteF ?_) | (with_reducible refine L2.iteT ?_))
local macro_rules | `(tactic| walk_at "dc") => `(tactic| first | (with_reducible assumption) | ((with_reducible show _ = _); rfl) | omega | decide)
local macro_rules | `(tactic| walk_at "rI") => `(tactic| first
  | ((with_reducible refine' My.if_T ?k1 ?_); (case k1 => walk_at "dc"))
  | ((with_reducible refine' My.if_F ?k1 ?_); (case k1 => walk_at "dc"))
  | ((with_reducible refine' My.if_nF ?k1 ?_); (case k1 => walk_at "dc"))
  | ((with_reducible refine' My.if_nT ?k1 ?_); (case k1 => walk_at "dc")))
local macro_rules | `(tactic| walk_at "r") => `(tactic| (repeat (first | (walk_at "rV") | (walk_at "rS") | (walk_at "rI") | (walk_at "rX"))))
local macro_rules | `(tactic| walk_at "if") => `(tactic| first | (with_reducible refine My.if_dec (fun h => ?_) (fun h => ?_)) | (with_reducible refine My.if_ndec (fun h => ?_) (fun h => ?_)))
local macro_rules | `(tactic| walk_at "st") => `(tactic| (set_option pp.maxSteps 150 in trace_state))
local macro_rules | `(tactic| walk_at "rX") => `(tactic| first | (with_reducible refine My.rd_callS ?_) | (with_reducible refine My.rd_newK ?_) | (with_reducible refine My.rd_raise1 ?_) | (with_reducible refine My.rd_x1 ?_) | (with_reducible refine My.rd_fldS ?_) | (with_reducible refine My.rd_fld ?_) | (with_reducible refine My.rd_make ?_) | (with_reducible refine My.rd_enum ?_) | (with_reducible refine My.rd_enumX ?_) | (with_reducible refine My.rd_ost ?_) | (with_reducible refine My.rd_xf ?_) | (with_reducible refine My.isi_int_tup ?_))
local macro_rules | `(tactic| walk_at "sm") => `(tactic| first | (with_reducible assumption) | (with_reducible exact L2.Same.refl _) | ((with_reducible refine L2.Same.trans ?_ (by with_reducible assumption)); walk_at "sm"))
local macro_rules | `(tactic| walk_at "tp") => `(tactic| first | (with_reducible assumption) | ((with_reducible refine My.Tp.same ?_ (by with_reducible assumption)); walk_at "sm"))
local macro_rules | `(tactic| walk_at "hp") => `(tactic| ((with_reducible refine My.at_same ?_ (by with_reducible assumption)); walk_at "sm"))
local macro_rules | `(tactic| walk_at "kp") => `(tactic| first | (with_reducible assumption) | ((with_reducible refine My.IsF.same ?_ (by with_reducible assumption)); walk_at "sm") | ((with_reducible refine My.IsSt.same ?_ (by with_reducible assumption)); walk_at "sm") | ((with_reducible refine My.IsWeb.same ?_ (by with_reducible assumption)); walk_at "sm") | ((with_reducible refine My.IsMv.same ?_ (by with_reducible assumption)); walk_at "sm") | ((with_reducible refine My.Sts.same ?_ (by with_reducible assumption)); walk_at "sm") | ((with_reducible refine My.Tp.same ?_ (by with_reducible assumption)); walk_at "sm") | ((with_reducible refine My.at_same ?_ (by with_reducible assumption)); walk_at "sm"))
local macro_rules | `(tactic| walk_at "rX") => `(tactic| first | (with_reducible refine My.rd_callS ?_) | (with_reducible refine My.rd_newK ?_) | (with_reducible refine My.rd_raise1 ?_) | (with_reducible refine My.rd_x1 ?_) | (with_reducible refine My.rd_fldS ?_) | (with_reducible refine My.rd_fld ?_) | (with_reducible refine My.rd_make ?_) | (with_reducible refine My.rd_enum ?_) | (with_reducible refine My.rd_enumX ?_) | (with_reducible refine My.rd_ost ?_) | (with_reducible refine My.rd_xf ?_) | (with_reducible refine My.isi_int_tup ?_) | (with_reducible refine My.rd_dget ?_) | (with_reducible refine My.rd_dgetO ?_) | (with_reducible refine My.rd_dput ?_) | (with_reducible refine My.rd_keys ?_) | (with_reducible refine My.rd_meth ?_) | (with_reducible refine My.rd_dc ?_) | (with_reducible refine My.rd_lstRgT ?_) | (with_reducible refine My.rd_dictEnum ?_))
namespace My
open PySem PySem.Spec PyProof.Rows L2
section
variable {P : Program} {w : World} {K : PySem.W.Frag} {mg : Str → Option Value} {base : Heap} {f__wall f_is_integer f_is_row f_is_fraction f_is_amount f_is_some f_are_amounts f_added f_negated f_lessened f_multiplied f_divided f_squared f_summed f_lies_below f_is_stall f_hold_of f_stalls_of f_kept_of f_held f_roots f_check_purse f_check_wish f_may_stay f_table_of f_strike_row f_are_some f_filled_back f_in_order f_struck_in_turn f_scales f_is_scales f_l_deck f_l_pick f_l_divisor f_l_made f_l_added f_l_taken f_l_product f_l_amount f_l_stall f_l_held f_l_pulls f_l_edge f_l_deep f_l_changed f_l_are_some f_l_due f_l_is_judged f_l_word f_law f_Web_init f_Table_init f_Table_wrong_sign f_Table_behind f_Table_ties_without c_BadPurse c_BadWish c_Table c_Web c_ONE c_ZERO : Addr} {d__wall d_is_integer d_is_row d_is_fraction d_is_amount d_is_some d_are_amounts d_added d_negated d_lessened d_multiplied d_divided d_squared d_summed d_lies_below d_is_stall d_hold_of d_stalls_of d_kept_of d_held d_roots d_check_purse d_check_wish d_may_stay d_table_of d_strike_row d_are_some d_filled_back d_in_order d_struck_in_turn d_scales d_is_scales d_l_deck d_l_pick d_l_divisor d_l_made d_l_added d_l_taken d_l_product d_l_amount d_l_stall d_l_held d_l_pulls d_l_edge d_l_deep d_l_changed d_l_are_some d_l_due d_l_is_judged d_l_word d_law d_Web_init d_Table_init d_Table_wrong_sign d_Table_behind d_Table_ties_without : FuncData}
def sp_pick (M : Nat) : Sp := fun vs H Q _ => ∃ (D C : Addr) (many : Int) (c : Nat), vs = [.ref D, .int many] ∧ (0 < many ∧ many.natAbs < 2 ^ 64) ∧ Deck M D C H c ∧ c ≤ 2 ^ 40 ∧
  ∀ H' r, Fw D H H' → Deck M D C H' (c + 1) → 0 ≤ r → r < many → Q (.int r) H'
theorem ok_pick {M : Nat} (hM : 64 ≤ M) (hM2 : M ≤ 1048576) (T : Txt K mg f__wall f_is_integer f_is_row f_is_fraction f_is_amount f_is_some f_are_amounts f_added f_negated f_lessened f_multiplied f_divided f_squared f_summed f_lies_below f_is_stall f_hold_of f_stalls_of f_kept_of f_held f_roots f_check_purse f_check_wish f_may_stay f_table_of f_strike_row f_are_some f_filled_back f_in_order f_struck_in_turn f_scales f_is_scales f_l_deck f_l_pick f_l_divisor f_l_made f_l_added f_l_taken f_l_product f_l_amount f_l_stall f_l_held f_l_pulls f_l_edge f_l_deep f_l_changed f_l_are_some f_l_due f_l_is_judged f_l_word f_law f_Web_init f_Table_init f_Table_wrong_sign f_Table_behind f_Table_ties_without c_BadPurse c_BadWish c_Table c_Web c_ONE c_ZERO d__wall d_is_integer d_is_row d_is_fraction d_is_amount d_is_some d_are_amounts d_added d_negated d_lessened d_multiplied d_divided d_squared d_summed d_lies_below d_is_stall d_hold_of d_stalls_of d_kept_of d_held d_roots d_check_purse d_check_wish d_may_stay d_table_of d_strike_row d_are_some d_filled_back d_in_order d_struck_in_turn d_scales d_is_scales d_l_deck d_l_pick d_l_divisor d_l_made d_l_added d_l_taken d_l_product d_l_amount d_l_stall d_l_held d_l_pulls d_l_edge d_l_deep d_l_changed d_l_are_some d_l_due d_l_is_judged d_l_word d_law d_Web_init d_Table_init d_Table_wrong_sign d_Table_behind d_Table_ties_without) : FnOk P w K mg base CX0 1 f_l_pick d_l_pick ["_law_deck_here", "_law_many"] (sp_pick M) := by
  refine T.F_l_pick.ok sc_l_pick (fun vs H Q E h => ?_) (fun cdv A outer s H vs Q E hr h => ?_)
  · obtain ⟨D, C, many, c, rfl, _⟩ := h
    rfl
  · obtain ⟨D, C, many, c, rfl, ⟨hm0, hm1⟩, ⟨cells, pl, rest, cnt, hCD, hD, hC, hlen, hb, ⟨hr0, hr1⟩, hc0, hc1⟩, hc, q⟩ := h
    have cd : ∀ i : Int, CDivX i many := fun i => cdivx (by omega) hm1 (by decide)
    refine ⟨_, (pss_cons (ps_asg (pe_op op_add (pe_ix ix_list (pv 0) pe_int (fun _ _ => rfl)) pe_int) (pg_sub (pv 0) pe_int set_list))
      (pss_cons (ps_if (pt_cmpR op_gt (pe_ix ix_list (pv 0) pe_int (fun _ _ => rfl)) pe_int (nomark _))
        (pss_cons (ps_set (i := 2) sc_l_pick.nd rfl (by first | exact Or.inl rfl | exact Or.inr rfl) (pe_op op_mod (pe_callTy call_intN (by rfl) T.z_int (by decide +kernel) (pa_cons (pe_ix ix_list (pv 0) pe_int (fun _ _ => rfl)) pa_nil)) (pv 1)))
          (pss_cons (ps_asg (pe_op op_fdivX (pe_callTy call_intN (by rfl) T.z_int (by decide +kernel) (pa_cons (pe_ix ix_list (pv 0) pe_int (fun _ _ => rfl)) pa_nil)) (pv 1)) (pg_sub (pv 0) pe_int set_list))
          (pss_one (ps_ret (pv 2)))))
        pss_nil)
      (pss_cons (ps_set (i := 3) sc_l_pick.nd rfl (by first | exact Or.inl rfl | exact Or.inr rfl) (pe_ix ix_list (pv 0) pe_int (fun _ _ => rfl)))
      (pss_cons (ps_set (i := 4) sc_l_pick.nd rfl (by first | exact Or.inl rfl | exact Or.inr rfl) pe_int)
      (pss_cons (ps_if (pt_cmpR op_gt (pe_callB call_lenN (by rfl) T.z_len (by decide +kernel) (pa_cons (pv 3) pa_nil)) pe_int (nomark _))
        (pss_one (ps_set (i := 4) sc_l_pick.nd rfl (by first | exact Or.inl rfl | exact Or.inr rfl) (pe_ix ix_list (pv 3) (pe_op op_mod (pe_callTy call_intN (by rfl) T.z_int (by decide +kernel) (pa_cons (pe_ix ix_list (pv 0) pe_int (fun _ _ => rfl)) pa_nil)) (pe_callB call_lenN (by rfl) T.z_len (by decide +kernel) (pa_cons (pv 3) pa_nil))) (fun _ _ => rfl))))
        pss_nil)
      (pss_cons (ps_asg (pe_op op_add (pe_ix ix_list (pv 0) pe_int (fun _ _ => rfl)) pe_int) (pg_sub (pv 0) pe_int set_list))
      (pss_cons (ps_if (PW.pt (pw_and (pt_cmpR op_ge (pv 4) (pe_op op_pow pe_int pe_int) (nomark _)) (pw_and1 (pt_cmpR op_le (pe_ix ix_list (pv 0) pe_int (fun _ _ => rfl)) (pe_callB call_lenN (by rfl) T.z_len (by decide +kernel) (pa_cons (pv 3) pa_nil)) (nomark _)))))
        (pss_cons (ps_asg (pe_op op_fdivX (pe_callTy call_intN (by rfl) T.z_int (by decide +kernel) (pa_cons (pv 4) pa_nil)) (pv 1)) (pg_sub (pv 0) pe_int set_list))
          (pss_one (ps_ret (pe_op op_mod (pe_callTy call_intN (by rfl) T.z_int (by decide +kernel) (pa_cons (pv 4) pa_nil)) (pv 1)))))
        pss_nil)
      (pss_cons (ps_set (i := 5) sc_l_pick.nd rfl (by first | exact Or.inl rfl | exact Or.inr rfl) (pe_op op_mod (pe_op op_mulX (pe_callTy call_intN (by rfl) T.z_int (by decide +kernel) (pa_cons (pe_op op_add (pe_op op_add (pv 4) (pe_op op_mulX pe_int (pe_ix ix_list (pv 0) pe_int (fun _ _ => rfl)))) pe_int) pa_nil)) pe_int) pe_int))
      (pss_cons (ps_set (i := 5) sc_l_pick.nd rfl (by first | exact Or.inl rfl | exact Or.inr rfl) (pe_op op_mod (pe_op op_mulX (pv 5) (pe_op op_add (pe_op op_fdivX (pv 5) pe_int) pe_int)) pe_int))
      (pss_cons (ps_set (i := 5) sc_l_pick.nd rfl (by first | exact Or.inl rfl | exact Or.inr rfl) (pe_op op_mod (pe_op op_mulX (pv 5) (pe_op op_add (pe_op op_fdivX (pv 5) pe_int) pe_int)) pe_int))
      (pss_one (ps_ret (pe_op op_mod (pv 5) (pv 1)))))))))))))), ?_⟩
    walk_at "r"
    walk_at "if"
    · walk_at "r"
      refine q _ _ (fw_upd.trans fw_upd) ?_ (mod_rng _ hm0).1 (mod_rng _ hm0).2
      exact ⟨cells, pl, rest.fdiv many, cnt + 1, hCD, upd_same, by walk_at "hp", hlen, hb, div_small hr0 hr1 hm0, by omega, by omega⟩
    · walk_at "r"
      have hcl : 0 < (cells.map V.int).length → ∃ z, z ∈ cells ∧ atI (cells.map V.int) (pl % ((cells.map V.int).length : Nat)) = some (.int z) := fun h => at_ints (mod_rng _ (by omega)).1 (mod_rng _ (by omega)).2
      have hz0 : (0 : Int).natAbs < 2 ^ M := Nat.two_pow_pos M
      walk_at "if"
      · obtain ⟨z, hz, ez⟩ := hcl (by omega)
        have hz0 := hb z hz
        walk_at "r"
        refine ⟨_, _, _, .int z, rfl, rfl, SqL.of ?_, ez, ?_⟩
        · walk_at "hp"
        walk_at "r"
        walk_at "if"
        · walk_at "r"
          walk_at "if"
          · walk_at "r"
            have t18 := ten18
            refine q _ _ ((fw_upd.trans fw_upd).trans fw_upd) ?_ (mod_rng _ hm0).1 (mod_rng _ hm0).2
            exact ⟨cells, pl + 1, z.fdiv many, cnt + 1, hCD, upd_same, by walk_at "hp", hlen, hb, div_small (by omega) hz0 hm0, by omega, by omega⟩
          · walk_at "r"
            · refine q _ _ (fw_upd.trans fw_upd) ?_ (mod_rng _ hm0).1 (mod_rng _ hm0).2
              exact ⟨cells, pl + 1, rest, cnt + 1, hCD, upd_same, by walk_at "hp", hlen, hb, ⟨hr0, hr1⟩, by omega, by omega⟩
            · exact pick_mul2 _ (by decide) (by decide) (by decide) (by decide)
            · exact pick_mul2 _ (by decide) (by decide) (by decide) (by decide)
            · exact cmul_big (pw_big hz0 hM hc0 hc1 hc) (by decide) (by omega)
            · exact cmul_small (by decide) (by omega)
        · walk_at "r"
          · refine q _ _ (fw_upd.trans fw_upd) ?_ (mod_rng _ hm0).1 (mod_rng _ hm0).2
            exact ⟨cells, pl + 1, rest, cnt + 1, hCD, upd_same, by walk_at "hp", hlen, hb, ⟨hr0, hr1⟩, by omega, by omega⟩
          · exact pick_mul2 _ (by decide) (by decide) (by decide) (by decide)
          · exact pick_mul2 _ (by decide) (by decide) (by decide) (by decide)
          · exact cmul_big (pw_big hz0 hM hc0 hc1 hc) (by decide) (by omega)
          · exact cmul_small (by decide) (by omega)
      · walk_at "r"
        · refine q _ _ (fw_upd.trans fw_upd) ?_ (mod_rng _ hm0).1 (mod_rng _ hm0).2
          exact ⟨cells, pl + 1, rest, cnt + 1, hCD, upd_same, by walk_at "hp", hlen, hb, ⟨hr0, hr1⟩, by omega, by omega⟩
        · exact pick_mul2 _ (by decide) (by decide) (by decide) (by decide)
        · exact pick_mul2 _ (by decide) (by decide) (by decide) (by decide)
        · exact cmul_big (pw_big hz0 hM hc0 hc1 hc) (by decide) (by omega)
        · exact cmul_small (by decide) (by omega)
end
end My
namespace My
open PySem PySem.Spec PyProof.Rows L2
section
variable {P : Program} {w : World} {K : PySem.W.Frag} {mg : Str → Option Value} {base : Heap} {f__wall f_is_integer f_is_row f_is_fraction f_is_amount f_is_some f_are_amounts f_added f_negated f_lessened f_multiplied f_divided f_squared f_summed f_lies_below f_is_stall f_hold_of f_stalls_of f_kept_of f_held f_roots f_check_purse f_check_wish f_may_stay f_table_of f_strike_row f_are_some f_filled_back f_in_order f_struck_in_turn f_scales f_is_scales f_l_deck f_l_pick f_l_divisor f_l_made f_l_added f_l_taken f_l_product f_l_amount f_l_stall f_l_held f_l_pulls f_l_edge f_l_deep f_l_changed f_l_are_some f_l_due f_l_is_judged f_l_word f_law f_Web_init f_Table_init f_Table_wrong_sign f_Table_behind f_Table_ties_without c_BadPurse c_BadWish c_Table c_Web c_ONE c_ZERO : Addr} {d__wall d_is_integer d_is_row d_is_fraction d_is_amount d_is_some d_are_amounts d_added d_negated d_lessened d_multiplied d_divided d_squared d_summed d_lies_below d_is_stall d_hold_of d_stalls_of d_kept_of d_held d_roots d_check_purse d_check_wish d_may_stay d_table_of d_strike_row d_are_some d_filled_back d_in_order d_struck_in_turn d_scales d_is_scales d_l_deck d_l_pick d_l_divisor d_l_made d_l_added d_l_taken d_l_product d_l_amount d_l_stall d_l_held d_l_pulls d_l_edge d_l_deep d_l_changed d_l_are_some d_l_due d_l_is_judged d_l_word d_law d_Web_init d_Table_init d_Table_wrong_sign d_Table_behind d_Table_ties_without : FuncData}
def sp_deck (K : PySem.W.Frag) : Sp := fun vs H Q _ => ∃ (a : Addr) (ns : List Int), vs = [.ref a] ∧ SqL K H a (ns.map V.int) ∧ ns.length ≤ 63 ∧ (∀ z ∈ ns, Builtin.Int.intBits z ≤ 1048576) ∧
  ∀ H' D C, Same H H' → Deck 1048576 D C H' 0 → Q (.ref D) H'
theorem ok_l_deck (T : Txt K mg f__wall f_is_integer f_is_row f_is_fraction f_is_amount f_is_some f_are_amounts f_added f_negated f_lessened f_multiplied f_divided f_squared f_summed f_lies_below f_is_stall f_hold_of f_stalls_of f_kept_of f_held f_roots f_check_purse f_check_wish f_may_stay f_table_of f_strike_row f_are_some f_filled_back f_in_order f_struck_in_turn f_scales f_is_scales f_l_deck f_l_pick f_l_divisor f_l_made f_l_added f_l_taken f_l_product f_l_amount f_l_stall f_l_held f_l_pulls f_l_edge f_l_deep f_l_changed f_l_are_some f_l_due f_l_is_judged f_l_word f_law f_Web_init f_Table_init f_Table_wrong_sign f_Table_behind f_Table_ties_without c_BadPurse c_BadWish c_Table c_Web c_ONE c_ZERO d__wall d_is_integer d_is_row d_is_fraction d_is_amount d_is_some d_are_amounts d_added d_negated d_lessened d_multiplied d_divided d_squared d_summed d_lies_below d_is_stall d_hold_of d_stalls_of d_kept_of d_held d_roots d_check_purse d_check_wish d_may_stay d_table_of d_strike_row d_are_some d_filled_back d_in_order d_struck_in_turn d_scales d_is_scales d_l_deck d_l_pick d_l_divisor d_l_made d_l_added d_l_taken d_l_product d_l_amount d_l_stall d_l_held d_l_pulls d_l_edge d_l_deep d_l_changed d_l_are_some d_l_due d_l_is_judged d_l_word d_law d_Web_init d_Table_init d_Table_wrong_sign d_Table_behind d_Table_ties_without) : FnOk P w K mg base CX0 1 f_l_deck d_l_deck ["_law_script"] (sp_deck K) := by
  refine T.F_l_deck.ok sc_l_deck (fun vs H Q E h => ?_) (fun cdv A outer s H vs Q E hr h => ?_)
  · obtain ⟨a, ns, rfl, _⟩ := h
    rfl
  · obtain ⟨a, ns, rfl, hS, hl, hb, q⟩ := h
    refine ⟨_, (pss_one (ps_ret (pe_lst (pa_cons (pe_lc (own := [("_law_cell", 1)]) (g := gName 1) rfl sc_l_deck.nd (pi_list (pe_slice sl_list (pv 0) po_none (po_some pe_int))) (blkOk_by (own := [("_law_cell", 1)]) (N := N_l_deck) (sc := defScope s_l_deck) (by decide +kernel)) (fun _ _ _ _ _ => (pg_name (i := 1) sc_l_deck.nd rfl (by first | exact Or.inl rfl | exact Or.inr rfl))) (fun _ _ _ _ _ => pts_nil) (fun _ _ _ _ _ => (pe_callTy call_intN (by rfl) T.z_int (by decide +kernel) (pa_cons (pv 1) pa_nil)))) (pa_cons pe_int (pa_cons pe_int (pa_cons pe_int pa_nil))))))), ?_⟩
    walk_at "r"
    refine rd_slL hS (fun p np => ?_)
    refine ⟨_, rfl, ⟨_, .of upd_same⟩, fun D nD => ?_⟩
    have hDp : D ≠ p := fun e => by
      rw [e, upd_same] at nD
      cases nD
    have hcut : cutV (ns.map V.int) none (some 63) = ns.map V.int := cut_all (n := 63) (by rw [List.length_map]; exact hl)
    refine lc_list (K := K) (a := p) (xs := ns.map V.int) (fun i H' => Same H H' ∧ H' p = some (.lst (ns.map V.int)) ∧ H' D = some (.lst ((ns.take i).map V.int))) ?_ ?_ ?_ ?_
    · refine ⟨(same_upd np).trans (same_upd nD), ?_, upd_same⟩
      rw [upd_ne hDp.symm, upd_same, hcut]
    · intro i H' _ h
      exact .of h.2.1
    · rintro i x H' hx ⟨s1, s2, s3⟩
      obtain ⟨z, rfl, hz, et⟩ := take_succ_map hx
      walk_at "r"
      refine ⟨rfl, ?_⟩
      walk_at "r"
      refine ⟨_, s3, ?_, fun b o e => ?_, ?_, ?_⟩
      · rw [List.length_map, List.length_take]
        exact Nat.lt_of_le_of_lt (Nat.min_le_right _ _) (small1000 (by omega))
      · have nb : b ≠ D := fun e' => by
          rw [e', (same_upd np).free nD] at e
          cases e
        rw [upd_ne nb]
        exact s1 b o e
      · rw [upd_ne hDp.symm]
        exact s2
      · rw [upd_same, et]
    · rintro H' ⟨s1, s2, s3⟩
      have hlen : (ns.map V.int).length = ns.length := List.length_map ..
      rw [hlen, List.take_of_length_le (Nat.le_refl _)] at s3
      walk_at "r"
      intro D' nD'
      have hDD : D ≠ D' := ne_of_none s3 nD'
      refine q _ _ _ (s1.trans (same_upd nD')) ⟨ns, 0, 0, 0, hDD, upd_same, ?_, hl, fun z hz => bits_lt (hb z hz), ⟨by decide, Nat.two_pow_pos _⟩, by decide, by decide⟩
      rw [upd_ne hDD]
      exact s3
def sp_divisor : Sp := fun vs H Q _ => ∃ a b : Int, vs = [.int a, .int b] ∧ b.natAbs < 2 ^ 20000 ∧ Q (.int (a.natAbs.gcd b.natAbs : Nat)) H
theorem ok_l_divisor (T : Txt K mg f__wall f_is_integer f_is_row f_is_fraction f_is_amount f_is_some f_are_amounts f_added f_negated f_lessened f_multiplied f_divided f_squared f_summed f_lies_below f_is_stall f_hold_of f_stalls_of f_kept_of f_held f_roots f_check_purse f_check_wish f_may_stay f_table_of f_strike_row f_are_some f_filled_back f_in_order f_struck_in_turn f_scales f_is_scales f_l_deck f_l_pick f_l_divisor f_l_made f_l_added f_l_taken f_l_product f_l_amount f_l_stall f_l_held f_l_pulls f_l_edge f_l_deep f_l_changed f_l_are_some f_l_due f_l_is_judged f_l_word f_law f_Web_init f_Table_init f_Table_wrong_sign f_Table_behind f_Table_ties_without c_BadPurse c_BadWish c_Table c_Web c_ONE c_ZERO d__wall d_is_integer d_is_row d_is_fraction d_is_amount d_is_some d_are_amounts d_added d_negated d_lessened d_multiplied d_divided d_squared d_summed d_lies_below d_is_stall d_hold_of d_stalls_of d_kept_of d_held d_roots d_check_purse d_check_wish d_may_stay d_table_of d_strike_row d_are_some d_filled_back d_in_order d_struck_in_turn d_scales d_is_scales d_l_deck d_l_pick d_l_divisor d_l_made d_l_added d_l_taken d_l_product d_l_amount d_l_stall d_l_held d_l_pulls d_l_edge d_l_deep d_l_changed d_l_are_some d_l_due d_l_is_judged d_l_word d_law d_Web_init d_Table_init d_Table_wrong_sign d_Table_behind d_Table_ties_without) : FnOk P w K mg base CX0 1 f_l_divisor d_l_divisor ["_law_one", "_law_other"] sp_divisor := by
  refine T.F_l_divisor.ok sc_l_divisor (fun vs H Q E h => ?_) (fun cdv A outer s H vs Q E hr h => ?_)
  · obtain ⟨a, b, rfl, _⟩ := h
    rfl
  · obtain ⟨a, b, rfl, hb, q⟩ := h
    have hbits : Builtin.Int.intBits (b.natAbs : Nat) ≤ 20000 := by
      have h := PyProof.Rows.intBits_le (a := (b.natAbs : Int)) (by rw [Int.natAbs_natCast]; exact hb)
      exact h
    have hlt := bits_lt (z := (b.natAbs : Int)) (Nat.le_refl _)
    rw [Int.natAbs_natCast] at hlt
    refine ⟨_, (pss_cons (ps_set (i := 0) sc_l_divisor.nd rfl (by first | exact Or.inl rfl | exact Or.inr rfl) (pe_callB call_absN (by rfl) T.z_abs (by decide +kernel) (pa_cons (pv 0) pa_nil)))
      (pss_cons (ps_set (i := 1) sc_l_divisor.nd rfl (by first | exact Or.inl rfl | exact Or.inr rfl) (pe_callB call_absN (by rfl) T.z_abs (by decide +kernel) (pa_cons (pv 1) pa_nil)))
      (pss_cons (ps_for PassesOwn.never rfl (pi_range1 (by rfl) T.z_range (pa_cons (pe_op op_add (pe_op op_mulX pe_int (pe_bits (pv 1))) pe_int) pa_nil)) (pg_name (i := 2) sc_l_divisor.nd rfl (by first | exact Or.inl rfl | exact Or.inr rfl))
        (pss_cons (ps_if (pt_cmpR op_eq (pv 1) pe_int (nomark _))
            (pss_one (ps_ret (pv 0)))
            pss_nil)
          (pss_cons (ps_set (i := 3) sc_l_divisor.nd rfl (by first | exact Or.inl rfl | exact Or.inr rfl) (pe_op op_mod (pe_callTy call_intN (by rfl) T.z_int (by decide +kernel) (pa_cons (pv 0) pa_nil)) (pv 1)))
          (pss_cons (ps_set (i := 0) sc_l_divisor.nd rfl (by first | exact Or.inl rfl | exact Or.inr rfl) (pv 1))
          (pss_one (ps_set (i := 1) sc_l_divisor.nd rfl (by first | exact Or.inl rfl | exact Or.inr rfl) (pv 3)))))))
      (pss_one (ps_ret (pv 0)))))), ?_⟩
    walk_at "r"
    · refine ⟨by omega, by omega, ?_⟩
      generalize Builtin.Int.intBits (b.natAbs : Int) = k at *
      have hN : (2 * (k : Int) + 2).toNat = 2 * k + 2 := by omega
      rw [hN]
      refine for_range (lo := 0) (n := 2 * k + 2) (fun i σ H' => ∃ (x y : Nat) (t r : Option V), σ = [some (.int x), some (.int y), t, r] ∧ H' = H ∧ Euc (a.natAbs.gcd b.natAbs) b.natAbs i x y) ?_ ?_ ?_
      · exact ⟨a.natAbs, b.natAbs, none, none, rfl, rfl, ⟨rfl, by simp, fun h => absurd rfl h⟩⟩
      · rintro i σ H' hi ⟨x, y, t, r, rfl, rfl, e⟩
        walk_at "r"
        walk_at "if"
        · rename_i hy
          have hy0 : y = 0 := by omega
          have g := e.g
          rw [hy0, Nat.gcd_zero_right] at g
          walk_at "r"
          rw [g]
          exact q
        · rename_i hy
          walk_at "r"
          exact ⟨y, x % y, _, _, rfl, rfl, e.step (by omega)⟩
      · rintro σ H' ⟨x, y, t, r, rfl, rfl, e⟩
        obtain ⟨_, hx⟩ := e.done hlt
        walk_at "r"
        rw [hx]
        exact q
    · exact cmul_small (by decide) (by omega)
end
end My
namespace My
open PySem PySem.Spec PyProof.Rows L2
variable {K : PySem.W.Frag}
section
variable {P : Program} {w : World} {K : PySem.W.Frag} {mg : Str → Option Value} {base : Heap} {f__wall f_is_integer f_is_row f_is_fraction f_is_amount f_is_some f_are_amounts f_added f_negated f_lessened f_multiplied f_divided f_squared f_summed f_lies_below f_is_stall f_hold_of f_stalls_of f_kept_of f_held f_roots f_check_purse f_check_wish f_may_stay f_table_of f_strike_row f_are_some f_filled_back f_in_order f_struck_in_turn f_scales f_is_scales f_l_deck f_l_pick f_l_divisor f_l_made f_l_added f_l_taken f_l_product f_l_amount f_l_stall f_l_held f_l_pulls f_l_edge f_l_deep f_l_changed f_l_are_some f_l_due f_l_is_judged f_l_word f_law f_Web_init f_Table_init f_Table_wrong_sign f_Table_behind f_Table_ties_without c_BadPurse c_BadWish c_Table c_Web c_ONE c_ZERO : Addr} {d__wall d_is_integer d_is_row d_is_fraction d_is_amount d_is_some d_are_amounts d_added d_negated d_lessened d_multiplied d_divided d_squared d_summed d_lies_below d_is_stall d_hold_of d_stalls_of d_kept_of d_held d_roots d_check_purse d_check_wish d_may_stay d_table_of d_strike_row d_are_some d_filled_back d_in_order d_struck_in_turn d_scales d_is_scales d_l_deck d_l_pick d_l_divisor d_l_made d_l_added d_l_taken d_l_product d_l_amount d_l_stall d_l_held d_l_pulls d_l_edge d_l_deep d_l_changed d_l_are_some d_l_due d_l_is_judged d_l_word d_law d_Web_init d_Table_init d_Table_wrong_sign d_Table_behind d_Table_ties_without : FuncData}
/-- two fractions in, one out -/
def sp_two (K : PySem.W.Frag) (f : Rat → Rat → Rat) (C : Rat → Rat → Prop) : Sp := fun vs H Q _ => ∃ x y r s, vs = [x, y] ∧ IsF K H x r ∧ IsF K H y s ∧ Bd 8900 r ∧ Bd 8900 s ∧ C r s ∧ ∀ H' v, Same H H' → IsF K H' v (f r s) → Q v H'
def sp_added (K : PySem.W.Frag) : Sp := sp_two K (· + ·) fun _ _ => True
theorem ok_added (T : Txt K mg f__wall f_is_integer f_is_row f_is_fraction f_is_amount f_is_some f_are_amounts f_added f_negated f_lessened f_multiplied f_divided f_squared f_summed f_lies_below f_is_stall f_hold_of f_stalls_of f_kept_of f_held f_roots f_check_purse f_check_wish f_may_stay f_table_of f_strike_row f_are_some f_filled_back f_in_order f_struck_in_turn f_scales f_is_scales f_l_deck f_l_pick f_l_divisor f_l_made f_l_added f_l_taken f_l_product f_l_amount f_l_stall f_l_held f_l_pulls f_l_edge f_l_deep f_l_changed f_l_are_some f_l_due f_l_is_judged f_l_word f_law f_Web_init f_Table_init f_Table_wrong_sign f_Table_behind f_Table_ties_without c_BadPurse c_BadWish c_Table c_Web c_ONE c_ZERO d__wall d_is_integer d_is_row d_is_fraction d_is_amount d_is_some d_are_amounts d_added d_negated d_lessened d_multiplied d_divided d_squared d_summed d_lies_below d_is_stall d_hold_of d_stalls_of d_kept_of d_held d_roots d_check_purse d_check_wish d_may_stay d_table_of d_strike_row d_are_some d_filled_back d_in_order d_struck_in_turn d_scales d_is_scales d_l_deck d_l_pick d_l_divisor d_l_made d_l_added d_l_taken d_l_product d_l_amount d_l_stall d_l_held d_l_pulls d_l_edge d_l_deep d_l_changed d_l_are_some d_l_due d_l_is_judged d_l_word d_law d_Web_init d_Table_init d_Table_wrong_sign d_Table_behind d_Table_ties_without) : FnOk P w K mg base CX0 1 f_added d_added ["one", "other"] (sp_added K) := by
  refine T.F_added.ok sc_added (fun vs H Q E h => ?_) (fun cdv A outer s H vs Q E hr h => ?_)
  · obtain ⟨x, y, r, s, rfl, _⟩ := h
    rfl
  · obtain ⟨x, y, r, s, rfl, ⟨p1, rfl, h1⟩, ⟨p2, rfl, h2⟩, b1, b2, -, q⟩ := h
    obtain ⟨m1, m2, m3, m4, m5, m6, m7⟩ := added_math b1 b2 _ _ _ rfl rfl rfl
    refine ⟨_, (pss_cons (ps_set (i := 2) sc_added.nd rfl (by first | exact Or.inl rfl | exact Or.inr rfl) (pe_callBfun cr_gcd (by rfl) T.m_gcd (pa_cons (pe_ix ix_tup (pv 0) pe_int (fun _ _ => rfl)) (pa_cons (pe_ix ix_tup (pv 1) pe_int (fun _ _ => rfl)) pa_nil))))
      (pss_cons (ps_set (i := 3) sc_added.nd rfl (by first | exact Or.inl rfl | exact Or.inr rfl) (pe_op op_fdivX (pe_ix ix_tup (pv 0) pe_int (fun _ _ => rfl)) (pv 2)))
      (pss_cons (ps_set (i := 4) sc_added.nd rfl (by first | exact Or.inl rfl | exact Or.inr rfl) (pe_op op_add (pe_op op_mulX (pe_ix ix_tup (pv 0) pe_int (fun _ _ => rfl)) (pe_op op_fdivX (pe_ix ix_tup (pv 1) pe_int (fun _ _ => rfl)) (pv 2))) (pe_op op_mulX (pe_ix ix_tup (pv 1) pe_int (fun _ _ => rfl)) (pv 3))))
      (pss_cons (ps_set (i := 5) sc_added.nd rfl (by first | exact Or.inl rfl | exact Or.inr rfl) (pe_callBfun cr_gcd (by rfl) T.m_gcd (pa_cons (pv 4) (pa_cons (pv 2) pa_nil))))
      (pss_one (ps_ret (pe_tup (pa_cons (pe_op op_fdivX (pv 4) (pv 5)) (pa_cons (pe_op op_mulX (pv 3) (pe_op op_fdivX (pe_ix ix_tup (pv 1) pe_int (fun _ _ => rfl)) (pv 5))) pa_nil))))))))), ?_⟩
    walk_at "r"
    · intro p np
      exact q _ _ (same_upd np) (isF_new m6 m7)
    all_goals first | assumption | exact m1 _ | exact m4 _
def sp_multiplied (K : PySem.W.Frag) : Sp := sp_two K (· * ·) fun _ _ => True
theorem ok_multiplied (T : Txt K mg f__wall f_is_integer f_is_row f_is_fraction f_is_amount f_is_some f_are_amounts f_added f_negated f_lessened f_multiplied f_divided f_squared f_summed f_lies_below f_is_stall f_hold_of f_stalls_of f_kept_of f_held f_roots f_check_purse f_check_wish f_may_stay f_table_of f_strike_row f_are_some f_filled_back f_in_order f_struck_in_turn f_scales f_is_scales f_l_deck f_l_pick f_l_divisor f_l_made f_l_added f_l_taken f_l_product f_l_amount f_l_stall f_l_held f_l_pulls f_l_edge f_l_deep f_l_changed f_l_are_some f_l_due f_l_is_judged f_l_word f_law f_Web_init f_Table_init f_Table_wrong_sign f_Table_behind f_Table_ties_without c_BadPurse c_BadWish c_Table c_Web c_ONE c_ZERO d__wall d_is_integer d_is_row d_is_fraction d_is_amount d_is_some d_are_amounts d_added d_negated d_lessened d_multiplied d_divided d_squared d_summed d_lies_below d_is_stall d_hold_of d_stalls_of d_kept_of d_held d_roots d_check_purse d_check_wish d_may_stay d_table_of d_strike_row d_are_some d_filled_back d_in_order d_struck_in_turn d_scales d_is_scales d_l_deck d_l_pick d_l_divisor d_l_made d_l_added d_l_taken d_l_product d_l_amount d_l_stall d_l_held d_l_pulls d_l_edge d_l_deep d_l_changed d_l_are_some d_l_due d_l_is_judged d_l_word d_law d_Web_init d_Table_init d_Table_wrong_sign d_Table_behind d_Table_ties_without) : FnOk P w K mg base CX0 1 f_multiplied d_multiplied ["one", "other"] (sp_multiplied K) := by
  refine T.F_multiplied.ok sc_multiplied (fun vs H Q E h => ?_) (fun cdv A outer s H vs Q E hr h => ?_)
  · obtain ⟨x, y, r, s, rfl, _⟩ := h
    rfl
  · obtain ⟨x, y, r, s, rfl, ⟨p1, rfl, h1⟩, ⟨p2, rfl, h2⟩, b1, b2, -, q⟩ := h
    obtain ⟨m1, m2, m3, m4, m5, m6⟩ := mul_math b1 b2 _ _ rfl rfl
    refine ⟨_, (pss_cons (ps_set (i := 2) sc_multiplied.nd rfl (by first | exact Or.inl rfl | exact Or.inr rfl) (pe_callBfun cr_gcd (by rfl) T.m_gcd (pa_cons (pe_ix ix_tup (pv 0) pe_int (fun _ _ => rfl)) (pa_cons (pe_ix ix_tup (pv 1) pe_int (fun _ _ => rfl)) pa_nil))))
      (pss_cons (ps_set (i := 3) sc_multiplied.nd rfl (by first | exact Or.inl rfl | exact Or.inr rfl) (pe_callBfun cr_gcd (by rfl) T.m_gcd (pa_cons (pe_ix ix_tup (pv 1) pe_int (fun _ _ => rfl)) (pa_cons (pe_ix ix_tup (pv 0) pe_int (fun _ _ => rfl)) pa_nil))))
      (pss_one (ps_ret (pe_tup (pa_cons (pe_op op_mulX (pe_op op_fdivX (pe_ix ix_tup (pv 0) pe_int (fun _ _ => rfl)) (pv 2)) (pe_op op_fdivX (pe_ix ix_tup (pv 1) pe_int (fun _ _ => rfl)) (pv 3))) (pa_cons (pe_op op_mulX (pe_op op_fdivX (pe_ix ix_tup (pv 0) pe_int (fun _ _ => rfl)) (pv 3)) (pe_op op_fdivX (pe_ix ix_tup (pv 1) pe_int (fun _ _ => rfl)) (pv 2))) pa_nil))))))), ?_⟩
    walk_at "r"
    · intro p np
      exact q _ _ (same_upd np) (isF_new m5 m6)
    all_goals first | assumption | exact m1 _ | exact m2 _
def sp_negated (K : PySem.W.Frag) : Sp := fun vs H Q _ => ∃ x r, vs = [x] ∧ IsF K H x r ∧ ∀ H' v, Same H H' → IsF K H' v (-r) → Q v H'
theorem ok_negated (T : Txt K mg f__wall f_is_integer f_is_row f_is_fraction f_is_amount f_is_some f_are_amounts f_added f_negated f_lessened f_multiplied f_divided f_squared f_summed f_lies_below f_is_stall f_hold_of f_stalls_of f_kept_of f_held f_roots f_check_purse f_check_wish f_may_stay f_table_of f_strike_row f_are_some f_filled_back f_in_order f_struck_in_turn f_scales f_is_scales f_l_deck f_l_pick f_l_divisor f_l_made f_l_added f_l_taken f_l_product f_l_amount f_l_stall f_l_held f_l_pulls f_l_edge f_l_deep f_l_changed f_l_are_some f_l_due f_l_is_judged f_l_word f_law f_Web_init f_Table_init f_Table_wrong_sign f_Table_behind f_Table_ties_without c_BadPurse c_BadWish c_Table c_Web c_ONE c_ZERO d__wall d_is_integer d_is_row d_is_fraction d_is_amount d_is_some d_are_amounts d_added d_negated d_lessened d_multiplied d_divided d_squared d_summed d_lies_below d_is_stall d_hold_of d_stalls_of d_kept_of d_held d_roots d_check_purse d_check_wish d_may_stay d_table_of d_strike_row d_are_some d_filled_back d_in_order d_struck_in_turn d_scales d_is_scales d_l_deck d_l_pick d_l_divisor d_l_made d_l_added d_l_taken d_l_product d_l_amount d_l_stall d_l_held d_l_pulls d_l_edge d_l_deep d_l_changed d_l_are_some d_l_due d_l_is_judged d_l_word d_law d_Web_init d_Table_init d_Table_wrong_sign d_Table_behind d_Table_ties_without) : FnOk P w K mg base CX0 1 f_negated d_negated ["one"] (sp_negated K) := by
  refine T.F_negated.ok sc_negated (fun vs H Q E h => ?_) (fun cdv A outer s H vs Q E hr h => ?_)
  · obtain ⟨x, r, rfl, _⟩ := h
    rfl
  · obtain ⟨x, r, rfl, ⟨p1, rfl, h1⟩, q⟩ := h
    refine ⟨_, (pss_one (ps_ret (pe_tup (pa_cons (pe_un un_neg (pe_ix ix_tup (pv 0) pe_int (fun _ _ => rfl))) (pa_cons (pe_ix ix_tup (pv 0) pe_int (fun _ _ => rfl)) pa_nil))))), ?_⟩
    walk_at "r"
    intro p np
    exact q _ _ (same_upd np) (isF_new rfl rfl)
def sp_lessened (K : PySem.W.Frag) : Sp := sp_two K (· - ·) fun _ _ => True
theorem ok_lessened (T : Txt K mg f__wall f_is_integer f_is_row f_is_fraction f_is_amount f_is_some f_are_amounts f_added f_negated f_lessened f_multiplied f_divided f_squared f_summed f_lies_below f_is_stall f_hold_of f_stalls_of f_kept_of f_held f_roots f_check_purse f_check_wish f_may_stay f_table_of f_strike_row f_are_some f_filled_back f_in_order f_struck_in_turn f_scales f_is_scales f_l_deck f_l_pick f_l_divisor f_l_made f_l_added f_l_taken f_l_product f_l_amount f_l_stall f_l_held f_l_pulls f_l_edge f_l_deep f_l_changed f_l_are_some f_l_due f_l_is_judged f_l_word f_law f_Web_init f_Table_init f_Table_wrong_sign f_Table_behind f_Table_ties_without c_BadPurse c_BadWish c_Table c_Web c_ONE c_ZERO d__wall d_is_integer d_is_row d_is_fraction d_is_amount d_is_some d_are_amounts d_added d_negated d_lessened d_multiplied d_divided d_squared d_summed d_lies_below d_is_stall d_hold_of d_stalls_of d_kept_of d_held d_roots d_check_purse d_check_wish d_may_stay d_table_of d_strike_row d_are_some d_filled_back d_in_order d_struck_in_turn d_scales d_is_scales d_l_deck d_l_pick d_l_divisor d_l_made d_l_added d_l_taken d_l_product d_l_amount d_l_stall d_l_held d_l_pulls d_l_edge d_l_deep d_l_changed d_l_are_some d_l_due d_l_is_judged d_l_word d_law d_Web_init d_Table_init d_Table_wrong_sign d_Table_behind d_Table_ties_without) : FnOk P w K mg base CX0 2 f_lessened d_lessened ["one", "other"] (sp_lessened K) := by
  have G_negated : FnOk P w K mg base CX0 1 f_negated d_negated ["one"] (sp_negated K) := ok_negated T
  have G_added : FnOk P w K mg base CX0 1 f_added d_added ["one", "other"] (sp_added K) := ok_added T
  refine T.F_lessened.ok sc_lessened (fun vs H Q E h => ?_) (fun cdv A outer s H vs Q E hr h => ?_)
  · obtain ⟨x, y, r, s, rfl, _⟩ := h
    rfl
  · obtain ⟨x, y, r, s, rfl, h1, h2, b1, b2, -, q⟩ := h
    refine ⟨_, (pss_one (ps_ret (pe_call G_added (hr.mono (by decide)) (by rfl) T.g_added T.k_added T.b_added .nil pass0 (pa_cons (pv 0) (pa_cons (pe_call G_negated (hr.mono (by decide)) (by rfl) T.g_negated T.k_negated T.b_negated .nil pass0 (pa_cons (pv 1) pa_nil)) pa_nil))))), ?_⟩
    walk_at "r"
    refine ⟨_, _, rfl, h2, fun H1 v s1 hv => ?_⟩
    walk_at "r"
    refine ⟨_, _, _, _, rfl, h1.same s1, hv, b1, b2.neg, trivial, fun H2 u s2 hu => ?_⟩
    exact q _ _ (s1.trans s2) (by show IsF K H2 u (r - s); rw [Rat.sub_eq_add_neg]; exact hu)
def sp_divided (K : PySem.W.Frag) : Sp := sp_two K (· / ·) fun _ s => s ≠ 0
theorem ok_divided (T : Txt K mg f__wall f_is_integer f_is_row f_is_fraction f_is_amount f_is_some f_are_amounts f_added f_negated f_lessened f_multiplied f_divided f_squared f_summed f_lies_below f_is_stall f_hold_of f_stalls_of f_kept_of f_held f_roots f_check_purse f_check_wish f_may_stay f_table_of f_strike_row f_are_some f_filled_back f_in_order f_struck_in_turn f_scales f_is_scales f_l_deck f_l_pick f_l_divisor f_l_made f_l_added f_l_taken f_l_product f_l_amount f_l_stall f_l_held f_l_pulls f_l_edge f_l_deep f_l_changed f_l_are_some f_l_due f_l_is_judged f_l_word f_law f_Web_init f_Table_init f_Table_wrong_sign f_Table_behind f_Table_ties_without c_BadPurse c_BadWish c_Table c_Web c_ONE c_ZERO d__wall d_is_integer d_is_row d_is_fraction d_is_amount d_is_some d_are_amounts d_added d_negated d_lessened d_multiplied d_divided d_squared d_summed d_lies_below d_is_stall d_hold_of d_stalls_of d_kept_of d_held d_roots d_check_purse d_check_wish d_may_stay d_table_of d_strike_row d_are_some d_filled_back d_in_order d_struck_in_turn d_scales d_is_scales d_l_deck d_l_pick d_l_divisor d_l_made d_l_added d_l_taken d_l_product d_l_amount d_l_stall d_l_held d_l_pulls d_l_edge d_l_deep d_l_changed d_l_are_some d_l_due d_l_is_judged d_l_word d_law d_Web_init d_Table_init d_Table_wrong_sign d_Table_behind d_Table_ties_without) : FnOk P w K mg base CX0 2 f_divided d_divided ["one", "other"] (sp_divided K) := by
  have G_multiplied : FnOk P w K mg base CX0 1 f_multiplied d_multiplied ["one", "other"] (sp_multiplied K) := ok_multiplied T
  refine T.F_divided.ok sc_divided (fun vs H Q E h => ?_) (fun cdv A outer s H vs Q E hr h => ?_)
  · obtain ⟨x, y, r, s, rfl, _⟩ := h
    rfl
  · obtain ⟨x, y, r, s, rfl, ⟨p1, rfl, h1⟩, ⟨p2, rfl, h2⟩, b1, b2, hz, q⟩ := h
    obtain ⟨i1, i2⟩ := inv_num hz
    refine ⟨_, (pss_cons (ps_if (pt_cmpR op_lt (pe_ix ix_tup (pv 1) pe_int (fun _ _ => rfl)) pe_int (nomark _))
        (pss_one (ps_ret (pe_call G_multiplied (hr.mono (by decide)) (by rfl) T.g_multiplied T.k_multiplied T.b_multiplied .nil pass0 (pa_cons (pv 0) (pa_cons (pe_tup (pa_cons (pe_un un_neg (pe_ix ix_tup (pv 1) pe_int (fun _ _ => rfl))) (pa_cons (pe_un un_neg (pe_ix ix_tup (pv 1) pe_int (fun _ _ => rfl))) pa_nil))) pa_nil)))))
        pss_nil)
      (pss_one (ps_ret (pe_call G_multiplied (hr.mono (by decide)) (by rfl) T.g_multiplied T.k_multiplied T.b_multiplied .nil pass0 (pa_cons (pv 0) (pa_cons (pe_tup (pa_cons (pe_ix ix_tup (pv 1) pe_int (fun _ _ => rfl)) (pa_cons (pe_ix ix_tup (pv 1) pe_int (fun _ _ => rfl)) pa_nil))) pa_nil)))))), ?_⟩
    walk_at "r"
    walk_at "if"
    · rename_i hn
      rw [if_pos hn] at i1 i2
      walk_at "r"
      intro p np
      walk_at "r"
      refine ⟨_, _, r, s⁻¹, rfl, ⟨p1, rfl, h1.same (same_upd np)⟩, isF_new i1.symm i2.symm, b1, b2.inv hz, trivial, fun H2 u s2 hu => ?_⟩
      exact q _ _ ((same_upd np).trans s2) hu
    · rename_i hn
      rw [if_neg hn] at i1 i2
      walk_at "r"
      intro p np
      walk_at "r"
      refine ⟨_, _, r, s⁻¹, rfl, ⟨p1, rfl, h1.same (same_upd np)⟩, isF_new i1.symm i2.symm, b1, b2.inv hz, trivial, fun H2 u s2 hu => ?_⟩
      exact q _ _ ((same_upd np).trans s2) hu
end
end My
namespace My
open PySem PySem.Spec PyProof.Rows L2
variable {K : PySem.W.Frag}
section
variable {P : Program} {w : World} {K : PySem.W.Frag} {mg : Str → Option Value} {base : Heap} {f__wall f_is_integer f_is_row f_is_fraction f_is_amount f_is_some f_are_amounts f_added f_negated f_lessened f_multiplied f_divided f_squared f_summed f_lies_below f_is_stall f_hold_of f_stalls_of f_kept_of f_held f_roots f_check_purse f_check_wish f_may_stay f_table_of f_strike_row f_are_some f_filled_back f_in_order f_struck_in_turn f_scales f_is_scales f_l_deck f_l_pick f_l_divisor f_l_made f_l_added f_l_taken f_l_product f_l_amount f_l_stall f_l_held f_l_pulls f_l_edge f_l_deep f_l_changed f_l_are_some f_l_due f_l_is_judged f_l_word f_law f_Web_init f_Table_init f_Table_wrong_sign f_Table_behind f_Table_ties_without c_BadPurse c_BadWish c_Table c_Web c_ONE c_ZERO : Addr} {d__wall d_is_integer d_is_row d_is_fraction d_is_amount d_is_some d_are_amounts d_added d_negated d_lessened d_multiplied d_divided d_squared d_summed d_lies_below d_is_stall d_hold_of d_stalls_of d_kept_of d_held d_roots d_check_purse d_check_wish d_may_stay d_table_of d_strike_row d_are_some d_filled_back d_in_order d_struck_in_turn d_scales d_is_scales d_l_deck d_l_pick d_l_divisor d_l_made d_l_added d_l_taken d_l_product d_l_amount d_l_stall d_l_held d_l_pulls d_l_edge d_l_deep d_l_changed d_l_are_some d_l_due d_l_is_judged d_l_word d_law d_Web_init d_Table_init d_Table_wrong_sign d_Table_behind d_Table_ties_without : FuncData}
def sp_is_integer : Sp := fun vs H Q _ => ∃ i : Int, vs = [.int i] ∧ Q (.bl true) H
theorem ok_is_integer (T : Txt K mg f__wall f_is_integer f_is_row f_is_fraction f_is_amount f_is_some f_are_amounts f_added f_negated f_lessened f_multiplied f_divided f_squared f_summed f_lies_below f_is_stall f_hold_of f_stalls_of f_kept_of f_held f_roots f_check_purse f_check_wish f_may_stay f_table_of f_strike_row f_are_some f_filled_back f_in_order f_struck_in_turn f_scales f_is_scales f_l_deck f_l_pick f_l_divisor f_l_made f_l_added f_l_taken f_l_product f_l_amount f_l_stall f_l_held f_l_pulls f_l_edge f_l_deep f_l_changed f_l_are_some f_l_due f_l_is_judged f_l_word f_law f_Web_init f_Table_init f_Table_wrong_sign f_Table_behind f_Table_ties_without c_BadPurse c_BadWish c_Table c_Web c_ONE c_ZERO d__wall d_is_integer d_is_row d_is_fraction d_is_amount d_is_some d_are_amounts d_added d_negated d_lessened d_multiplied d_divided d_squared d_summed d_lies_below d_is_stall d_hold_of d_stalls_of d_kept_of d_held d_roots d_check_purse d_check_wish d_may_stay d_table_of d_strike_row d_are_some d_filled_back d_in_order d_struck_in_turn d_scales d_is_scales d_l_deck d_l_pick d_l_divisor d_l_made d_l_added d_l_taken d_l_product d_l_amount d_l_stall d_l_held d_l_pulls d_l_edge d_l_deep d_l_changed d_l_are_some d_l_due d_l_is_judged d_l_word d_law d_Web_init d_Table_init d_Table_wrong_sign d_Table_behind d_Table_ties_without) : FnOk P w K mg base CX0 1 f_is_integer d_is_integer ["thing"] sp_is_integer := by
  refine T.F_is_integer.ok sc_is_integer (fun vs H Q E h => ?_) (fun cdv A outer s H vs Q E hr h => ?_)
  · obtain ⟨i, rfl, _⟩ := h
    rfl
  · obtain ⟨i, rfl, q⟩ := h
    refine ⟨_, (pss_one (ps_ret (pe_and (pe_callB call_isi (by rfl) T.z_isinstance (by decide +kernel) (pa_cons (pv 0) (pa_cons (pe_bltn (v := .ty "int") (u := .type "int") (by rfl) T.z_int (by decide +kernel) rfl) pa_nil))) (pe_one (pe_not (pe_callB call_isi (by rfl) T.z_isinstance (by decide +kernel) (pa_cons (pv 0) (pa_cons (pe_bltn (v := .ty "bool") (u := .type "bool") (by rfl) T.z_bool (by decide +kernel) rfl) pa_nil)))))))), ?_⟩
    walk_at "r"
    exact q
def sp_is_fraction (K : PySem.W.Frag) : Sp := fun vs H Q _ => ∃ v r, vs = [v] ∧ IsF K H v r ∧ Q (.bl true) H
theorem ok_is_fraction (T : Txt K mg f__wall f_is_integer f_is_row f_is_fraction f_is_amount f_is_some f_are_amounts f_added f_negated f_lessened f_multiplied f_divided f_squared f_summed f_lies_below f_is_stall f_hold_of f_stalls_of f_kept_of f_held f_roots f_check_purse f_check_wish f_may_stay f_table_of f_strike_row f_are_some f_filled_back f_in_order f_struck_in_turn f_scales f_is_scales f_l_deck f_l_pick f_l_divisor f_l_made f_l_added f_l_taken f_l_product f_l_amount f_l_stall f_l_held f_l_pulls f_l_edge f_l_deep f_l_changed f_l_are_some f_l_due f_l_is_judged f_l_word f_law f_Web_init f_Table_init f_Table_wrong_sign f_Table_behind f_Table_ties_without c_BadPurse c_BadWish c_Table c_Web c_ONE c_ZERO d__wall d_is_integer d_is_row d_is_fraction d_is_amount d_is_some d_are_amounts d_added d_negated d_lessened d_multiplied d_divided d_squared d_summed d_lies_below d_is_stall d_hold_of d_stalls_of d_kept_of d_held d_roots d_check_purse d_check_wish d_may_stay d_table_of d_strike_row d_are_some d_filled_back d_in_order d_struck_in_turn d_scales d_is_scales d_l_deck d_l_pick d_l_divisor d_l_made d_l_added d_l_taken d_l_product d_l_amount d_l_stall d_l_held d_l_pulls d_l_edge d_l_deep d_l_changed d_l_are_some d_l_due d_l_is_judged d_l_word d_law d_Web_init d_Table_init d_Table_wrong_sign d_Table_behind d_Table_ties_without) : FnOk P w K mg base CX0 2 f_is_fraction d_is_fraction ["thing"] (sp_is_fraction K) := by
  have G_is_integer : FnOk P w K mg base CX0 1 f_is_integer d_is_integer ["thing"] sp_is_integer := ok_is_integer T
  refine T.F_is_fraction.ok sc_is_fraction (fun vs H Q E h => ?_) (fun cdv A outer s H vs Q E hr h => ?_)
  · obtain ⟨v, r, rfl, _⟩ := h
    rfl
  · obtain ⟨v, r, rfl, ⟨p, rfl, hp⟩, q⟩ := h
    refine ⟨_, (pss_cons (ps_if (PW.pt (pw_or (pt_not (pt_val (pe_callB call_isi (by rfl) T.z_isinstance (by decide +kernel) (pa_cons (pv 0) (pa_cons (pe_bltn (v := .ty "tuple") (u := .type "tuple") (by rfl) T.z_tuple (by decide +kernel) rfl) pa_nil))))) (pw_or1 (pt_cmpR op_ne (pe_callB call_lenN (by rfl) T.z_len (by decide +kernel) (pa_cons (pv 0) pa_nil)) pe_int (nomark _)))))
        (pss_one (ps_ret pe_bl))
        pss_nil)
      (pss_cons (ps_asg (pv 0) (pg_tup rfl (pgs_cons (pg_name (i := 1) sc_is_fraction.nd rfl (by first | exact Or.inl rfl | exact Or.inr rfl)) (pgs_cons (pg_name (i := 2) sc_is_fraction.nd rfl (by first | exact Or.inl rfl | exact Or.inr rfl)) pgs_nil))))
      (pss_cons (ps_if (PW.pt (pw_or (pt_not (pt_val (pe_call G_is_integer (hr.mono (by decide)) (by rfl) T.g_is_integer T.k_is_integer T.b_is_integer .nil pass0 (pa_cons (pv 1) pa_nil)))) (pw_or1 (pt_not (pt_val (pe_call G_is_integer (hr.mono (by decide)) (by rfl) T.g_is_integer T.k_is_integer T.b_is_integer .nil pass0 (pa_cons (pv 2) pa_nil)))))))
        (pss_one (ps_ret pe_bl))
        pss_nil)
      (pss_one (ps_ret (pe_and (pe_cmpR op_ge (pv 2) pe_int (nomark _)) (pe_one (pe_cmpR op_eq (pe_callBfun cr_gcd (by rfl) T.m_gcd (pa_cons (pv 1) (pa_cons (pv 2) pa_nil))) pe_int (nomark _))))))))), ?_⟩
    walk_at "r"
    refine ⟨_, rfl, ?_⟩
    walk_at "r"
    refine ⟨_, rfl, ?_⟩
    walk_at "r"
    have h1 := den_pos r
    have h2 := gcd_den r
    walk_at "r"
    rw [Int.natAbs_natCast, h2]
    exact q
end
end My
namespace My
open PySem PySem.Spec PyProof.Rows L2
variable {K : PySem.W.Frag}
theorem num_pos' {r : Rat} (h : 0 < r) : 0 < r.num := by
  rw [Rat.lt_iff] at h
  simpa using h
theorem sq_num (s : Rat) : (s * s).num = s.num * s.num ∧ (s * s).den = s.den * s.den := by
  obtain ⟨h1, h2⟩ := mul_form s s 1 1 (gcd_den s).symm (gcd_den s).symm
  rw [h1, h2]
  simp
section
variable {P : Program} {w : World} {K : PySem.W.Frag} {mg : Str → Option Value} {base : Heap} {f__wall f_is_integer f_is_row f_is_fraction f_is_amount f_is_some f_are_amounts f_added f_negated f_lessened f_multiplied f_divided f_squared f_summed f_lies_below f_is_stall f_hold_of f_stalls_of f_kept_of f_held f_roots f_check_purse f_check_wish f_may_stay f_table_of f_strike_row f_are_some f_filled_back f_in_order f_struck_in_turn f_scales f_is_scales f_l_deck f_l_pick f_l_divisor f_l_made f_l_added f_l_taken f_l_product f_l_amount f_l_stall f_l_held f_l_pulls f_l_edge f_l_deep f_l_changed f_l_are_some f_l_due f_l_is_judged f_l_word f_law f_Web_init f_Table_init f_Table_wrong_sign f_Table_behind f_Table_ties_without c_BadPurse c_BadWish c_Table c_Web c_ONE c_ZERO : Addr} {d__wall d_is_integer d_is_row d_is_fraction d_is_amount d_is_some d_are_amounts d_added d_negated d_lessened d_multiplied d_divided d_squared d_summed d_lies_below d_is_stall d_hold_of d_stalls_of d_kept_of d_held d_roots d_check_purse d_check_wish d_may_stay d_table_of d_strike_row d_are_some d_filled_back d_in_order d_struck_in_turn d_scales d_is_scales d_l_deck d_l_pick d_l_divisor d_l_made d_l_added d_l_taken d_l_product d_l_amount d_l_stall d_l_held d_l_pulls d_l_edge d_l_deep d_l_changed d_l_are_some d_l_due d_l_is_judged d_l_word d_law d_Web_init d_Table_init d_Table_wrong_sign d_Table_behind d_Table_ties_without : FuncData}
def sp_is_some (K : PySem.W.Frag) : Sp := fun vs H Q _ => ∃ v r, vs = [v] ∧ IsF K H v r ∧ 0 < r ∧ Q (.bl true) H
theorem ok_is_some (T : Txt K mg f__wall f_is_integer f_is_row f_is_fraction f_is_amount f_is_some f_are_amounts f_added f_negated f_lessened f_multiplied f_divided f_squared f_summed f_lies_below f_is_stall f_hold_of f_stalls_of f_kept_of f_held f_roots f_check_purse f_check_wish f_may_stay f_table_of f_strike_row f_are_some f_filled_back f_in_order f_struck_in_turn f_scales f_is_scales f_l_deck f_l_pick f_l_divisor f_l_made f_l_added f_l_taken f_l_product f_l_amount f_l_stall f_l_held f_l_pulls f_l_edge f_l_deep f_l_changed f_l_are_some f_l_due f_l_is_judged f_l_word f_law f_Web_init f_Table_init f_Table_wrong_sign f_Table_behind f_Table_ties_without c_BadPurse c_BadWish c_Table c_Web c_ONE c_ZERO d__wall d_is_integer d_is_row d_is_fraction d_is_amount d_is_some d_are_amounts d_added d_negated d_lessened d_multiplied d_divided d_squared d_summed d_lies_below d_is_stall d_hold_of d_stalls_of d_kept_of d_held d_roots d_check_purse d_check_wish d_may_stay d_table_of d_strike_row d_are_some d_filled_back d_in_order d_struck_in_turn d_scales d_is_scales d_l_deck d_l_pick d_l_divisor d_l_made d_l_added d_l_taken d_l_product d_l_amount d_l_stall d_l_held d_l_pulls d_l_edge d_l_deep d_l_changed d_l_are_some d_l_due d_l_is_judged d_l_word d_law d_Web_init d_Table_init d_Table_wrong_sign d_Table_behind d_Table_ties_without) : FnOk P w K mg base CX0 3 f_is_some d_is_some ["thing"] (sp_is_some K) := by
  have G_is_fraction : FnOk P w K mg base CX0 2 f_is_fraction d_is_fraction ["thing"] (sp_is_fraction K) := ok_is_fraction T
  refine T.F_is_some.ok sc_is_some (fun vs H Q E h => ?_) (fun cdv A outer s H vs Q E hr h => ?_)
  · obtain ⟨v, r, rfl, _⟩ := h
    rfl
  · obtain ⟨v, r, rfl, h, r0, q⟩ := h
    obtain ⟨p, rfl, hp⟩ := id h
    have hn := num_pos' r0
    refine ⟨_, (pss_one (ps_ret (pe_and (pe_call G_is_fraction (hr.mono (by decide)) (by rfl) T.g_is_fraction T.k_is_fraction T.b_is_fraction .nil pass0 (pa_cons (pv 0) pa_nil)) (pe_one (pe_cmpR op_gt (pe_ix ix_tup (pv 0) pe_int (fun _ _ => rfl)) pe_int (nomark _)))))), ?_⟩
    walk_at "r"
    refine ⟨_, _, rfl, h, ?_⟩
    walk_at "r"
    rw [decide_eq_true hn]
    exact q
def sp_squared (K : PySem.W.Frag) : Sp := fun vs H Q _ => ∃ v r, vs = [v] ∧ IsF K H v r ∧ Bd 8900 r ∧ ∀ H' u, Same H H' → IsF K H' u (r * r) → Q u H'
theorem ok_squared (T : Txt K mg f__wall f_is_integer f_is_row f_is_fraction f_is_amount f_is_some f_are_amounts f_added f_negated f_lessened f_multiplied f_divided f_squared f_summed f_lies_below f_is_stall f_hold_of f_stalls_of f_kept_of f_held f_roots f_check_purse f_check_wish f_may_stay f_table_of f_strike_row f_are_some f_filled_back f_in_order f_struck_in_turn f_scales f_is_scales f_l_deck f_l_pick f_l_divisor f_l_made f_l_added f_l_taken f_l_product f_l_amount f_l_stall f_l_held f_l_pulls f_l_edge f_l_deep f_l_changed f_l_are_some f_l_due f_l_is_judged f_l_word f_law f_Web_init f_Table_init f_Table_wrong_sign f_Table_behind f_Table_ties_without c_BadPurse c_BadWish c_Table c_Web c_ONE c_ZERO d__wall d_is_integer d_is_row d_is_fraction d_is_amount d_is_some d_are_amounts d_added d_negated d_lessened d_multiplied d_divided d_squared d_summed d_lies_below d_is_stall d_hold_of d_stalls_of d_kept_of d_held d_roots d_check_purse d_check_wish d_may_stay d_table_of d_strike_row d_are_some d_filled_back d_in_order d_struck_in_turn d_scales d_is_scales d_l_deck d_l_pick d_l_divisor d_l_made d_l_added d_l_taken d_l_product d_l_amount d_l_stall d_l_held d_l_pulls d_l_edge d_l_deep d_l_changed d_l_are_some d_l_due d_l_is_judged d_l_word d_law d_Web_init d_Table_init d_Table_wrong_sign d_Table_behind d_Table_ties_without) : FnOk P w K mg base CX0 1 f_squared d_squared ["one"] (sp_squared K) := by
  refine T.F_squared.ok sc_squared (fun vs H Q E h => ?_) (fun cdv A outer s H vs Q E hr h => ?_)
  · obtain ⟨v, r, rfl, _⟩ := h
    rfl
  · obtain ⟨v, r, rfl, ⟨p, rfl, hp⟩, b, q⟩ := h
    obtain ⟨e1, e2⟩ := sq_num r
    refine ⟨_, (pss_one (ps_ret (pe_tup (pa_cons (pe_op op_mulX (pe_ix ix_tup (pv 0) pe_int (fun _ _ => rfl)) (pe_ix ix_tup (pv 0) pe_int (fun _ _ => rfl))) (pa_cons (pe_op op_mulX (pe_ix ix_tup (pv 0) pe_int (fun _ _ => rfl)) (pe_ix ix_tup (pv 0) pe_int (fun _ _ => rfl))) pa_nil))))), ?_⟩
    walk_at "r"
    · intro p2 n2
      exact q _ _ (same_upd n2) (isF_new e1 (by rw [e2, Int.natCast_mul]))
    · exact cmx (by rw [Int.natAbs_natCast]; exact p46 b.2) (by rw [Int.natAbs_natCast]; exact p46 b.2)
    · exact cmx (p46 b.1) (p46 b.1)
def sp_is_stall (K : PySem.W.Frag) : Sp := fun vs H Q _ => ∃ (n : Nat) (x : V) (s : Stl), vs = [.int (n : Nat), x] ∧ IsSt K H x s ∧ OkSt n s ∧ BdSt 8900 s ∧ ∀ H', Same H H' → Q (.bl true) H'
theorem ok_is_stall (T : Txt K mg f__wall f_is_integer f_is_row f_is_fraction f_is_amount f_is_some f_are_amounts f_added f_negated f_lessened f_multiplied f_divided f_squared f_summed f_lies_below f_is_stall f_hold_of f_stalls_of f_kept_of f_held f_roots f_check_purse f_check_wish f_may_stay f_table_of f_strike_row f_are_some f_filled_back f_in_order f_struck_in_turn f_scales f_is_scales f_l_deck f_l_pick f_l_divisor f_l_made f_l_added f_l_taken f_l_product f_l_amount f_l_stall f_l_held f_l_pulls f_l_edge f_l_deep f_l_changed f_l_are_some f_l_due f_l_is_judged f_l_word f_law f_Web_init f_Table_init f_Table_wrong_sign f_Table_behind f_Table_ties_without c_BadPurse c_BadWish c_Table c_Web c_ONE c_ZERO d__wall d_is_integer d_is_row d_is_fraction d_is_amount d_is_some d_are_amounts d_added d_negated d_lessened d_multiplied d_divided d_squared d_summed d_lies_below d_is_stall d_hold_of d_stalls_of d_kept_of d_held d_roots d_check_purse d_check_wish d_may_stay d_table_of d_strike_row d_are_some d_filled_back d_in_order d_struck_in_turn d_scales d_is_scales d_l_deck d_l_pick d_l_divisor d_l_made d_l_added d_l_taken d_l_product d_l_amount d_l_stall d_l_held d_l_pulls d_l_edge d_l_deep d_l_changed d_l_are_some d_l_due d_l_is_judged d_l_word d_law d_Web_init d_Table_init d_Table_wrong_sign d_Table_behind d_Table_ties_without) : FnOk P w K mg base CX0 4 f_is_stall d_is_stall ["wares", "thing"] (sp_is_stall K) := by
  have G_is_integer : FnOk P w K mg base CX0 1 f_is_integer d_is_integer ["thing"] sp_is_integer := ok_is_integer T
  have G_is_some : FnOk P w K mg base CX0 3 f_is_some d_is_some ["thing"] (sp_is_some K) := ok_is_some T
  have G_multiplied : FnOk P w K mg base CX0 1 f_multiplied d_multiplied ["one", "other"] (sp_multiplied K) := ok_multiplied T
  have G_squared : FnOk P w K mg base CX0 1 f_squared d_squared ["one"] (sp_squared K) := ok_squared T
  refine T.F_is_stall.ok sc_is_stall (fun vs H Q E h => ?_) (fun cdv A outer s H vs Q E hr h => ?_)
  · obtain ⟨n, x, s, rfl, _⟩ := h
    rfl
  · obtain ⟨n, x, s, rfl, ⟨p, va, vb, vr, rfl, hp, ha, hb, hr'⟩, ok, bd, q⟩ := h
    have hu := ok.u
    have hv := ok.v
    have hne := ok.ne
    refine ⟨_, (pss_cons (ps_if (PW.pt (pw_or (pt_not (pt_val (pe_callB call_isi (by rfl) T.z_isinstance (by decide +kernel) (pa_cons (pv 1) (pa_cons (pe_bltn (v := .ty "tuple") (u := .type "tuple") (by rfl) T.z_tuple (by decide +kernel) rfl) pa_nil))))) (pw_or1 (pt_cmpR op_ne (pe_callB call_lenN (by rfl) T.z_len (by decide +kernel) (pa_cons (pv 1) pa_nil)) pe_int (nomark _)))))
        (pss_one (ps_ret pe_bl))
        pss_nil)
      (pss_cons (ps_asg (pv 1) (pg_tup rfl (pgs_cons (pg_name (i := 2) sc_is_stall.nd rfl (by first | exact Or.inl rfl | exact Or.inr rfl)) (pgs_cons (pg_name (i := 3) sc_is_stall.nd rfl (by first | exact Or.inl rfl | exact Or.inr rfl)) (pgs_cons (pg_name (i := 4) sc_is_stall.nd rfl (by first | exact Or.inl rfl | exact Or.inr rfl)) (pgs_cons (pg_name (i := 5) sc_is_stall.nd rfl (by first | exact Or.inl rfl | exact Or.inr rfl)) (pgs_cons (pg_name (i := 6) sc_is_stall.nd rfl (by first | exact Or.inl rfl | exact Or.inr rfl)) pgs_nil)))))))
      (pss_cons (ps_for PassesOwn.never rfl (pi_tup (pe_tup (pa_cons (pv 2) (pa_cons (pv 3) pa_nil)))) (pg_name (i := 7) sc_is_stall.nd rfl (by first | exact Or.inl rfl | exact Or.inr rfl))
        (pss_one (ps_if (PW.pt (pw_or (pt_not (pt_val (pe_call G_is_integer (hr.mono (by decide)) (by rfl) T.g_is_integer T.k_is_integer T.b_is_integer .nil pass0 (pa_cons (pv 7) pa_nil)))) (pw_or1 (pt_not (pt_chain op_le op_lt pe_int (pv 7) (pv 0))))))
            (pss_one (ps_ret pe_bl))
            pss_nil)))
      (pss_cons (ps_if (PW.pt (pw_or (pt_cmpR op_eq (pv 2) (pv 3) (nomark _)) (pw_or1 (pt_not (PW.pt (pw_and (pt_val (pe_call G_is_some (hr.mono (by decide)) (by rfl) T.g_is_some T.k_is_some T.b_is_some .nil pass0 (pa_cons (pv 4) pa_nil))) (pw_and (pt_val (pe_call G_is_some (hr.mono (by decide)) (by rfl) T.g_is_some T.k_is_some T.b_is_some .nil pass0 (pa_cons (pv 5) pa_nil))) (pw_and1 (pt_val (pe_call G_is_some (hr.mono (by decide)) (by rfl) T.g_is_some T.k_is_some T.b_is_some .nil pass0 (pa_cons (pv 6) pa_nil)))))))))))
        (pss_one (ps_ret pe_bl))
        pss_nil)
      (pss_one (ps_ret (pe_cmpR (op_eqD hr.units) (pe_call G_multiplied (hr.mono (by decide)) (by rfl) T.g_multiplied T.k_multiplied T.b_multiplied .nil pass0 (pa_cons (pv 4) (pa_cons (pv 5) pa_nil))) (pe_call G_squared (hr.mono (by decide)) (by rfl) T.g_squared T.k_squared T.b_squared .nil pass0 (pa_cons (pv 6) pa_nil)) (nomark _)))))))), ?_⟩
    walk_at "r"
    intro t nt
    have sm := same_upd (o := .tup [V.int (s.u : Nat), .int (s.v : Nat)]) nt
    have ht : upd H t (.tup [V.int (s.u : Nat), .int (s.v : Nat)]) t = some (.tup [V.int (s.u : Nat), .int (s.v : Nat)]) := upd_same
    generalize upd H t (.tup [V.int (s.u : Nat), .int (s.v : Nat)]) = H1 at *
    have ha := ha.same sm
    have hb := hb.same sm
    have hr' := hr'.same sm
    refine ⟨_, rfl, ⟨_, .of ht⟩, ?_⟩
    refine for_tup (K := K) (a := t) (xs := [V.int (s.u : Nat), .int (s.v : Nat)]) (fun i σ H' => ∃ t7, σ = [some (.int (n : Nat)), some (.ref p), some (.int (s.u : Nat)), some (.int (s.v : Nat)), some va, some vb, some vr, t7] ∧ H' = H1) ⟨_, rfl, rfl⟩ ?_ ?_ ?_
    · rintro i σ H' _ ⟨t7, rfl, rfl⟩
      exact .of ht
    · rintro i z σ H' hz ⟨t7, rfl, rfl⟩
      obtain ⟨k, rfl, hk⟩ : ∃ k : Nat, z = .int (k : Nat) ∧ k < n := by
        match i, hz with
        | 0, hz => exact ⟨_, (Option.some.inj hz).symm, hu⟩
        | 1, hz => exact ⟨_, (Option.some.inj hz).symm, hv⟩
      walk_at "r"
      refine ⟨_, rfl, ?_⟩
      walk_at "r"
      exact rfl
    · rintro σ H' ⟨t7, rfl, rfl⟩
      walk_at "r"
      refine ⟨_, _, rfl, ha, ok.a, ?_⟩
      walk_at "r"
      refine ⟨_, _, rfl, hb, ok.b, ?_⟩
      walk_at "r"
      refine ⟨_, _, rfl, hr', ok.r, ?_⟩
      walk_at "r"
      refine ⟨_, _, _, _, rfl, ha, hb, bd.a, bd.b, trivial, fun H2 x1 s1 h1 => ?_⟩
      walk_at "r"
      refine ⟨_, _, rfl, hr'.same s1, bd.r, fun H3 x2 s2 h2 => ?_⟩
      walk_at "r"
      refine eqF (h1.same s2) h2 ?_
      rw [decide_eq_true ok.e]
      exact q _ ((sm.trans s1).trans s2)
def sp_is_row : Sp := fun vs H Q _ => ∃ L xs, vs = [.ref L] ∧ (H L = some (.lst xs) ∨ H L = some (.tup xs)) ∧ ∀ H', Same H H' → Q (.bl true) H'
theorem ok_is_row (T : Txt K mg f__wall f_is_integer f_is_row f_is_fraction f_is_amount f_is_some f_are_amounts f_added f_negated f_lessened f_multiplied f_divided f_squared f_summed f_lies_below f_is_stall f_hold_of f_stalls_of f_kept_of f_held f_roots f_check_purse f_check_wish f_may_stay f_table_of f_strike_row f_are_some f_filled_back f_in_order f_struck_in_turn f_scales f_is_scales f_l_deck f_l_pick f_l_divisor f_l_made f_l_added f_l_taken f_l_product f_l_amount f_l_stall f_l_held f_l_pulls f_l_edge f_l_deep f_l_changed f_l_are_some f_l_due f_l_is_judged f_l_word f_law f_Web_init f_Table_init f_Table_wrong_sign f_Table_behind f_Table_ties_without c_BadPurse c_BadWish c_Table c_Web c_ONE c_ZERO d__wall d_is_integer d_is_row d_is_fraction d_is_amount d_is_some d_are_amounts d_added d_negated d_lessened d_multiplied d_divided d_squared d_summed d_lies_below d_is_stall d_hold_of d_stalls_of d_kept_of d_held d_roots d_check_purse d_check_wish d_may_stay d_table_of d_strike_row d_are_some d_filled_back d_in_order d_struck_in_turn d_scales d_is_scales d_l_deck d_l_pick d_l_divisor d_l_made d_l_added d_l_taken d_l_product d_l_amount d_l_stall d_l_held d_l_pulls d_l_edge d_l_deep d_l_changed d_l_are_some d_l_due d_l_is_judged d_l_word d_law d_Web_init d_Table_init d_Table_wrong_sign d_Table_behind d_Table_ties_without) : FnOk P w K mg base CX0 1 f_is_row d_is_row ["thing"] sp_is_row := by
  refine T.F_is_row.ok sc_is_row (fun vs H Q E h => ?_) (fun cdv A outer s H vs Q E hr h => ?_)
  · obtain ⟨L, xs, rfl, _⟩ := h
    rfl
  · obtain ⟨L, xs, rfl, h, q⟩ := h
    refine ⟨_, (pss_one (ps_ret (pe_callB call_isiT (by rfl) T.z_isinstance (by decide +kernel) (pa_cons (pv 0) (pa_cons (pe_tup (pa_cons (pe_bltn (v := .ty "list") (u := .type "list") (by rfl) T.z_list (by decide +kernel) rfl) (pa_cons (pe_bltn (v := .ty "tuple") (u := .type "tuple") (by rfl) T.z_tuple (by decide +kernel) rfl) pa_nil))) pa_nil))))), ?_⟩
    walk_at "r"
    intro p np
    walk_at "r"
    rcases h with h | h
    · refine ⟨_, _, _, _, _, true, rfl, upd_same, .cons (.ty _) (.cons (.ty _) .nil), .base (.lst (same_upd np _ _ h)), kitAny_cons (b := true) (kit_ty (by decide +kernel)) (fun z => Bool.noConfusion z) (fun _ => rfl), ?_⟩
      exact q _ (same_upd np)
    · refine ⟨_, _, _, _, _, true, rfl, upd_same, .cons (.ty _) (.cons (.ty _) .nil), .base (.tup (same_upd np _ _ h)), kitAny_cons (b := false) (kit_ty (by decide +kernel)) (fun _ => kitAny_cons (b := true) (kit_ty (by decide +kernel)) (fun z => Bool.noConfusion z) (fun _ => rfl)) (fun z => Bool.noConfusion z), ?_⟩
      exact q _ (same_upd np)
end
end My
namespace My
open PySem PySem.Spec PyProof.Rows L2
variable {K : PySem.W.Frag}
/-! ### tables in the heap -/
def tF (S T : Addr) : List (Str × V) := [("slants", .ref S), ("ties", .ref T)]
theorem tF_slants (S T : Addr) : (tF S T).lookup ("slants" : Str) = some (.ref S) := lk_here
theorem tF_ties (S T : Addr) : (tF S T).lookup ("ties" : Str) = some (.ref T) := (lk_past (by decide +kernel)).trans lk_here
theorem tF_new (S T : Addr) : putF "ties" (.ref T) (putF "slants" (.ref S) []) = tF S T := by
  have h : ¬ (("slants" : Str) = "ties") := by decide +kernel
  show putF "ties" (.ref T) [("slants", .ref S)] = _
  simp [putF, h, tF]
theorem tF_no {S T : Addr} {m : Str} (h1 : (m == ("slants" : Str)) = false) (h2 : (m == ("ties" : Str)) = false) : (tF S T).lookup m = none := (lk_past h1).trans ((lk_past h2).trans rfl)
/-- a dict of fractions: its keys, and what each holds -/
def IsDf (K : PySem.W.Frag) (H : Hp) (D : Addr) (js : List Nat) (f : Nat → Rat) : Prop := ∃ g, H D = some (.dK (dkv js g)) ∧ ∀ j ∈ js, IsF K H (g j) (f j)
theorem IsDf.same {H H' : Hp} {D : Addr} {js : List Nat} {f : Nat → Rat} (s : Same H H') (h : IsDf K H D js f) : IsDf K H' D js f := by
  obtain ⟨g, a, b⟩ := h
  exact ⟨g, s _ _ a, fun j hj => (b j hj).same s⟩
theorem IsDf.fw {H H' : Hp} {D d : Addr} {js : List Nat} {f : Nat → Rat} (s : Fw d H H') (t : Tps H H') (n : D ≠ d) (h : IsDf K H D js f) : IsDf K H' D js f := by
  obtain ⟨g, a, b⟩ := h
  exact ⟨g, s _ _ n a, fun j hj => (b j hj).ts t⟩
theorem IsDf.congr {H : Hp} {D : Addr} {js : List Nat} {f f' : Nat → Rat} (h : IsDf K H D js f) (e : ∀ j ∈ js, f j = f' j) : IsDf K H D js f' := by
  obtain ⟨g, a, b⟩ := h
  exact ⟨g, a, fun j hj => e j hj ▸ b j hj⟩
/-- the ties of one ware -/
def TieR (K : PySem.W.Frag) (H : Hp) (D : Addr) (ls : List Nat) (i : Nat) (f : Nat → Rat) : Prop := ∃ js, IsDf K H D js (fun j => -f j) ∧ js.Nodup ∧ ∀ j, j ∈ js ↔ j ∈ ls ∧ j ≠ i ∧ f j ≠ 0
theorem TieR.same {H H' : Hp} {D : Addr} {ls : List Nat} {i : Nat} {f : Nat → Rat} (s : Same H H') (h : TieR K H D ls i f) : TieR K H' D ls i f := by
  obtain ⟨js, a, b⟩ := h
  exact ⟨js, a.same s, b⟩
theorem TieR.fw {H H' : Hp} {D d : Addr} {ls : List Nat} {i : Nat} {f : Nat → Rat} (s : Fw d H H') (t : Tps H H') (n : D ≠ d) (h : TieR K H D ls i f) : TieR K H' D ls i f := by
  obtain ⟨js, a, b⟩ := h
  exact ⟨js, a.fw s t n, b⟩
theorem TieR.congr {H : Hp} {D : Addr} {ls : List Nat} {i : Nat} {f f' : Nat → Rat} (h : TieR K H D ls i f) (e : ∀ j ∈ ls, j ≠ i → f j = f' j) : TieR K H D ls i f' := by
  obtain ⟨js, a, b, c⟩ := h
  refine ⟨js, a.congr fun j hj => ?_, b, fun j => ?_⟩
  · obtain ⟨h1, h2, _⟩ := (c j).mp hj
    rw [e j h1 h2]
  · rw [c j]
    constructor
    · rintro ⟨h1, h2, h3⟩
      exact ⟨h1, h2, by rw [← e j h1 h2]; exact h3⟩
    · rintro ⟨h1, h2, h3⟩
      exact ⟨h1, h2, by rw [e j h1 h2]; exact h3⟩
def IsTb (K : PySem.W.Frag) (C : Addr) (H : Hp) (x : V) (ls : List Nat) (M : Tbl) : Prop := ∃ p dx S T g2, x = .ref p ∧ H p = some (.ins C dx (tF S T)) ∧ IsDf K H S ls (fun i => M i i) ∧ H T = some (.dK (dkv ls g2)) ∧ ∀ i ∈ ls, ∃ D, g2 i = .ref D ∧ TieR K H D ls i (M i)
theorem IsTb.same {C : Addr} {H H' : Hp} {x : V} {ls : List Nat} {M : Tbl} (s : Same H H') (h : IsTb K C H x ls M) : IsTb K C H' x ls M := by
  obtain ⟨p, dx, S, T, g2, e, h1, h2, h3, h4⟩ := h
  exact ⟨p, dx, S, T, g2, e, s _ _ h1, h2.same s, s _ _ h3, fun i hi => by
    obtain ⟨D, a, b⟩ := h4 i hi
    exact ⟨D, a, b.same s⟩⟩
theorem dget {H : Hp} {D : Addr} {js : List Nat} {g : Nat → V} {j : Nat} (h : H D = some (.dK (dkv js g))) (hj : j ∈ js) : DGet H D (.int (j : Nat)) (some (g j)) := .inl ⟨_, ky j, .inl h, rfl, (valV_dkv hj).symm⟩
theorem dgetF {H : Hp} {D : Addr} {js : List Nat} {g : Nat → V} {j : Nat} {od : Obj} (h : H D = some (.frz od (.dK (dkv js g)))) (hj : j ∈ js) : DGet H D (.int (j : Nat)) (some (g j)) := .inl ⟨_, ky j, .inr ⟨od, h⟩, rfl, (valV_dkv hj).symm⟩
theorem dgetN {H : Hp} {D : Addr} {js : List Nat} {g : Nat → V} {j : Nat} (h : H D = some (.dK (dkv js g))) (hj : ¬ j ∈ js) : DGet H D (.int (j : Nat)) none := .inl ⟨_, ky j, .inl h, rfl, (valV_dkvN hj).symm⟩
theorem take_filter {ls : List Nat} {p : Nat → Bool} {i j : Nat} (h : ls[i]? = some j) : (ls.take (i + 1)).filter p = (ls.take i).filter p ++ (if p j = true then [j] else []) := by
  rw [List.take_add_one, h, List.filter_append]
  congr 1
  show [j].filter p = _
  by_cases e : p j = true
  · simp [e]
  · simp [e]
theorem take_not {ls : List Nat} (nd : ls.Nodup) {i j : Nat} (h : ls[i]? = some j) : ¬ j ∈ ls.take i := fun z => by
  obtain ⟨q, hq⟩ := List.getElem?_of_mem z
  have hq' : q < i := by
    have := (List.getElem?_eq_some_iff.mp hq).1
    rw [List.length_take] at this
    omega
  rw [List.getElem?_take_of_lt hq'] at hq
  obtain ⟨l1, e1⟩ := List.getElem?_eq_some_iff.mp h
  obtain ⟨l2, e2⟩ := List.getElem?_eq_some_iff.mp hq
  exact (List.pairwise_iff_getElem.mp nd) q i l2 l1 hq' (e2.trans e1.symm)
theorem small_dkv {js : List Nat} {g : Nat → V} (h : js.length ≤ 16) : (dkv js g).length < sizeLine := by
  rw [dkv_len]
  exact small1000 (by omega)
section
variable {P : Program} {w : World} {K : PySem.W.Frag} {mg : Str → Option Value} {base : Heap} {f__wall f_is_integer f_is_row f_is_fraction f_is_amount f_is_some f_are_amounts f_added f_negated f_lessened f_multiplied f_divided f_squared f_summed f_lies_below f_is_stall f_hold_of f_stalls_of f_kept_of f_held f_roots f_check_purse f_check_wish f_may_stay f_table_of f_strike_row f_are_some f_filled_back f_in_order f_struck_in_turn f_scales f_is_scales f_l_deck f_l_pick f_l_divisor f_l_made f_l_added f_l_taken f_l_product f_l_amount f_l_stall f_l_held f_l_pulls f_l_edge f_l_deep f_l_changed f_l_are_some f_l_due f_l_is_judged f_l_word f_law f_Web_init f_Table_init f_Table_wrong_sign f_Table_behind f_Table_ties_without c_BadPurse c_BadWish c_Table c_Web c_ONE c_ZERO : Addr} {d__wall d_is_integer d_is_row d_is_fraction d_is_amount d_is_some d_are_amounts d_added d_negated d_lessened d_multiplied d_divided d_squared d_summed d_lies_below d_is_stall d_hold_of d_stalls_of d_kept_of d_held d_roots d_check_purse d_check_wish d_may_stay d_table_of d_strike_row d_are_some d_filled_back d_in_order d_struck_in_turn d_scales d_is_scales d_l_deck d_l_pick d_l_divisor d_l_made d_l_added d_l_taken d_l_product d_l_amount d_l_stall d_l_held d_l_pulls d_l_edge d_l_deep d_l_changed d_l_are_some d_l_due d_l_is_judged d_l_word d_law d_Web_init d_Table_init d_Table_wrong_sign d_Table_behind d_Table_ties_without : FuncData}
def sp_Tinit (K : PySem.W.Frag) (C : Addr) : Sp := fun vs H Q _ => ∃ (p dx S T : Addr), vs = [.ref p, .ref S, .ref T] ∧ H p = some (.ins C dx []) ∧ ∀ H', H' p = some (.ins C dx (tF S T)) → (∀ b, b ≠ p → H' b = H b) → Q .non H'
theorem ok_Table_init (T : Txt K mg f__wall f_is_integer f_is_row f_is_fraction f_is_amount f_is_some f_are_amounts f_added f_negated f_lessened f_multiplied f_divided f_squared f_summed f_lies_below f_is_stall f_hold_of f_stalls_of f_kept_of f_held f_roots f_check_purse f_check_wish f_may_stay f_table_of f_strike_row f_are_some f_filled_back f_in_order f_struck_in_turn f_scales f_is_scales f_l_deck f_l_pick f_l_divisor f_l_made f_l_added f_l_taken f_l_product f_l_amount f_l_stall f_l_held f_l_pulls f_l_edge f_l_deep f_l_changed f_l_are_some f_l_due f_l_is_judged f_l_word f_law f_Web_init f_Table_init f_Table_wrong_sign f_Table_behind f_Table_ties_without c_BadPurse c_BadWish c_Table c_Web c_ONE c_ZERO d__wall d_is_integer d_is_row d_is_fraction d_is_amount d_is_some d_are_amounts d_added d_negated d_lessened d_multiplied d_divided d_squared d_summed d_lies_below d_is_stall d_hold_of d_stalls_of d_kept_of d_held d_roots d_check_purse d_check_wish d_may_stay d_table_of d_strike_row d_are_some d_filled_back d_in_order d_struck_in_turn d_scales d_is_scales d_l_deck d_l_pick d_l_divisor d_l_made d_l_added d_l_taken d_l_product d_l_amount d_l_stall d_l_held d_l_pulls d_l_edge d_l_deep d_l_changed d_l_are_some d_l_due d_l_is_judged d_l_word d_law d_Web_init d_Table_init d_Table_wrong_sign d_Table_behind d_Table_ties_without) : FnOk P w K mg base CX0 1 f_Table_init d_Table_init ["self", "slants", "ties"] (sp_Tinit K c_Table) := by
  refine T.F_Table_init.ok sc_Table_init (fun vs H Q E h => ?_) (fun cdv A outer s H vs Q E hr h => ?_)
  · obtain ⟨p, dx, S, T, rfl, _⟩ := h
    rfl
  · obtain ⟨p, dx, S, Ta, rfl, hp, q⟩ := h
    refine ⟨_, (pss_cons (ps_fld (pv 0) (pv 1) rfl)
      (pss_one (ps_fld (pv 0) (pv 2) rfl))), ?_⟩
    walk_at "r"
    refine ⟨_, _, _, _, rfl, hp, T.w_Table.it.cl, T.n_Table_slants, by decide, ?_⟩
    walk_at "r"
    refine ⟨_, _, _, _, rfl, upd_same, T.w_Table.it.cl, T.n_Table_ties, by show 1 < 1000; decide, ?_⟩
    walk_at "r"
    refine q _ ?_ fun b hb => ?_
    · rw [upd_same, tF_new]
    · rw [upd_ne hb, upd_ne hb]
def sp_wsign (K : PySem.W.Frag) (C : Addr) : Sp := fun vs H Q _ => ∃ (x : V) (k : Nat) (ls : List Nat) (M : Tbl), vs = [x, .int (k : Nat)] ∧ IsTb K C H x ls M ∧ k ∈ ls ∧ Q (.bl (decide (wrong M ls k))) H
theorem ok_Table_wrong_sign (T : Txt K mg f__wall f_is_integer f_is_row f_is_fraction f_is_amount f_is_some f_are_amounts f_added f_negated f_lessened f_multiplied f_divided f_squared f_summed f_lies_below f_is_stall f_hold_of f_stalls_of f_kept_of f_held f_roots f_check_purse f_check_wish f_may_stay f_table_of f_strike_row f_are_some f_filled_back f_in_order f_struck_in_turn f_scales f_is_scales f_l_deck f_l_pick f_l_divisor f_l_made f_l_added f_l_taken f_l_product f_l_amount f_l_stall f_l_held f_l_pulls f_l_edge f_l_deep f_l_changed f_l_are_some f_l_due f_l_is_judged f_l_word f_law f_Web_init f_Table_init f_Table_wrong_sign f_Table_behind f_Table_ties_without c_BadPurse c_BadWish c_Table c_Web c_ONE c_ZERO d__wall d_is_integer d_is_row d_is_fraction d_is_amount d_is_some d_are_amounts d_added d_negated d_lessened d_multiplied d_divided d_squared d_summed d_lies_below d_is_stall d_hold_of d_stalls_of d_kept_of d_held d_roots d_check_purse d_check_wish d_may_stay d_table_of d_strike_row d_are_some d_filled_back d_in_order d_struck_in_turn d_scales d_is_scales d_l_deck d_l_pick d_l_divisor d_l_made d_l_added d_l_taken d_l_product d_l_amount d_l_stall d_l_held d_l_pulls d_l_edge d_l_deep d_l_changed d_l_are_some d_l_due d_l_is_judged d_l_word d_law d_Web_init d_Table_init d_Table_wrong_sign d_Table_behind d_Table_ties_without) : FnOk P w K mg base CX0 1 f_Table_wrong_sign d_Table_wrong_sign ["self", "ware"] (sp_wsign K c_Table) := by
  refine T.F_Table_wrong_sign.ok sc_Table_wrong_sign (fun vs H Q E h => ?_) (fun cdv A outer s H vs Q E hr h => ?_)
  · obtain ⟨x, k, ls, M, rfl, _⟩ := h
    rfl
  · obtain ⟨x, k, ls, M, rfl, ⟨p, dx, S, Ta, g2, rfl, hp, ⟨gS, hS, fS⟩, hT, hrow⟩, hk, q⟩ := h
    obtain ⟨D, eD, ⟨js, ⟨gD, hD, fD⟩, nd, hjs⟩⟩ := hrow k hk
    obtain ⟨pf, ef, hf⟩ := fS k hk
    refine ⟨_, (pss_cons (ps_set (i := 2) sc_Table_wrong_sign.nd rfl (by first | exact Or.inl rfl | exact Or.inr rfl) (pe_ix ix_tup (pe_dget (My.room1 hr) (pe_fld (pv 0) rfl) (pv 1) (fun _ _ => rfl)) pe_int (fun _ _ => rfl)))
      (pss_one (ps_ret (pe_or (pe_cmpR op_lt (pv 2) pe_int (nomark _)) (pe_one (pe_and (pe_cmpR op_eq (pv 2) pe_int (nomark _)) (pe_one (pe_cmpR op_gt (pe_callB call_lenD (by rfl) T.z_len (by decide +kernel) (pa_cons (pe_dget (My.room1 hr) (pe_fld (pv 0) rfl) (pv 1) (fun _ _ => rfl)) pa_nil)) pe_int (nomark _))))))))), ?_⟩
    walk_at "r"
    refine ⟨_, _, _, _, _, rfl, hp, T.w_Table.it.cl, T.n_Table_slants, tF_slants _ _, ?_⟩
    walk_at "r"
    refine ⟨S, _, rfl, dget hS hk, ?_⟩
    rw [ef]
    walk_at "r"
    have hn : (M k k).num < 0 ↔ M k k < 0 := by
      rw [Rat.lt_iff]
      simp
    have hz : (M k k).num = 0 ↔ M k k = 0 := Rat.num_eq_zero
    walk_at "if"
    · rename_i h0
      have e : decide (wrong M ls k) = true := decide_eq_true (.inl (hn.mp h0))
      rw [e] at q
      exact q
    · rename_i h0
      walk_at "r"
      walk_at "if"
      · rename_i h1
        walk_at "r"
        refine ⟨_, _, _, _, _, rfl, hp, T.w_Table.it.cl, T.n_Table_ties, tF_ties _ _, ?_⟩
        walk_at "r"
        refine ⟨Ta, _, rfl, dget hT hk, ?_⟩
        rw [eD]
        refine ⟨D, _, rfl, hD, ?_⟩
        walk_at "r"
        have e : decide ((0 : Int) < ((dkv js gD).length : Nat)) = decide (wrong M ls k) := by
          rw [Bool.eq_iff_iff, decide_eq_true_eq, decide_eq_true_eq, dkv_len]
          constructor
          · intro hl
            have : 0 < js.length := by omega
            obtain ⟨j, hj⟩ := List.exists_mem_of_length_pos this
            obtain ⟨a, b, c⟩ := (hjs j).mp hj
            exact .inr ⟨hz.mp h1, j, a, b, c⟩
          · rintro (z | ⟨_, j, a, b, c⟩)
            · exact absurd (hn.mpr z) h0
            · have := List.length_pos_of_mem ((hjs j).mpr ⟨a, b, c⟩)
              omega
        rw [e]
        exact q
      · rename_i h1
        have e : decide (wrong M ls k) = false := decide_eq_false (by
          rintro (z | ⟨z, _⟩)
          · exact h0 (hn.mpr z)
          · exact h1 (hz.mpr z))
        rw [e] at q
        exact q
def sp_twithout (K : PySem.W.Frag) (C : Addr) : Sp := fun vs H Q _ => ∃ (p dx S T D : Addr) (g2 g3 : Nat → V) (ls js : List Nat) (i k : Nat), vs = [.ref p, .int (i : Nat), .int (k : Nat)] ∧ H p = some (.ins C dx (tF S T)) ∧ H T = some (.dK (dkv ls g2)) ∧ i ∈ ls ∧ g2 i = .ref D ∧
  H D = some (.dK (dkv js g3)) ∧ js.Nodup ∧ js.length ≤ 16 ∧ ∀ H' D', Same H H' → H D' = none → H' D' = some (.dK (dkv (js.erase k) g3)) → Q (.ref D') H'
theorem ok_Table_ties_without (T : Txt K mg f__wall f_is_integer f_is_row f_is_fraction f_is_amount f_is_some f_are_amounts f_added f_negated f_lessened f_multiplied f_divided f_squared f_summed f_lies_below f_is_stall f_hold_of f_stalls_of f_kept_of f_held f_roots f_check_purse f_check_wish f_may_stay f_table_of f_strike_row f_are_some f_filled_back f_in_order f_struck_in_turn f_scales f_is_scales f_l_deck f_l_pick f_l_divisor f_l_made f_l_added f_l_taken f_l_product f_l_amount f_l_stall f_l_held f_l_pulls f_l_edge f_l_deep f_l_changed f_l_are_some f_l_due f_l_is_judged f_l_word f_law f_Web_init f_Table_init f_Table_wrong_sign f_Table_behind f_Table_ties_without c_BadPurse c_BadWish c_Table c_Web c_ONE c_ZERO d__wall d_is_integer d_is_row d_is_fraction d_is_amount d_is_some d_are_amounts d_added d_negated d_lessened d_multiplied d_divided d_squared d_summed d_lies_below d_is_stall d_hold_of d_stalls_of d_kept_of d_held d_roots d_check_purse d_check_wish d_may_stay d_table_of d_strike_row d_are_some d_filled_back d_in_order d_struck_in_turn d_scales d_is_scales d_l_deck d_l_pick d_l_divisor d_l_made d_l_added d_l_taken d_l_product d_l_amount d_l_stall d_l_held d_l_pulls d_l_edge d_l_deep d_l_changed d_l_are_some d_l_due d_l_is_judged d_l_word d_law d_Web_init d_Table_init d_Table_wrong_sign d_Table_behind d_Table_ties_without) : FnOk P w K mg base CX0 1 f_Table_ties_without d_Table_ties_without ["self", "one", "ware"] (sp_twithout K c_Table) := by
  refine T.F_Table_ties_without.ok sc_Table_ties_without (fun vs H Q E h => ?_) (fun cdv A outer s H vs Q E hr h => ?_)
  · obtain ⟨p, dx, S, T, D, g2, g3, ls, js, i, k, rfl, _⟩ := h
    rfl
  · obtain ⟨p, dx, S, Ta, D, g2, g3, ls, js, i, k, rfl, hp, hT, hi, eD, hD, nd, l16, q⟩ := h
    refine ⟨_, (pss_cons (ps_set (i := 3) sc_Table_ties_without.nd rfl (by first | exact Or.inl rfl | exact Or.inr rfl) (pe_dget (My.room1 hr) (pe_fld (pv 0) rfl) (pv 1) (fun _ _ => rfl)))
      (pss_one (ps_ret (pe_lock (pe_dc (own := [("other", 4)]) (g := gName 4) rfl sc_Table_ties_without.nd (pi_keys (pv 3)) (blkOk_by (own := [("other", 4)]) (N := N_Table_ties_without) (sc := defScope s_Table_ties_without) (by decide +kernel)) (fun _ _ _ _ _ => (pg_name (i := 4) sc_Table_ties_without.nd rfl (by first | exact Or.inl rfl | exact Or.inr rfl))) (fun _ _ _ _ _ => (pts_one (pt_cmpR op_ne (pv 4) (pv 2) (nomark _)))) (fun _ _ _ _ _ => (pv 4)) (fun _ _ _ _ _ => (pe_dget (My.room1 hr) (pv 3) (pv 4) (fun _ _ => rfl)))))))), ?_⟩
    walk_at "r"
    refine ⟨_, _, _, _, _, rfl, hp, T.w_Table.it.cl, T.n_Table_ties, tF_ties _ _, ?_⟩
    walk_at "r"
    refine ⟨Ta, _, rfl, dget hT hi, ?_⟩
    rw [eD]
    walk_at "r"
    refine rd_lockE hD fun od => ?_
    have hf : upd H D (.frz od (.dK (dkv js g3))) D = some (.frz od (.dK (dkv js g3))) := upd_same
    have fr : ∀ {l}, upd H D (.frz od (.dK (dkv js g3))) l = none → l ≠ D ∧ H l = none := fun h => lock_free h
    have un : ∀ {H'}, Same (upd H D (.frz od (.dK (dkv js g3)))) H' → Same H (upd H' D (.dK (dkv js g3))) := fun s => lock_same hD s
    generalize upd H D (.frz od (.dK (dkv js g3))) = H1 at *
    walk_at "r"
    refine ⟨D, od, rfl, .inl ⟨_, hf, fun L nL => ?_⟩⟩
    have ne : js.erase k = js.filter (· != k) := nd.erase_eq_filter k
    refine dc_keys (fun i H' => Same H1 H' ∧ H' L = some (.dK (dkv ((js.take i).filter (· != k)) g3))) ⟨same_upd nL, upd_same⟩ (fun i H' p => p.1 _ _ hf) ?_ ?_
    · rintro i j H' hj ⟨s1, hL⟩
      have hf1 := s1 _ _ hf
      have jm := List.mem_of_getElem? hj
      walk_at "r"
      refine ⟨rfl, ?_⟩
      walk_at "r"
      walk_at "if"
      · rename_i hne
        have hne : j ≠ k := fun z => hne (by rw [z])
        walk_at "r"
        refine ⟨D, _, rfl, dgetF hf1 jm, _, ky j, rfl, hL, small_dkv (Nat.le_trans (List.length_filter_le _ _) (by rw [List.length_take]; omega)), ?_⟩
        have nj : ¬ j ∈ (js.take i).filter (· != k) := fun z => take_not nd hj (List.mem_filter.mp z).1
        rw [putK_add nj, take_filter hj, if_pos (by simpa using hne)]
        refine ⟨same_put nL s1, ?_⟩
        rw [upd_same, dkv_congr (g' := g3) (js := (js.take i).filter (· != k) ++ [j]) fun q _ => by
          unfold putG
          split
          · rename_i e
            rw [e]
          · rfl]
      · rename_i hne
        have hne : j = k := by omega
        walk_at "r"
        rw [take_filter hj, if_neg (by simpa using hne), List.append_nil]
        exact ⟨s1, hL⟩
    · rintro H' ⟨s1, hL⟩
      rw [List.take_length, ← ne] at hL
      obtain ⟨n1, n2⟩ := fr nL
      refine ⟨s1 _ _ hf, q _ L (un s1) n2 ((upd_ne n1).trans hL)⟩
end
end My
namespace My
open PySem PySem.Spec PyProof.Rows L2
variable {K : PySem.W.Frag}
def setR (f : Nat → Rat) (j : Nat) (x : Rat) : Nat → Rat := fun q => if q = j then x else f q
theorem setR_same {f : Nat → Rat} {j : Nat} {x : Rat} : setR f j x j = x := if_pos rfl
theorem setR_ne {f : Nat → Rat} {j q : Nat} {x : Rat} (h : q ≠ j) : setR f j x q = f q := if_neg h
def setN (N : Tbl) (i : Nat) (f : Nat → Rat) : Tbl := fun q => if q = i then f else N q
theorem setN_same {N : Tbl} {i : Nat} {f : Nat → Rat} : setN N i f i = f := if_pos rfl
theorem setN_ne {N : Tbl} {i q : Nat} {f : Nat → Rat} (h : q ≠ i) : setN N i f q = N q := if_neg h
def setA (a : Nat → Addr) (j : Nat) (x : Addr) : Nat → Addr := fun q => if q = j then x else a q
theorem setA_same {a : Nat → Addr} {j : Nat} {x : Addr} : setA a j x j = x := if_pos rfl
theorem setA_ne {a : Nat → Addr} {j q : Nat} {x : Addr} (h : q ≠ j) : setA a j x q = a q := if_neg h
theorem c0F {p : Addr} {H : Hp} (h : SqT K (fun _ => none) p [.int 0, .int 1]) : IsF K H (.ref p) 0 := ⟨p, rfl, .inr h⟩
theorem unlock_fw {H H' : Hp} {d : Addr} {u : HO} (h : H d = some u) (f : Fw d H H') : Same H (upd H' d u) := fun b o hb => by
  by_cases e : b = d
  · subst e
    rw [h] at hb
    cases hb
    exact upd_same
  · exact (upd_ne e).trans (f _ _ e hb)
theorem IsDf.put {H : Hp} {D : Addr} {js : List Nat} {f : Nat → Rat} {g : Nat → V} (hD : H D = some (.dK (dkv js g))) (hg : ∀ j ∈ js, IsF K H (g j) (f j)) {j : Nat} {v : V} {x : Rat} (hv : IsF K H v x) :
    IsDf K (upd H D (.dK (dkv js (putG g j v)))) D js (setR f j x) := by
  have t : Tps H (upd H D (.dK (dkv js (putG g j v)))) := tps_putD (H1 := H) hD
  refine ⟨_, upd_same, fun q hq => ?_⟩
  by_cases e : q = j
  · subst e
    rw [putG_same, setR_same]
    exact hv.ts t
  · rw [putG_ne e, setR_ne e]
    exact (hg q hq).ts t
theorem IsDf.off {H : Hp} {D E : Addr} {js : List Nat} {f : Nat → Rat} {kvs : List (Key × V)} {o : HO} (h : IsDf K H D js f) (hE : H E = some (.dK kvs)) (n : D ≠ E) : IsDf K (upd H E o) D js f := by
  have t : Tps H (upd H E o) := tps_putD (H1 := H) hE
  obtain ⟨g, a, b⟩ := h
  exact ⟨g, (upd_ne n).trans a, fun q hq => (b q hq).ts t⟩
theorem TieR.off {H : Hp} {D E : Addr} {ls : List Nat} {i : Nat} {f : Nat → Rat} {kvs : List (Key × V)} {o : HO} (h : TieR K H D ls i f) (hE : H E = some (.dK kvs)) (n : D ≠ E) : TieR K (upd H E o) D ls i f := by
  obtain ⟨js, a, b⟩ := h
  exact ⟨js, a.off hE n, b⟩
/-- a tie more, or changed -/
theorem TieR.put {H : Hp} {D : Addr} {ls : List Nat} {i j : Nat} {f : Nat → Rat} {js : List Nat} {g : Nat → V} (hD : H D = some (.dK (dkv js g))) (hg : ∀ q ∈ js, IsF K H (g q) (-f q)) (nd : js.Nodup) (hj : ∀ q, q ∈ js ↔ q ∈ ls ∧ q ≠ i ∧ f q ≠ 0)
    {v : V} {x : Rat} (hv : IsF K H v (-x)) (jl : j ∈ ls) (ji : j ≠ i) (x0 : x ≠ 0) : TieR K (upd H D (.dK (putK (dkv js g) (ky j) v))) D ls i (setR f j x) := by
  by_cases e : j ∈ js
  · rw [putK_old e]
    refine ⟨js, (IsDf.put (f := fun q => -f q) hD hg (x := -x) hv).congr fun q _ => by unfold setR; split <;> rfl, nd, fun q => ?_⟩
    by_cases qj : q = j
    · subst qj
      rw [setR_same]
      exact ⟨fun _ => ⟨jl, ji, x0⟩, fun _ => e⟩
    · rw [setR_ne qj]
      exact hj q
  · rw [putK_add e]
    have t : Tps H (upd H D (.dK (dkv (js ++ [j]) (putG g j v)))) := tps_putD (H1 := H) hD
    refine ⟨js ++ [j], ⟨_, upd_same, fun q hq => ?_⟩, List.nodup_append.mpr ⟨nd, by simp, fun a ha b hb => ?_⟩, fun q => ?_⟩
    · by_cases qj : q = j
      · subst qj
        rw [putG_same]
        show IsF K _ v (-(setR f q x q))
        rw [setR_same]
        exact hv.ts t
      · rw [putG_ne qj]
        show IsF K _ (g q) (-(setR f j x q))
        rw [setR_ne qj]
        rcases List.mem_append.mp hq with z | z
        · exact (hg q z).ts t
        · exact absurd (List.mem_singleton.mp z) qj
    · rw [List.mem_singleton.mp hb]
      exact fun z => e (by rw [← z]; exact ha)
    · rw [List.mem_append, List.mem_singleton]
      by_cases qj : q = j
      · subst qj
        rw [setR_same]
        exact ⟨fun _ => ⟨jl, ji, x0⟩, fun _ => .inr rfl⟩
      · rw [setR_ne qj, ← hj q]
        exact ⟨fun z => z.resolve_right qj, .inl⟩
/-- a table under way, behind a strike: H the heap ahead of it, d the dict that is walked -/
structure Lp (K : PySem.W.Frag) (H H' : Hp) (d S T : Addr) (u : HO) (ls : List Nat) (a : Nat → Addr) (fs : Nat → Rat) (N : Tbl) : Prop where
  off : Fw d H H'
  fz : H' d = some u
  sl : IsDf K H' S ls fs
  tt : H' T = some (.dK (dkv ls fun j => .ref (a j)))
  rw : ∀ i ∈ ls, TieR K H' (a i) ls i (N i)
/-- where its parts lie -/
structure Ap (H : Hp) (d S T : Addr) (ls : List Nat) (a : Nat → Addr) : Prop where
  dh : ∃ o, H d = some o
  s0 : H S = none
  t0 : H T = none
  a0 : ∀ i ∈ ls, H (a i) = none
  st : S ≠ T
  sa : ∀ i ∈ ls, a i ≠ S
  ta : ∀ i ∈ ls, a i ≠ T
  inj : ∀ i ∈ ls, ∀ j ∈ ls, a i = a j → i = j
theorem Ap.sd {H : Hp} {d S T : Addr} {ls : List Nat} {a : Nat → Addr} (p : Ap H d S T ls a) : S ≠ d := fun e => by
  obtain ⟨o, ho⟩ := p.dh
  have := p.s0
  rw [e, ho] at this
  cases this
theorem Ap.td {H : Hp} {d S T : Addr} {ls : List Nat} {a : Nat → Addr} (p : Ap H d S T ls a) : T ≠ d := fun e => by
  obtain ⟨o, ho⟩ := p.dh
  have := p.t0
  rw [e, ho] at this
  cases this
theorem Ap.ad {H : Hp} {d S T : Addr} {ls : List Nat} {a : Nat → Addr} (p : Ap H d S T ls a) {i : Nat} (hi : i ∈ ls) : a i ≠ d := fun e => by
  obtain ⟨o, ho⟩ := p.dh
  have := p.a0 i hi
  rw [e, ho] at this
  cases this
theorem Lp.same {H H' H2 : Hp} {d S T : Addr} {u : HO} {ls : List Nat} {a : Nat → Addr} {fs : Nat → Rat} {N : Tbl} (h : Lp K H H' d S T u ls a fs N) (s : Same H' H2) : Lp K H H2 d S T u ls a fs N :=
  ⟨h.off.trans (Same.fw s), s _ _ h.fz, h.sl.same s, s _ _ h.tt, fun i hi => (h.rw i hi).same s⟩
theorem fw_put {H H' : Hp} {d S : Addr} {o : HO} (f : Fw d H H') (n : H S = none) : Fw d H (upd H' S o) := fun b x hb h => (upd_ne (ne_of_none h n)).trans (f _ _ hb h)
theorem Lp.slant {H H' : Hp} {d S T : Addr} {u : HO} {ls : List Nat} {a : Nat → Addr} {fs : Nat → Rat} {N : Tbl} (p : Ap H d S T ls a) (h : Lp K H H' d S T u ls a fs N) {g : Nat → V} (hS : H' S = some (.dK (dkv ls g))) {j : Nat} (hj : j ∈ ls) {v : V} {x : Rat} (hv : IsF K H' v x) :
    Lp K H (upd H' S (.dK (putK (dkv ls g) (ky j) v))) d S T u ls a (setR fs j x) N := by
  obtain ⟨g', e, hg⟩ := h.sl
  rw [hS] at e
  have e2 : dkv ls g = dkv ls g' := by injection (Option.some.inj e)
  rw [e2, putK_old hj]
  rw [e2] at hS
  refine ⟨fw_put h.off p.s0, (upd_ne (Ne.symm p.sd)).trans h.fz, IsDf.put hS hg hv, (upd_ne (Ne.symm p.st)).trans h.tt, fun i hi => (h.rw i hi).off hS (p.sa i hi)⟩
theorem Lp.tie {H H' : Hp} {d S T : Addr} {u : HO} {ls : List Nat} {a : Nat → Addr} {fs : Nat → Rat} {N : Tbl} (p : Ap H d S T ls a) (h : Lp K H H' d S T u ls a fs N) {i j : Nat} (hi : i ∈ ls) {js : List Nat} {g : Nat → V} (hD : H' (a i) = some (.dK (dkv js g)))
    (hg : ∀ q ∈ js, IsF K H' (g q) (-N i q)) (nd : js.Nodup) (hjs : ∀ q, q ∈ js ↔ q ∈ ls ∧ q ≠ i ∧ N i q ≠ 0) (hj : j ∈ ls) (ji : j ≠ i) {v : V} {x : Rat} (hv : IsF K H' v (-x)) (x0 : x ≠ 0) :
    Lp K H (upd H' (a i) (.dK (putK (dkv js g) (ky j) v))) d S T u ls a fs (setN N i (setR (N i) j x)) := by
  refine ⟨fw_put h.off (p.a0 i hi), (upd_ne (Ne.symm (p.ad hi))).trans h.fz, h.sl.off hD (Ne.symm (p.sa i hi)), (upd_ne (Ne.symm (p.ta i hi))).trans h.tt, fun q hq => ?_⟩
  by_cases e : q = i
  · subst e
    rw [setN_same]
    exact TieR.put hD hg nd hjs hv hj ji x0
  · rw [setN_ne e]
    exact (h.rw q hq).off hD fun z => e (p.inj q hq i hi z)
theorem Lp.congr {H H' : Hp} {d S T : Addr} {u : HO} {ls : List Nat} {a : Nat → Addr} {fs fs' : Nat → Rat} {N N' : Tbl} (h : Lp K H H' d S T u ls a fs N) (e1 : ∀ j ∈ ls, fs j = fs' j) (e2 : ∀ i ∈ ls, ∀ j ∈ ls, j ≠ i → N i j = N' i j) : Lp K H H' d S T u ls a fs' N' :=
  ⟨h.off, h.fz, h.sl.congr e1, h.tt, fun i hi => (h.rw i hi).congr (e2 i hi)⟩
section
variable {P : Program} {w : World} {K : PySem.W.Frag} {mg : Str → Option Value} {base : Heap} {f__wall f_is_integer f_is_row f_is_fraction f_is_amount f_is_some f_are_amounts f_added f_negated f_lessened f_multiplied f_divided f_squared f_summed f_lies_below f_is_stall f_hold_of f_stalls_of f_kept_of f_held f_roots f_check_purse f_check_wish f_may_stay f_table_of f_strike_row f_are_some f_filled_back f_in_order f_struck_in_turn f_scales f_is_scales f_l_deck f_l_pick f_l_divisor f_l_made f_l_added f_l_taken f_l_product f_l_amount f_l_stall f_l_held f_l_pulls f_l_edge f_l_deep f_l_changed f_l_are_some f_l_due f_l_is_judged f_l_word f_law f_Web_init f_Table_init f_Table_wrong_sign f_Table_behind f_Table_ties_without c_BadPurse c_BadWish c_Table c_Web c_ONE c_ZERO : Addr} {d__wall d_is_integer d_is_row d_is_fraction d_is_amount d_is_some d_are_amounts d_added d_negated d_lessened d_multiplied d_divided d_squared d_summed d_lies_below d_is_stall d_hold_of d_stalls_of d_kept_of d_held d_roots d_check_purse d_check_wish d_may_stay d_table_of d_strike_row d_are_some d_filled_back d_in_order d_struck_in_turn d_scales d_is_scales d_l_deck d_l_pick d_l_divisor d_l_made d_l_added d_l_taken d_l_product d_l_amount d_l_stall d_l_held d_l_pulls d_l_edge d_l_deep d_l_changed d_l_are_some d_l_due d_l_is_judged d_l_word d_law d_Web_init d_Table_init d_Table_wrong_sign d_Table_behind d_Table_ties_without : FuncData}
def sp_behindT (K : PySem.W.Frag) (C : Addr) : Sp := fun vs H Q _ => ∃ (x : V) (k b : Nat) (ls : List Nat) (M : Tbl), vs = [x, .int (k : Nat)] ∧ IsTb K C H x ls M ∧ k ∈ ls ∧ (∀ i j, M i j = M j i) ∧ OpT M ls ∧ ls.Nodup ∧ ls.length ≤ 8 ∧ ¬ wrong M ls k ∧ CD b M ls ∧ b ≤ 2111 ∧
  ∀ H' y, Same H H' → IsTb K C H' y (ls.erase k) (strike M k) → Q y H'
theorem ok_Table_behind (T : Txt K mg f__wall f_is_integer f_is_row f_is_fraction f_is_amount f_is_some f_are_amounts f_added f_negated f_lessened f_multiplied f_divided f_squared f_summed f_lies_below f_is_stall f_hold_of f_stalls_of f_kept_of f_held f_roots f_check_purse f_check_wish f_may_stay f_table_of f_strike_row f_are_some f_filled_back f_in_order f_struck_in_turn f_scales f_is_scales f_l_deck f_l_pick f_l_divisor f_l_made f_l_added f_l_taken f_l_product f_l_amount f_l_stall f_l_held f_l_pulls f_l_edge f_l_deep f_l_changed f_l_are_some f_l_due f_l_is_judged f_l_word f_law f_Web_init f_Table_init f_Table_wrong_sign f_Table_behind f_Table_ties_without c_BadPurse c_BadWish c_Table c_Web c_ONE c_ZERO d__wall d_is_integer d_is_row d_is_fraction d_is_amount d_is_some d_are_amounts d_added d_negated d_lessened d_multiplied d_divided d_squared d_summed d_lies_below d_is_stall d_hold_of d_stalls_of d_kept_of d_held d_roots d_check_purse d_check_wish d_may_stay d_table_of d_strike_row d_are_some d_filled_back d_in_order d_struck_in_turn d_scales d_is_scales d_l_deck d_l_pick d_l_divisor d_l_made d_l_added d_l_taken d_l_product d_l_amount d_l_stall d_l_held d_l_pulls d_l_edge d_l_deep d_l_changed d_l_are_some d_l_due d_l_is_judged d_l_word d_law d_Web_init d_Table_init d_Table_wrong_sign d_Table_behind d_Table_ties_without) : FnOk P w K mg base CX0 3 f_Table_behind d_Table_behind ["self", "ware"] (sp_behindT K c_Table) := by
  have G_Table_ties_without : FnOk P w K mg base CX0 1 f_Table_ties_without d_Table_ties_without ["self", "one", "ware"] (sp_twithout K c_Table) := ok_Table_ties_without T
  have G_Table_init : FnOk P w K mg base CX0 1 f_Table_init d_Table_init ["self", "slants", "ties"] (sp_Tinit K c_Table) := ok_Table_init T
  have G_added : FnOk P w K mg base CX0 1 f_added d_added ["one", "other"] (sp_added K) := ok_added T
  have G_multiplied : FnOk P w K mg base CX0 1 f_multiplied d_multiplied ["one", "other"] (sp_multiplied K) := ok_multiplied T
  have G_divided : FnOk P w K mg base CX0 2 f_divided d_divided ["one", "other"] (sp_divided K) := ok_divided T
  have G_lessened : FnOk P w K mg base CX0 2 f_lessened d_lessened ["one", "other"] (sp_lessened K) := ok_lessened T
  have G_squared : FnOk P w K mg base CX0 1 f_squared d_squared ["one"] (sp_squared K) := ok_squared T
  refine T.F_Table_behind.ok sc_Table_behind (fun vs H Q E h => ?_) (fun cdv A outer s H vs Q E hr h => ?_)
  · obtain ⟨x, k, b, ls, M, rfl, _⟩ := h
    rfl
  · obtain ⟨x, k, b, ls, M, rfl, ⟨p, dx, S, Ta, g2, rfl, hp, ⟨gS, hS, fS⟩, hT, hrow⟩, hk, sy, op, nd, l8, nw, cd, hb, q⟩ := h
    obtain ⟨B, eB, ⟨js, ⟨gB, hB, fB⟩, jnd, hjs⟩⟩ := hrow k hk
    obtain ⟨pf, ef, hf⟩ := id (fS k hk)
    have eE : ls.erase k = ls.filter (· != k) := nd.erase_eq_filter k
    have ndE : (ls.erase k).Nodup := nd.erase k
    have lE : (ls.erase k).length ≤ 8 := Nat.le_trans (List.length_erase_le ..) l8
    have ljs : js.length ≤ 8 := Nat.le_trans (List.Nodup.length_le_of_subset jnd fun j hj => ((hjs j).mp hj).1) l8
    refine ⟨_, (pss_cons (ps_set (i := 2) sc_Table_behind.nd rfl (by first | exact Or.inl rfl | exact Or.inr rfl) (pe_dget (My.room1 hr) (pe_fld (pv 0) rfl) (pv 1) (fun _ _ => rfl)))
      (pss_cons (ps_set (i := 3) sc_Table_behind.nd rfl (by first | exact Or.inl rfl | exact Or.inr rfl) (pe_dget (My.room1 hr) (pe_fld (pv 0) rfl) (pv 1) (fun _ _ => rfl)))
      (pss_cons (ps_lock (My.ps_setDc (i := 4) (own := [("one", 5)]) (g := gName 5) rfl sc_Table_behind.nd rfl rfl (My.sw_trueD rfl rfl rfl (by decide +kernel)) (pi_keys (pe_fld (pv 0) rfl)) (blkOk_by (own := [("one", 5)]) (N := N_Table_behind) (sc := defScope s_Table_behind) (by decide +kernel)) (fun _ _ _ _ _ => (pg_name (i := 5) sc_Table_behind.nd rfl (by first | exact Or.inl rfl | exact Or.inr rfl))) (fun _ _ _ _ _ => (pts_one (pt_cmpR op_ne (pv 5) (pv 1) (nomark _)))) (fun _ _ _ _ _ => (pv 5)) (fun _ _ _ _ _ => (pe_dget (My.room1 hr) (My.pe_fldK (K := K) (by rfl) (pv 0) rfl) (pv 5) (fun _ _ => rfl)))))
      (pss_cons (ps_lock (My.ps_setDc (i := 6) (own := [("one", 5)]) (g := gName 5) rfl sc_Table_behind.nd rfl rfl (My.sw_trueD rfl rfl rfl (by decide +kernel)) (pi_keys (pv 4)) (blkOk_by (own := [("one", 5)]) (N := N_Table_behind) (sc := defScope s_Table_behind) (by decide +kernel)) (fun _ _ _ _ _ => (pg_name (i := 5) sc_Table_behind.nd rfl (by first | exact Or.inl rfl | exact Or.inr rfl))) (fun _ _ _ _ _ => pts_nil) (fun _ _ _ _ _ => (pv 5)) (fun _ _ _ _ _ => (pe_meth (pv 0) T.w_Table.it.cl ⟨T.i_Table_ties_without, T.fn_Table_ties_without, T.k_Table_ties_without⟩ G_Table_ties_without (hr.mono (by decide)) T.b_Table_ties_without .nil pass0 (pa_cons (pv 5) (pa_cons (pv 1) pa_nil))))))
      (pss_cons (ps_lock (ps_for PassesOwn.never rfl (pi_keys (pv 3)) (pg_name (i := 5) sc_Table_behind.nd rfl (by first | exact Or.inl rfl | exact Or.inr rfl))
        (pss_cons (ps_dput (My.room1 hr) (pv 4) (pv 5) (pe_call G_lessened (hr.mono (by decide)) (by rfl) T.g_lessened T.k_lessened T.b_lessened .nil pass0 (pa_cons (pe_dget (My.room1 hr) (pv 4) (pv 5) (fun _ _ => rfl)) (pa_cons (pe_call G_divided (hr.mono (by decide)) (by rfl) T.g_divided T.k_divided T.b_divided .nil pass0 (pa_cons (pe_call G_squared (hr.mono (by decide)) (by rfl) T.g_squared T.k_squared T.b_squared .nil pass0 (pa_cons (pe_dget (My.room1 hr) (pv 3) (pv 5) (fun _ _ => rfl)) pa_nil)) (pa_cons (pv 2) pa_nil))) pa_nil))) rfl)
          (pss_cons (ps_set (i := 7) sc_Table_behind.nd rfl (by first | exact Or.inl rfl | exact Or.inr rfl) (pe_call G_divided (hr.mono (by decide)) (by rfl) T.g_divided T.k_divided T.b_divided .nil pass0 (pa_cons (pe_dget (My.room1 hr) (pv 3) (pv 5) (fun _ _ => rfl)) (pa_cons (pv 2) pa_nil))))
          (pss_one (ps_for PassesOwn.never rfl (pi_keys (pv 3)) (pg_name (i := 8) sc_Table_behind.nd rfl (by first | exact Or.inl rfl | exact Or.inr rfl))
            (pss_one (ps_if (pt_cmpR op_ne (pv 8) (pv 5) (nomark _))
                (pss_cons (ps_set (i := 9) sc_Table_behind.nd rfl (by first | exact Or.inl rfl | exact Or.inr rfl) (pe_dget2 (My.room1 hr) (pe_dget (My.room1 hr) (pv 6) (pv 5) (fun _ _ => rfl)) (pv 8) (pe_glob (v := .ref c_ZERO) (by rfl) T.v_ZERO rfl) ⟨rfl, by rfl, rfl, rfl⟩))
                  (pss_one (ps_dput (My.room1 hr) (pe_dget (My.room1 hr) (pv 6) (pv 5) (fun _ _ => rfl)) (pv 8) (pe_call G_added (hr.mono (by decide)) (by rfl) T.g_added T.k_added T.b_added .nil pass0 (pa_cons (pv 9) (pa_cons (pe_call G_multiplied (hr.mono (by decide)) (by rfl) T.g_multiplied T.k_multiplied T.b_multiplied .nil pass0 (pa_cons (pv 7) (pa_cons (pe_dget (My.room1 hr) (pv 3) (pv 8) (fun _ _ => rfl)) pa_nil))) pa_nil))) rfl)))
                pss_nil))))))))
      (pss_one (ps_ret (pe_make T.w_Table.mks G_Table_init (hr.mono (by decide)) (by rfl) T.w_Table.g T.b_Table_init .nil pass0 (pa_cons (pv 4) (pa_cons (pv 6) pa_nil)))))))))), ?_⟩
    walk_at "r"
    refine ⟨_, _, _, _, _, rfl, hp, T.w_Table.it.cl, T.n_Table_slants, tF_slants _ _, ?_⟩
    walk_at "r"
    refine ⟨S, _, rfl, dget hS hk, ?_⟩
    rw [ef]
    walk_at "r"
    refine ⟨_, _, _, _, _, rfl, hp, T.w_Table.it.cl, T.n_Table_ties, tF_ties _ _, ?_⟩
    walk_at "r"
    refine ⟨Ta, _, rfl, dget hT hk, ?_⟩
    rw [eB]
    walk_at "r"
    -- the slants of the others
    refine rd_lock hS fun od => ?_
    have pS : p ≠ S := fun e => by
      rw [e, hS] at hp
      cases hp
    have hpf : upd H S (.frz od (.dK (dkv ls gS))) p = some (.ins c_Table dx (tF S Ta)) := (upd_ne pS).trans hp
    have hf0 : upd H S (.frz od (.dK (dkv ls gS))) S = some (.frz od (.dK (dkv ls gS))) := upd_same
    have fr : ∀ {l}, upd H S (.frz od (.dK (dkv ls gS))) l = none → l ≠ S ∧ H l = none := fun h => lock_free h
    have un : ∀ {H'}, Same (upd H S (.frz od (.dK (dkv ls gS)))) H' → Same H (upd H' S (.dK (dkv ls gS))) := fun s => lock_same hS s
    generalize upd H S (.frz od (.dK (dkv ls gS))) = H1 at *
    walk_at "r"
    refine ⟨_, _, _, _, _, rfl, hpf, T.w_Table.it.cl, T.n_Table_slants, tF_slants _ _, ?_⟩
    refine ⟨S, od, rfl, .inl ⟨_, hf0, fun S1 nS1 => ?_⟩⟩
    obtain ⟨S1S, S1n⟩ := fr nS1
    refine dc_keys (fun i H' => Same H1 H' ∧ H' S1 = some (.dK (dkv ((ls.take i).filter (· != k)) gS))) ⟨same_upd nS1, upd_same⟩ (fun i H' p => p.1 _ _ hf0) ?_ ?_
    · rintro i j H' hj ⟨s1, hL⟩
      have hf1 := s1 _ _ hf0
      have hp1 := s1 _ _ hpf
      have jm := List.mem_of_getElem? hj
      walk_at "r"
      refine ⟨rfl, ?_⟩
      walk_at "r"
      walk_at "if"
      · rename_i hne
        have hne : j ≠ k := fun z => hne (by rw [z])
        walk_at "r"
        refine ⟨_, _, _, _, _, rfl, hp1, T.w_Table.it.cl, T.n_Table_slants, tF_slants _ _, ?_⟩
        walk_at "r"
        refine ⟨S, _, rfl, dgetF hf1 jm, _, ky j, rfl, hL, small_dkv (Nat.le_trans (List.length_filter_le _ _) (by rw [List.length_take]; omega)), ?_⟩
        have nj : ¬ j ∈ (ls.take i).filter (· != k) := fun z => take_not nd hj (List.mem_filter.mp z).1
        rw [putK_add nj, take_filter hj, if_pos (by simpa using hne)]
        refine ⟨same_put nS1 s1, ?_⟩
        rw [upd_same, dkv_congr (g' := gS) (js := (ls.take i).filter (· != k) ++ [j]) fun q _ => by
          unfold putG
          split
          · rename_i e
            rw [e]
          · rfl]
      · rename_i hne
        have hne : j = k := by omega
        walk_at "r"
        rw [take_filter hj, if_neg (by simpa using hne), List.append_nil]
        exact ⟨s1, hL⟩
    rintro H2 ⟨s2, hS2⟩
    rw [List.take_length, ← eE] at hS2
    walk_at "r"
    refine ⟨s2 _ _ hf0, ?_⟩
    have sU := un s2
    have hSU : upd H2 S (.dK (dkv ls gS)) S1 = some (.dK (dkv (ls.erase k) gS)) := (upd_ne S1S).trans hS2
    clear hpf hf0 fr un s2 hS2 nS1
    generalize upd H2 S (.dK (dkv ls gS)) = H2 at *
    -- the ties of the others
    refine rd_lock hSU fun od2 => ?_
    have lk2 : Fw S1 H2 (upd H2 S1 (.frz od2 (.dK (dkv (ls.erase k) gS)))) := lock_off
    have hf2 : upd H2 S1 (.frz od2 (.dK (dkv (ls.erase k) gS))) S1 = some (.frz od2 (.dK (dkv (ls.erase k) gS))) := upd_same
    have fr : ∀ {l}, upd H2 S1 (.frz od2 (.dK (dkv (ls.erase k) gS))) l = none → l ≠ S1 ∧ H2 l = none := fun h => lock_free h
    have un : ∀ {H'}, Same (upd H2 S1 (.frz od2 (.dK (dkv (ls.erase k) gS)))) H' → Same H2 (upd H' S1 (.dK (dkv (ls.erase k) gS))) := fun s => lock_same hSU s
    have keep : Same H (upd H2 S1 (.frz od2 (.dK (dkv (ls.erase k) gS)))) := fun b o h => (upd_ne (ne_of_none h S1n)).trans (sU _ _ h)
    generalize upd H2 S1 (.frz od2 (.dK (dkv (ls.erase k) gS))) = H3 at *
    walk_at "r"
    refine ⟨S1, od2, rfl, .inl ⟨_, hf2, fun T1 nT1 => ?_⟩⟩
    obtain ⟨T1S, T1n⟩ := fr nT1
    refine dc_keys (fun i H' => Same H3 H' ∧ ∃ a : Nat → Addr, H' T1 = some (.dK (dkv ((ls.erase k).take i) fun j => .ref (a j))) ∧ (∀ j ∈ (ls.erase k).take i, H3 (a j) = none ∧ a j ≠ T1 ∧ TieR K H' (a j) (ls.erase k) j (M j)) ∧
      ∀ j ∈ (ls.erase k).take i, ∀ j' ∈ (ls.erase k).take i, a j = a j' → j = j') ⟨same_upd nT1, fun _ => 0, upd_same, by simp, by simp⟩ (fun i H' p => p.1 _ _ hf2) ?_ ?_
    · rintro i j H' hj ⟨s1, a, hL, hrows, hinj⟩
      have hp1 := s1 _ _ (keep _ _ hp)
      have hT1 := s1 _ _ (keep _ _ hT)
      have jm := List.mem_of_getElem? hj
      obtain ⟨jk, jL⟩ := (mem_er nd).mp jm
      obtain ⟨Dj, eD, ⟨kj, ⟨gj, hDj, fDj⟩, knd, hkj⟩⟩ := hrow j jL
      have hDj1 := s1 _ _ (keep _ _ hDj)
      have lkj : kj.length ≤ 8 := Nat.le_trans (List.Nodup.length_le_of_subset knd fun q hq => ((hkj q).mp hq).1) l8
      walk_at "r"
      refine ⟨rfl, ?_⟩
      walk_at "r"
      refine ⟨p, dx, _, rfl, hp1, tF_no (m := "ties_without") (by decide +kernel) (by decide +kernel), ?_⟩
      walk_at "r"
      refine ⟨p, dx, S, Ta, Dj, g2, gj, ls, kj, j, k, rfl, hp1, hT1, jL, eD, hDj1, knd, by omega, fun H4 D4 s4 n4 h4 => ?_⟩
      have hL4 := s4 _ _ hL
      have nj := take_not ndE hj
      have n3 : H3 D4 = none := s1.free n4
      have n4T : D4 ≠ T1 := fun z => by
        rw [z, hL] at n4
        cases n4
      have et : (ls.erase k).take (i + 1) = (ls.erase k).take i ++ [j] := by rw [List.take_add_one, hj]; rfl
      refine ⟨_, ky j, rfl, hL4, small_dkv (by rw [List.length_take]; omega), ?_⟩
      rw [putK_add nj, et]
      have tp : Tps H4 (upd H4 T1 (.dK (dkv ((ls.erase k).take i ++ [j]) (putG (fun j => .ref (a j)) j (.ref D4))))) := tps_putD (H1 := H4) hL4
      refine ⟨same_put nT1 (s1.trans s4), setA a j D4, ?_, fun q hq => ?_, fun q hq q' hq' e => ?_⟩
      · rw [upd_same, dkv_congr (g' := fun q => V.ref (setA a j D4 q)) fun q _ => ?_]
        unfold putG setA
        split <;> rfl
      · rcases List.mem_append.mp hq with z | z
        · have qj : q ≠ j := fun e => nj (by rw [← e]; exact z)
          rw [setA_ne qj]
          obtain ⟨c1, c2, c3⟩ := hrows q z
          exact ⟨c1, c2, (c3.same s4).off hL4 c2⟩
        · have qj := List.mem_singleton.mp z
          subst qj
          rw [setA_same]
          refine ⟨n3, n4T, kj.erase k, ⟨gj, (upd_ne n4T).trans h4, fun r hr => ?_⟩, knd.erase k, fun r => ?_⟩
          · exact ((fDj r (List.mem_of_mem_erase hr)).same ((keep.trans s1).trans s4)).ts tp
          · rw [mem_er knd, hkj r, mem_er nd]
            constructor
            · rintro ⟨a, b, c, d⟩
              exact ⟨⟨a, b⟩, c, d⟩
            · rintro ⟨⟨a, b⟩, c, d⟩
              exact ⟨a, b, c, d⟩
      · have old : ∀ r ∈ (ls.erase k).take i, a r ≠ D4 := fun r hr z => by
          obtain ⟨_, _, ⟨_, ⟨_, c3, _⟩, _⟩⟩ := hrows r hr
          rw [z, n4] at c3
          cases c3
        rcases List.mem_append.mp hq with z | z
        · have qj : q ≠ j := fun e => nj (by rw [← e]; exact z)
          rcases List.mem_append.mp hq' with z' | z'
          · have qj' : q' ≠ j := fun e => nj (by rw [← e]; exact z')
            rw [setA_ne qj, setA_ne qj'] at e
            exact hinj q z q' z' e
          · have e' := List.mem_singleton.mp z'
            rw [setA_ne qj, e', setA_same] at e
            exact absurd e (old q z)
        · have e1 := List.mem_singleton.mp z
          rcases List.mem_append.mp hq' with z' | z'
          · have qj' : q' ≠ j := fun e => nj (by rw [← e]; exact z')
            rw [e1, setA_same, setA_ne qj'] at e
            exact absurd e.symm (old q' z')
          · rw [e1, List.mem_singleton.mp z']
    rintro H4 ⟨s4, a, hT4, hrows, hinj⟩
    rw [List.take_length] at hT4 hrows hinj
    walk_at "r"
    refine ⟨s4 _ _ hf2, ?_⟩
    have s24 := un s4
    have kall : Same H (upd H4 S1 (.dK (dkv (ls.erase k) gS))) := sU.trans s24
    have hS4 := s24 _ _ hSU
    have aS1 : ∀ j ∈ ls.erase k, a j ≠ S1 := fun j hj => fun z => by
      obtain ⟨c1, _⟩ := hrows j hj
      rw [z, hf2] at c1
      cases c1
    have hT4' : upd H4 S1 (.dK (dkv (ls.erase k) gS)) T1 = some (.dK (dkv (ls.erase k) fun j => .ref (a j))) := (upd_ne T1S).trans hT4
    have tU : Tps H4 (upd H4 S1 (.dK (dkv (ls.erase k) gS))) := unlock_tps (s4 _ _ hf2)
    have hrows' : ∀ j ∈ ls.erase k, H (a j) = none ∧ a j ≠ T1 ∧ TieR K (upd H4 S1 (.dK (dkv (ls.erase k) gS))) (a j) (ls.erase k) j (M j) := fun j hj => by
      obtain ⟨c1, c2, ⟨kj, ⟨gj, d1, d2⟩, d3⟩⟩ := hrows j hj
      exact ⟨keep.free c1, c2, kj, ⟨gj, (upd_ne (aS1 j hj)).trans d1, fun r hr => (d2 r hr).ts tU⟩, d3⟩
    have hT1n : H T1 = none := keep.free nT1
    clear T1n hrows lk2 hf2 fr un keep s4 hT4 tU s24 sU hSU nT1
    generalize upd H4 S1 (.dK (dkv (ls.erase k) gS)) = H5 at *
    -- the walk over the ties
    have hB5 := kall _ _ hB
    refine rd_lock hB5 fun od3 => ?_
    have ap : Ap H B S1 T1 (ls.erase k) a := ⟨⟨_, hB⟩, S1n, hT1n, fun i hi => (hrows' i hi).1, fun e => by
      rw [e, hT4'] at hS4
      have e2 : dkv (ls.erase k) (fun j => V.ref (a j)) = dkv (ls.erase k) gS := by injection (Option.some.inj hS4)
      exact T1S e.symm, aS1, fun i hi => (hrows' i hi).2.1, hinj⟩
    have lp0 : Lp K H (upd H5 B (.frz od3 (.dK (dkv js gB)))) B S1 T1 (.frz od3 (.dK (dkv js gB))) (ls.erase k) a (fun q => M q q) M := by
      have t5 : Tps H5 (upd H5 B (.frz od3 (.dK (dkv js gB)))) := tps_putD (H1 := H5) hB5
      refine ⟨fun b o n h => (upd_ne n).trans (kall _ _ h), upd_same, ⟨gS, (upd_ne ap.sd).trans hS4, fun j hj => ((fS j (List.mem_of_mem_erase hj)).same kall).ts t5⟩, (upd_ne ap.td).trans hT4', fun i hi => ((hrows' i hi).2.2).off hB5 (ap.ad hi)⟩
    have tall : ∀ {H'}, Fw B H H' → Tps H H' := fun f b xs h => f _ _ (fun z => by
      rw [z, hB] at h
      cases h) h
    clear hrows' hS4 hT4' hinj aS1 kall hB5
    generalize upd H5 B (.frz od3 (.dK (dkv js gB))) = H6 at *
    walk_at "r"
    refine ⟨B, od3, rfl, .inl ⟨_, lp0.fz, ?_⟩⟩
    have up : ∀ {j i : Nat}, js[i]? = some j → j ∈ ls.erase k ∧ j ∈ js ∧ M k j ≠ 0 ∧ 0 < M k k ∧ M k j < 0 := fun {j i} hj => by
      have jm := List.mem_of_getElem? hj
      obtain ⟨a1, a2, a3⟩ := (hjs j).mp jm
      have := op k hk j a1 (Ne.symm a2)
      exact ⟨(mem_er nd).mpr ⟨a2, a1⟩, jm, a3, tie_pos nw ⟨j, a1, a2, a3⟩, by grind⟩
    refine for_keys (fun i σ H' => ∃ t5 t7 t8 t9 : Option V, σ = [some (.ref p), some (.int (k : Nat)), some (.ref pf), some (.ref B), some (.ref S1), t5, some (.ref T1), t7, t8, t9] ∧
      Lp K H H' B S1 T1 (.frz od3 (.dK (dkv js gB))) (ls.erase k) a (fun q => if q ∈ js.take i then strike M k q q else M q q) (fun q => if q ∈ js.take i then strike M k q else M q)) ?_ ?_ ?_ ?_
    · exact ⟨none, none, none, none, rfl, lp0.congr (fun j _ => by rw [List.take_zero, if_neg (by simp)]) (fun i _ j _ _ => by rw [List.take_zero, if_neg (by simp)])⟩
    · rintro i σ H' ⟨t5, t7, t8, t9, rfl, lp⟩
      exact lp.fz
    · rintro i one σ H' ho ⟨t5, t7, t8, t9, rfl, lp⟩
      obtain ⟨oe, om, on, pk, neg1⟩ := up ho
      obtain ⟨ok, ol⟩ := (mem_er nd).mp oe
      have nt := take_not jnd ho
      obtain ⟨gs, hS', fS'⟩ := id lp.sl
      have is1 : IsF K H' (gs one) (M one one) := by
        have h : IsF K H' (gs one) (if one ∈ js.take i then strike M k one one else M one one) := fS' one oe
        rw [if_neg nt] at h
        exact h
      have ib1 : IsF K H' (gB one) (-M k one) := (fB one om).ts (tall lp.off)
      have bk1 := cd.bd hk ol
      have bkk := cd.bd hk hk
      walk_at "r"
      refine ⟨S1, _, rfl, dget hS' oe, ?_⟩
      walk_at "r"
      refine ⟨B, _, rfl, dgetF lp.fz om, ?_⟩
      walk_at "r"
      refine ⟨_, _, rfl, ib1, bk1.neg.mono (by omega), fun H7 v7 s7 h7 => ?_⟩
      have b7 : Bd (b + b) (-M k one * -M k one) := bk1.neg.mul bk1.neg
      walk_at "r"
      refine ⟨_, _, _, _, rfl, h7, ⟨pf, rfl, (hf.ts (tall lp.off)).same s7⟩, b7.mono (by omega), bkk.mono (by omega), by grind, fun H8 v8 s8 h8 => ?_⟩
      have b8 : Bd (b + b + b) (-M k one * -M k one / M k k) := b7.div (by grind) bkk
      walk_at "r"
      refine ⟨_, _, _, _, rfl, is1.same (s7.trans s8), h8, (cd.bd ol ol).mono (by omega), b8.mono (by omega), trivial, fun H9 v9 s9 h9 => ?_⟩
      have s79 := (s7.trans s8).trans s9
      have hS9 := s79 _ _ hS'
      have lp1 := Lp.slant ap (lp.same s79) hS9 oe h9
      walk_at "r"
      refine ⟨S1, _, rfl, DPut.k (k := ky one) hS9 (small_dkv (by omega)), ?_⟩
      clear hS9 hS' fS' h9 h8 h7 s79 s9 s8 s7 is1
      generalize upd H9 S1 (.dK (putK (dkv (ls.erase k) gs) (ky one) v9)) = H10 at *
      clear H9 H8 H7
      have ib2 : IsF K H10 (gB one) (-M k one) := (fB one om).ts (tall lp1.off)
      walk_at "r"
      refine ⟨B, _, rfl, dgetF lp1.fz om, ?_⟩
      walk_at "r"
      refine ⟨_, _, _, _, rfl, ib2, ⟨pf, rfl, hf.ts (tall lp1.off)⟩, bk1.neg.mono (by omega), bkk.mono (by omega), by grind, fun H11 v11 s11 h11 => ?_⟩
      have b11 : Bd (b + b) (-M k one / M k k) := bk1.neg.div (by grind) bkk
      have lp2 := lp1.same s11
      clear lp1 ib2 lp
      walk_at "r"
      refine ⟨B, od3, rfl, .inl ⟨_, lp2.fz, ?_⟩⟩
      refine for_keys (fun m σ H' => ∃ t8 t9 : Option V, σ = [some (.ref p), some (.int (k : Nat)), some (.ref pf), some (.ref B), some (.ref S1), some (.int (one : Nat)), some (.ref T1), some v11, t8, t9] ∧
        Lp K H H' B S1 T1 (.frz od3 (.dK (dkv js gB))) (ls.erase k) a (fun q => if q ∈ js.take (i + 1) then strike M k q q else M q q)
          (setN (fun q => if q ∈ js.take i then strike M k q else M q) one (fun r => if r ∈ js.take m ∧ r ≠ one then strike M k one r else M one r)) ∧ IsF K H' v11 (-M k one / M k k)) ?_ ?_ ?_ ?_
      · refine ⟨t8, t9, rfl, lp2.congr (fun j hj => ?_) (fun q hq j hj jq => ?_), h11⟩
        · rw [show js.take (i + 1) = js.take i ++ [one] by rw [List.take_add_one, ho]; rfl]
          by_cases e : j = one
          · subst e
            rw [setR_same, if_pos (by simp)]
            show M j j - -M k j * -M k j / M k k = _
            unfold strike
            rw [sy j k, Rat.div_def, Rat.div_def]
            grind
          · rw [setR_ne e]
            simp [e]
        · by_cases e : q = one
          · subst e
            rw [setN_same, List.take_zero, if_neg nt, if_neg (by simp)]
          · rw [setN_ne e]
      · rintro m σ H' ⟨t8, t9, rfl, lp, _⟩
        exact lp.fz
      · rintro m other σ H' hot ⟨t8, t9, rfl, lp, h11⟩
        obtain ⟨pe, pm, pn, _, neg2⟩ := up hot
        obtain ⟨pk2, pl⟩ := (mem_er nd).mp pe
        have nt2 := take_not jnd hot
        have et : js.take (m + 1) = js.take m ++ [other] := by rw [List.take_add_one, hot]; rfl
        walk_at "r"
        walk_at "if"
        · rename_i hne
          have hne : other ≠ one := fun z => hne (by rw [z])
          obtain ⟨kj, ⟨gj, hD, fD⟩, knd, hkj⟩ := id (lp.rw one oe)
          have root : ∃ o, DGet H' (a one) (.int (other : Nat)) o ∧ IsF K H' (o.getD (.ref c_ZERO)) (-M one other) := by
            by_cases e : other ∈ kj
            · refine ⟨_, dget hD e, ?_⟩
              have h := fD other e
              rw [setN_same] at h
              have h : IsF K H' (gj other) (-(if other ∈ js.take m ∧ other ≠ one then strike M k one other else M one other)) := h
              rw [if_neg (fun z => nt2 z.1)] at h
              exact h
            · refine ⟨_, dgetN hD e, ?_⟩
              have z : M one other = 0 := Classical.byContradiction fun z => e ((hkj other).mpr ⟨pe, hne, by rw [setN_same, if_neg (fun z => nt2 z.1)]; exact z⟩)
              rw [z, show (-0 : Rat) = 0 by grind]
              exact c0F T.t_ZERO
          obtain ⟨o, ho1, ho2⟩ := root
          have ib3 : IsF K H' (gB other) (-M k other) := (fB other pm).ts (tall lp.off)
          have bk2 := cd.bd hk pl
          walk_at "r"
          refine ⟨T1, _, rfl, dget lp.tt oe, ?_⟩
          refine ⟨a one, rfl, .inl ⟨_, .inl hD⟩, ?_⟩
          walk_at "r"
          refine ⟨o, ho1, ?_⟩
          walk_at "r"
          refine ⟨B, _, rfl, dgetF lp.fz pm, ?_⟩
          walk_at "r"
          refine ⟨_, _, _, _, rfl, h11, ib3, b11.mono (by omega), bk2.neg.mono (by omega), trivial, fun H12 v12 s12 h12 => ?_⟩
          have b12 : Bd (b + b + b) (-M k one / M k k * -M k other) := b11.mul bk2.neg
          walk_at "r"
          refine ⟨_, _, _, _, rfl, ho2.same s12, h12, (cd.bd ol pl).neg.mono (by omega), b12.mono (by omega), trivial, fun H13 v13 s13 h13 => ?_⟩
          have s13' := s12.trans s13
          have lp3 := lp.same s13'
          have hD3 := s13' _ _ hD
          walk_at "r"
          refine ⟨T1, _, rfl, dget lp3.tt oe, ?_⟩
          walk_at "r"
          refine ⟨a one, _, rfl, DPut.k (k := ky other) hD3 (small_dkv (Nat.le_trans (List.Nodup.length_le_of_subset knd fun q hq => ((hkj q).mp hq).1) (by omega))), ?_⟩
          have val : -M one other + -M k one / M k k * -M k other = -strike M k one other := by
            unfold strike
            rw [sy one k, Rat.div_def, Rat.div_def]
            grind
          have h13 : IsF K H13 v13 (-M one other + -M k one / M k k * -M k other) := h13
          rw [val] at h13
          have sneg : strike M k one other ≠ 0 := by
            have o1 := op one ol other pl (Ne.symm hne)
            have o2 := Rat.mul_pos (a := -M k one) (b := -M k other) (by grind) (by grind)
            have o3 := Rat.mul_pos o2 (Rat.inv_pos.mpr pk)
            unfold strike
            rw [sy one k, Rat.div_def]
            grind
          have lp4 := Lp.tie ap lp3 oe hD3 (fun q hq => (fD q hq).same s13') knd hkj pe hne h13 sneg
          refine ⟨_, _, rfl, lp4.congr (fun _ _ => rfl) (fun q hq j hj jq => ?_), (h11.same s13').ts (tps_putD (H1 := H13) hD3)⟩
          by_cases e : q = one
          · subst e
            rw [setN_same, setN_same, et]
            by_cases ej : j = other
            · subst ej
              rw [setR_same, setN_same]
              simp [jq]
            · rw [setR_ne ej, setN_same]
              simp [ej]
          · rw [setN_ne e, setN_ne e, setN_ne e]
        · rename_i hne
          have hne : other = one := by omega
          walk_at "r"
          refine ⟨_, _, rfl, lp.congr (fun _ _ => rfl) (fun q hq j hj jq => ?_), h11⟩
          by_cases e : q = one
          · subst e
            rw [setN_same, setN_same, et, hne]
            simp [jq]
          · rw [setN_ne e, setN_ne e]
      · rintro σ H' ⟨t8, t9, rfl, lp, _⟩
        refine ⟨_, _, _, _, rfl, lp.congr (fun _ _ => rfl) (fun q hq j hj jq => ?_)⟩
        have e1 : js.take (i + 1) = js.take i ++ [one] := by rw [List.take_add_one, ho]; rfl
        by_cases e : q = one
        · subst e
          rw [setN_same, List.take_length, if_pos (show q ∈ js.take (i + 1) by rw [e1]; simp)]
          by_cases c : j ∈ js
          · rw [if_pos ⟨c, jq⟩]
          · rw [if_neg (fun z => c z.1)]
            obtain ⟨jk, jl⟩ := (mem_er nd).mp hj
            have z : M k j = 0 := Classical.byContradiction fun z => c ((hjs j).mpr ⟨jl, jk, z⟩)
            unfold strike
            rw [z, Rat.mul_zero, zdiv]
            grind
        · rw [setN_ne e, e1]
          simp [e]
    · rintro σ H' ⟨t5, t7, t8, t9, rfl, lp⟩
      rw [List.take_length] at lp
      refine ⟨lp.fz, ?_⟩
      have sE := unlock_fw hB lp.off
      have tE : Tps H' (upd H' B (.dK (dkv js gB))) := unlock_tps lp.fz
      have fin : IsDf K (upd H' B (.dK (dkv js gB))) S1 (ls.erase k) (fun i => strike M k i i) := by
        obtain ⟨g, h1, h2⟩ := lp.sl
        refine ⟨g, (upd_ne ap.sd).trans h1, fun j hj => ?_⟩
        have this : IsF K (upd H' B (.dK (dkv js gB))) (g j) (if j ∈ js then strike M k j j else M j j) := (h2 j hj).ts tE
        by_cases c : j ∈ js
        · rw [if_pos c] at this
          exact this
        · rw [if_neg c] at this
          obtain ⟨jk, jl⟩ := (mem_er nd).mp hj
          have z : M k j = 0 := Classical.byContradiction fun z => c ((hjs j).mpr ⟨jl, jk, z⟩)
          have e : strike M k j j = M j j := by
            unfold strike
            rw [z, Rat.mul_zero, zdiv]
            grind
          show IsF K _ (g j) (strike M k j j)
          rw [e]
          exact this
      have finT : (upd H' B (.dK (dkv js gB))) T1 = some (.dK (dkv (ls.erase k) fun j => .ref (a j))) := (upd_ne ap.td).trans lp.tt
      have finR : ∀ i ∈ ls.erase k, TieR K (upd H' B (.dK (dkv js gB))) (a i) (ls.erase k) i (strike M k i) := fun i hi => by
        obtain ⟨kj, ⟨gj, h1, h2⟩, h3⟩ := lp.rw i hi
        have t : TieR K (upd H' B (.dK (dkv js gB))) (a i) (ls.erase k) i (if i ∈ js then strike M k i else M i) := ⟨kj, ⟨gj, (upd_ne (ap.ad hi)).trans h1, fun j hj => (h2 j hj).ts tE⟩, h3⟩
        refine t.congr fun j hj jq => ?_
        by_cases c : i ∈ js
        · rw [if_pos c]
        · rw [if_neg c]
          obtain ⟨ik, il⟩ := (mem_er nd).mp hi
          have z : M k i = 0 := Classical.byContradiction fun z => c ((hjs i).mpr ⟨il, ik, z⟩)
          unfold strike
          rw [sy i k, z, Rat.zero_mul, zdiv]
          grind
      clear tE lp
      generalize upd H' B (.dK (dkv js gB)) = HE at *
      walk_at "r"
      intro y dy ny ndy ne
      refine ⟨y, dy, S1, T1, rfl, upd_same, fun H7 h7 k7 => ⟨rfl, ?_⟩⟩
      have s7 : Same HE H7 := Same.made ny ndy fun b o h n => (k7 b n).trans h
      exact q _ _ (sE.trans s7) ⟨y, dy, S1, T1, _, rfl, h7, fin.same s7, s7 _ _ finT, fun i hi => ⟨a i, rfl, (finR i hi).same s7⟩⟩
end
end My
namespace My
open PySem PySem.Spec PyProof.Rows L2
variable {K : PySem.W.Frag}
section
variable {P : Program} {w : World} {K : PySem.W.Frag} {mg : Str → Option Value} {base : Heap} {f__wall f_is_integer f_is_row f_is_fraction f_is_amount f_is_some f_are_amounts f_added f_negated f_lessened f_multiplied f_divided f_squared f_summed f_lies_below f_is_stall f_hold_of f_stalls_of f_kept_of f_held f_roots f_check_purse f_check_wish f_may_stay f_table_of f_strike_row f_are_some f_filled_back f_in_order f_struck_in_turn f_scales f_is_scales f_l_deck f_l_pick f_l_divisor f_l_made f_l_added f_l_taken f_l_product f_l_amount f_l_stall f_l_held f_l_pulls f_l_edge f_l_deep f_l_changed f_l_are_some f_l_due f_l_is_judged f_l_word f_law f_Web_init f_Table_init f_Table_wrong_sign f_Table_behind f_Table_ties_without c_BadPurse c_BadWish c_Table c_Web c_ONE c_ZERO : Addr} {d__wall d_is_integer d_is_row d_is_fraction d_is_amount d_is_some d_are_amounts d_added d_negated d_lessened d_multiplied d_divided d_squared d_summed d_lies_below d_is_stall d_hold_of d_stalls_of d_kept_of d_held d_roots d_check_purse d_check_wish d_may_stay d_table_of d_strike_row d_are_some d_filled_back d_in_order d_struck_in_turn d_scales d_is_scales d_l_deck d_l_pick d_l_divisor d_l_made d_l_added d_l_taken d_l_product d_l_amount d_l_stall d_l_held d_l_pulls d_l_edge d_l_deep d_l_changed d_l_are_some d_l_due d_l_is_judged d_l_word d_law d_Web_init d_Table_init d_Table_wrong_sign d_Table_behind d_Table_ties_without : FuncData}
/-- what Web(n, stalls) makes of right stalls -/
def sp_web (K : PySem.W.Frag) (C : Addr) : Sp := fun vs H Q _ => ∃ (p dx L : Addr) (n : Nat) (xs : List V) (ss : List Stl), vs = [.ref p, .int (n : Nat), .ref L] ∧ H p = some (.ins C dx []) ∧ (H L = some (.lst xs) ∨ H L = some (.tup xs)) ∧ 1 ≤ n ∧ n ≤ 8 ∧ xs.length ≤ 16 ∧
  Sts K H xs ss ∧ (∀ s ∈ ss, OkSt n s ∧ BdSt 8900 s) ∧ ∀ H', IsWeb K C H' (.ref p) n ss → (∀ b o, H b = some o → b ≠ p → H' b = some o) → Q .non H'
theorem ok_Web_init (T : Txt K mg f__wall f_is_integer f_is_row f_is_fraction f_is_amount f_is_some f_are_amounts f_added f_negated f_lessened f_multiplied f_divided f_squared f_summed f_lies_below f_is_stall f_hold_of f_stalls_of f_kept_of f_held f_roots f_check_purse f_check_wish f_may_stay f_table_of f_strike_row f_are_some f_filled_back f_in_order f_struck_in_turn f_scales f_is_scales f_l_deck f_l_pick f_l_divisor f_l_made f_l_added f_l_taken f_l_product f_l_amount f_l_stall f_l_held f_l_pulls f_l_edge f_l_deep f_l_changed f_l_are_some f_l_due f_l_is_judged f_l_word f_law f_Web_init f_Table_init f_Table_wrong_sign f_Table_behind f_Table_ties_without c_BadPurse c_BadWish c_Table c_Web c_ONE c_ZERO d__wall d_is_integer d_is_row d_is_fraction d_is_amount d_is_some d_are_amounts d_added d_negated d_lessened d_multiplied d_divided d_squared d_summed d_lies_below d_is_stall d_hold_of d_stalls_of d_kept_of d_held d_roots d_check_purse d_check_wish d_may_stay d_table_of d_strike_row d_are_some d_filled_back d_in_order d_struck_in_turn d_scales d_is_scales d_l_deck d_l_pick d_l_divisor d_l_made d_l_added d_l_taken d_l_product d_l_amount d_l_stall d_l_held d_l_pulls d_l_edge d_l_deep d_l_changed d_l_are_some d_l_due d_l_is_judged d_l_word d_law d_Web_init d_Table_init d_Table_wrong_sign d_Table_behind d_Table_ties_without) : FnOk P w K mg base CX0 5 f_Web_init d_Web_init ["self", "wares", "stalls"] (sp_web K c_Web) := by
  have G_is_integer : FnOk P w K mg base CX0 1 f_is_integer d_is_integer ["thing"] sp_is_integer := ok_is_integer T
  have G_is_row : FnOk P w K mg base CX0 1 f_is_row d_is_row ["thing"] sp_is_row := ok_is_row T
  have G_is_stall : FnOk P w K mg base CX0 4 f_is_stall d_is_stall ["wares", "thing"] (sp_is_stall K) := ok_is_stall T
  refine T.F_Web_init.ok sc_Web_init (fun vs H Q E h => ?_) (fun cdv A outer s H vs Q E hr h => ?_)
  · obtain ⟨p, dx, L, n, xs, ss, rfl, _⟩ := h
    rfl
  · obtain ⟨p, dx, L, n, xs, ss, rfl, hp, hL, hn1, hn8, hlen, hss, hok, q⟩ := h
    refine ⟨_, (pss_cons (ps_if (PW.pt (pw_or (pt_not (pt_val (pe_call G_is_integer (hr.mono (by decide)) (by rfl) T.g_is_integer T.k_is_integer T.b_is_integer .nil pass0 (pa_cons (pv 1) pa_nil)))) (pw_or1 (pt_not (pt_chain op_le op_le pe_int (pv 1) (C8.pe_gc (by rfl) T.v_MOST_WARES))))))
        (pss_one ps_never)
        pss_nil)
      (pss_cons (ps_if (PW.pt (pw_or (pt_not (pt_val (pe_call G_is_row (hr.mono (by decide)) (by rfl) T.g_is_row T.k_is_row T.b_is_row .nil pass0 (pa_cons (pv 2) pa_nil)))) (pw_or1 (pt_cmpR op_gt (pe_callB call_lenN (by rfl) T.z_len (by decide +kernel) (pa_cons (pv 2) pa_nil)) (C8.pe_gc (by rfl) T.v_MOST_STALLS) (nomark _)))))
        (pss_one ps_never)
        pss_nil)
      (pss_cons (ps_for PassesOwn.never rfl (pi_enumX (by rfl) T.z_enumerate (pa_cons (pv 2) pa_nil)) (pg_tup rfl (pgs_cons (pg_name (i := 3) sc_Web_init.nd rfl (by first | exact Or.inl rfl | exact Or.inr rfl)) (pgs_cons (pg_name (i := 4) sc_Web_init.nd rfl (by first | exact Or.inl rfl | exact Or.inr rfl)) pgs_nil)))
        (pss_one (ps_if (pt_not (pt_val (pe_call G_is_stall (hr.mono (by decide)) (by rfl) T.g_is_stall T.k_is_stall T.b_is_stall .nil pass0 (pa_cons (pv 1) (pa_cons (pv 4) pa_nil)))))
            (pss_one ps_never)
            pss_nil)))
      (pss_cons (ps_fld (pv 0) (pv 1) rfl)
      (pss_one (ps_fld (pv 0) (pe_callTy call_tuple_of (by rfl) T.z_tuple (by decide +kernel) (pa_cons (pv 2) pa_nil)) rfl)))))), ?_⟩
    walk_at "r"
    refine ⟨_, rfl, ?_⟩
    walk_at "r"
    refine ⟨_, _, rfl, hL, fun H1 s1 => ?_⟩
    have hL1 : H1 L = some (.lst xs) ∨ H1 L = some (.tup xs) := hL.imp (fun h => s1 _ _ h) fun h => s1 _ _ h
    have hSq : ∀ {H2 : Hp}, Same H1 H2 → SqL K H2 L xs ∨ SqT K H2 L xs := fun f => hL1.imp (fun h => .of (f _ _ h)) fun h => .of (f _ _ h)
    walk_at "r"
    refine ⟨L, xs, rfl, hSq (Same.refl _), ?_⟩
    walk_at "r"
    refine ⟨L, xs, rfl, ?_⟩
    have nL : L ≠ p := fun z => by
      rw [z, hp] at hL
      rcases hL with z | z <;> cases z
    rcases hL1 with h | h
    · refine .inl ⟨.of h, ?_⟩
      refine for_enum (K := K) (a := L) (xs := xs) (fun i σ H' => ∃ t3 t4, σ = [some (.ref p), some (.int (n : Nat)), some (.ref L), t3, t4] ∧ Same H1 H') ⟨_, _, rfl, Same.refl _⟩ ?_ ?_ ?_
      · rintro i σ H' _ ⟨t3, t4, rfl, s'⟩
        exact .of (s' _ _ h)
      · rintro i x T2 σ H' hx ⟨t3, t4, rfl, s'⟩ nT
        obtain ⟨s0, hs0, hst⟩ := hss.at hx
        have sm := same_upd (o := .tup [.int (i : Nat), x]) nT
        obtain ⟨ok0, bd0⟩ := hok _ (List.mem_of_getElem? hs0)
        walk_at "r"
        refine ⟨n, x, s0, rfl, hst.same ((s1.trans s').trans sm), ok0, bd0, fun H3 s3 => ?_⟩
        walk_at "r"
        exact ⟨_, _, rfl, (s'.trans sm).trans s3⟩
      · rintro σ H2 ⟨t3, t4, rfl, s'⟩
        have hp2 := s' _ _ (s1 _ _ hp)
        have hL2 := s' _ _ h
        have k2 := s1.trans s'
        walk_at "r"
        refine ⟨_, _, _, _, rfl, hp2, T.w_Web.it.cl, T.n_Web_wares, (by decide), ?_⟩
        walk_at "r"
        refine ⟨_, _, rfl, .inl ⟨.of ((upd_ne nL).trans hL2), fun l nl => ?_⟩⟩
        have hlp : l ≠ p := fun z => by
          rw [z, upd_same] at nl
          cases nl
        have nl2 : H2 l = none := by
          rw [upd_ne hlp] at nl
          exact nl
        walk_at "r"
        refine ⟨_, _, _, _, rfl, (upd_ne (Ne.symm hlp)).trans upd_same, T.w_Web.it.cl, T.n_Web_stalls, (by show 1 < 1000; decide), ?_⟩
        have keep : ∀ b o, H b = some o → b ≠ p → upd (upd (upd H2 p (.ins c_Web dx (putF "wares" (.int (n : Nat)) []))) l (.tup xs)) p (.ins c_Web dx (putF "stalls" (.ref l) (putF "wares" (.int (n : Nat)) []))) b = some o := fun b o hb hbp => by
          have hbl : b ≠ l := fun z => by
            rw [← z, k2 _ _ hb] at nl2
            cases nl2
          rw [upd_ne hbp, upd_ne hbl, upd_ne hbp]
          exact k2 _ _ hb
        refine q _ ⟨p, dx, l, xs, rfl, by rw [upd_same, wF_new], (upd_ne hlp).trans upd_same, hss.ts fun b ys hb => keep b _ hb ?_⟩ keep
        intro z
        rw [z, hp] at hb
        cases hb
    · refine .inr ⟨.of h, ?_⟩
      refine for_enumT (K := K) (a := L) (xs := xs) (fun i σ H' => ∃ t3 t4, σ = [some (.ref p), some (.int (n : Nat)), some (.ref L), t3, t4] ∧ Same H1 H') ⟨_, _, rfl, Same.refl _⟩ ?_ ?_ ?_
      · rintro i σ H' _ ⟨t3, t4, rfl, s'⟩
        exact .of (s' _ _ h)
      · rintro i x T2 σ H' hx ⟨t3, t4, rfl, s'⟩ nT
        obtain ⟨s0, hs0, hst⟩ := hss.at hx
        have sm := same_upd (o := .tup [.int (i : Nat), x]) nT
        obtain ⟨ok0, bd0⟩ := hok _ (List.mem_of_getElem? hs0)
        walk_at "r"
        refine ⟨n, x, s0, rfl, hst.same ((s1.trans s').trans sm), ok0, bd0, fun H3 s3 => ?_⟩
        walk_at "r"
        exact ⟨_, _, rfl, (s'.trans sm).trans s3⟩
      · rintro σ H2 ⟨t3, t4, rfl, s'⟩
        have hp2 := s' _ _ (s1 _ _ hp)
        have hL2 := s' _ _ h
        have k2 := s1.trans s'
        walk_at "r"
        refine ⟨_, _, _, _, rfl, hp2, T.w_Web.it.cl, T.n_Web_wares, (by decide), ?_⟩
        walk_at "r"
        refine ⟨_, _, rfl, .inr ⟨.of ((upd_ne nL).trans hL2), ?_⟩⟩
        walk_at "r"
        refine ⟨_, _, _, _, rfl, upd_same, T.w_Web.it.cl, T.n_Web_stalls, (by show 1 < 1000; decide), ?_⟩
        have keep : ∀ b o, H b = some o → b ≠ p → upd (upd H2 p (.ins c_Web dx (putF "wares" (.int (n : Nat)) []))) p (.ins c_Web dx (putF "stalls" (.ref L) (putF "wares" (.int (n : Nat)) []))) b = some o := fun b o hb hbp => by
          rw [upd_ne hbp, upd_ne hbp]
          exact k2 _ _ hb
        refine q _ ⟨p, dx, L, xs, rfl, by rw [upd_same, wF_new], (upd_ne nL).trans ((upd_ne nL).trans hL2), hss.ts fun b ys hb => keep b _ hb ?_⟩ keep
        intro z
        rw [z, hp] at hb
        cases hb
end
end My
namespace My
open PySem PySem.Spec PyProof.Rows L2
variable {K : PySem.W.Frag}
theorem sq_pos {r : Rat} (h : 0 < r) : 0 < r * r := Rat.mul_pos h h
theorem ne_of_pos {r : Rat} (h : 0 < r) : r ≠ 0 := fun z => by
  rw [z] at h
  exact absurd h (by decide)
section
variable {P : Program} {w : World} {K : PySem.W.Frag} {mg : Str → Option Value} {base : Heap} {f__wall f_is_integer f_is_row f_is_fraction f_is_amount f_is_some f_are_amounts f_added f_negated f_lessened f_multiplied f_divided f_squared f_summed f_lies_below f_is_stall f_hold_of f_stalls_of f_kept_of f_held f_roots f_check_purse f_check_wish f_may_stay f_table_of f_strike_row f_are_some f_filled_back f_in_order f_struck_in_turn f_scales f_is_scales f_l_deck f_l_pick f_l_divisor f_l_made f_l_added f_l_taken f_l_product f_l_amount f_l_stall f_l_held f_l_pulls f_l_edge f_l_deep f_l_changed f_l_are_some f_l_due f_l_is_judged f_l_word f_law f_Web_init f_Table_init f_Table_wrong_sign f_Table_behind f_Table_ties_without c_BadPurse c_BadWish c_Table c_Web c_ONE c_ZERO : Addr} {d__wall d_is_integer d_is_row d_is_fraction d_is_amount d_is_some d_are_amounts d_added d_negated d_lessened d_multiplied d_divided d_squared d_summed d_lies_below d_is_stall d_hold_of d_stalls_of d_kept_of d_held d_roots d_check_purse d_check_wish d_may_stay d_table_of d_strike_row d_are_some d_filled_back d_in_order d_struck_in_turn d_scales d_is_scales d_l_deck d_l_pick d_l_divisor d_l_made d_l_added d_l_taken d_l_product d_l_amount d_l_stall d_l_held d_l_pulls d_l_edge d_l_deep d_l_changed d_l_are_some d_l_due d_l_is_judged d_l_word d_law d_Web_init d_Table_init d_Table_wrong_sign d_Table_behind d_Table_ties_without : FuncData}
def sp_stall_led (K : PySem.W.Frag) : Sp := fun vs H Q _ => ∃ v s vx x, vs = [v, vx] ∧ IsSt K H v s ∧ IsF K H vx x ∧ Bd 1900 s.r ∧ Bd 3900 x ∧ 0 < x ∧ ∀ H' u, Same H H' → IsSt K H' u (s.first x) → Q u H'
def sp_behind (K : PySem.W.Frag) : Sp := fun vs H Q _ => ∃ (v : V) (s : Stl) (wn : Nat) (vx : V) (x : Rat), vs = [v, .int (wn : Nat), vx] ∧ IsSt K H v s ∧ IsF K H vx x ∧ BdSt 1900 s ∧ Bd 1900 x ∧ 0 < s.a ∧ 0 < s.b ∧ 0 < x ∧ ∀ H' u, Same H H' → IsSt K H' u (s.behind wn x) → Q u H'
end
end My
namespace My
open PySem PySem.Spec PyProof.Rows L2
variable {K : PySem.W.Frag}
theorem at_some {xs : List V} {i : Nat} {x : V} (h : xs[i]? = some x) : atI xs (i : Int) = some x := atI_nat h
theorem in_pair {u v w : Nat} (h : w = u ∨ w = v) : inV (.int (w : Nat)) [V.int (u : Nat), .int (v : Nat)] = true := by
  rcases h with rfl | rfl <;> simp [inV, eqV]
section
variable {P : Program} {w : World} {K : PySem.W.Frag} {mg : Str → Option Value} {base : Heap} {f__wall f_is_integer f_is_row f_is_fraction f_is_amount f_is_some f_are_amounts f_added f_negated f_lessened f_multiplied f_divided f_squared f_summed f_lies_below f_is_stall f_hold_of f_stalls_of f_kept_of f_held f_roots f_check_purse f_check_wish f_may_stay f_table_of f_strike_row f_are_some f_filled_back f_in_order f_struck_in_turn f_scales f_is_scales f_l_deck f_l_pick f_l_divisor f_l_made f_l_added f_l_taken f_l_product f_l_amount f_l_stall f_l_held f_l_pulls f_l_edge f_l_deep f_l_changed f_l_are_some f_l_due f_l_is_judged f_l_word f_law f_Web_init f_Table_init f_Table_wrong_sign f_Table_behind f_Table_ties_without c_BadPurse c_BadWish c_Table c_Web c_ONE c_ZERO : Addr} {d__wall d_is_integer d_is_row d_is_fraction d_is_amount d_is_some d_are_amounts d_added d_negated d_lessened d_multiplied d_divided d_squared d_summed d_lies_below d_is_stall d_hold_of d_stalls_of d_kept_of d_held d_roots d_check_purse d_check_wish d_may_stay d_table_of d_strike_row d_are_some d_filled_back d_in_order d_struck_in_turn d_scales d_is_scales d_l_deck d_l_pick d_l_divisor d_l_made d_l_added d_l_taken d_l_product d_l_amount d_l_stall d_l_held d_l_pulls d_l_edge d_l_deep d_l_changed d_l_are_some d_l_due d_l_is_judged d_l_word d_law d_Web_init d_Table_init d_Table_wrong_sign d_Table_behind d_Table_ties_without : FuncData}
def sp_is_index (K : PySem.W.Frag) (C : Addr) : Sp := fun vs H Q _ => ∃ (x : V) (n : Nat) (ss : List Stl) (i : Nat), vs = [x, .int (i : Nat)] ∧ IsWeb K C H x n ss ∧ i < ss.length ∧ Q (.bl true) H
def sp_is_move (K : PySem.W.Frag) (C : Addr) : Sp := fun vs H Q _ => ∃ (x mv : V) (n : Nat) (ss : List Stl) (i wn : Nat) (s : Stl) (y : Rat), vs = [x, mv] ∧ IsWeb K C H x n ss ∧ IsMv K H mv i wn y ∧ ss[i]? = some s ∧ (wn = s.u ∨ wn = s.v) ∧ 0 < y ∧ ∀ H', Same H H' → Q (.bl true) H'
end
end My
namespace My
open PySem PySem.Spec PyProof.Rows L2
variable {K : PySem.W.Frag}
theorem mul_div_self {k x : Rat} (h : x ≠ 0) : x * (k / x) = k := by
  rw [Rat.div_def, ← Rat.mul_assoc, Rat.mul_comm x k, Rat.mul_assoc, Rat.mul_inv_cancel x h, Rat.mul_one]
theorem div_pos' {k x : Rat} (h : 0 < k) (hx : 0 < x) : 0 < k / x := by
  rw [Rat.div_def]
  exact Rat.mul_pos h (Rat.inv_pos.mpr hx)
theorem behind_ok {n : Nat} {s : Stl} (h : OkSt n s) (wn : Nat) {y : Rat} (y0 : 0 < y) : OkSt n (s.behind wn y) := by
  have a0 := h.a
  have b0 := h.b
  have rr := sq_pos h.r
  unfold Stl.behind
  split
  · have p : 0 < s.a + y := by grind
    exact ⟨h.u, h.v, h.ne, p, div_pos' rr p, h.r, mul_div_self (ne_of_pos p)⟩
  · have p : 0 < s.b + y := by grind
    exact ⟨h.u, h.v, h.ne, div_pos' rr p, p, h.r, (Rat.mul_comm _ _).trans (mul_div_self (ne_of_pos p))⟩
theorem behind_bd {k l : Nat} {n : Nat} {s : Stl} (hs : OkSt n s) (h : BdSt k s) (wn : Nat) {y : Rat} (y0 : 0 < y) (b : Bd l y) : BdSt (3 * k + l + 1) (s.behind wn y) := by
  have a0 := hs.a
  have b0 := hs.b
  unfold Stl.behind
  split
  · have p : 0 < s.a + y := by grind
    exact ⟨(h.a.add b).mono (by omega), ((h.r.mul h.r).div (ne_of_pos p) (h.a.add b)).mono (by omega), h.r.mono (by omega)⟩
  · have p : 0 < s.b + y := by grind
    exact ⟨((h.r.mul h.r).div (ne_of_pos p) (h.b.add b)).mono (by omega), (h.b.add b).mono (by omega), h.r.mono (by omega)⟩
theorem Sts.set {H : Hp} {xs : List V} {ss : List Stl} {v : V} {s : Stl} (h : Sts K H xs ss) (hv : IsSt K H v s) (i : Nat) : Sts K H (xs.set i v) (ss.set i s) := by
  unfold Sts at *
  induction h generalizing i with
  | nil => exact .nil
  | cons h t ih =>
    cases i with
    | zero => exact .cons hv t
    | succ i => exact .cons h (ih i)
theorem set_parts {xs : List V} {i : Nat} {v : V} (h : i < xs.length) : cutV xs none (some (i : Int)) ++ [v] ++ cutV xs (some ((i : Int) + 1)) none = xs.set i v := by
  have e : ((i : Int) + 1) = ((i + 1 : Nat) : Int) := by omega
  rw [e]
  unfold cutV
  rw [HT.sIx_none, HT.sIx_none, HT.sIx_nat, HT.sIx_nat, List.set_eq_take_append_cons_drop, if_pos h]
  have m1 : min i xs.length = i := by omega
  have m2 : min (i + 1) xs.length = i + 1 := by omega
  rw [m1, m2]
  simp
  exact List.take_of_length_le (by simp)
theorem rd_catA {K : PySem.W.Frag} {H : Hp} {a b : Addr} {xs ys : List V} {Q : VK} (ha : H a = some (.tup xs)) (hb : H b = some (.tup ys)) (hl : xs.length + ys.length ≤ sizeLine)
    (q : ∀ p H', Same H H' → H' p = some (.tup (xs ++ ys)) → Q (.ref p) H') : rCatA K (.ref a) (.ref b) H Q := by
  refine ⟨a, b, xs, ys, rfl, rfl, .of ha, .of hb, hl, fun e => ?_, fun _ e => ?_, fun _ _ p np => q p _ (same_upd np) upd_same⟩
  · subst e
    exact q b H (Same.refl _) hb
  · subst e
    exact q a H (Same.refl _) (by rw [List.append_nil]; exact ha)
theorem rd_slT {K : PySem.W.Frag} {H : Hp} {a : Addr} {xs : List V} {lo hi : Option Int} {Q : VK} (ha : H a = some (.tup xs)) (hw : ¬ (HT.sIx xs.length 0 lo = 0 ∧ HT.sIx xs.length xs.length hi = xs.length))
    (q : ∀ p H', Same H H' → H' p = some (.tup (cutV xs lo hi)) → Q (.ref p) H') : rSlT K (.ref a) lo hi H Q := ⟨a, xs, rfl, .of ha, hw, fun p np => q p _ (same_upd np) upd_same⟩
/-- a web within its bounds -/
structure OkW (n k : Nat) (ss : List Stl) : Prop where
  n1 : 1 ≤ n
  n8 : n ≤ 8
  len : ss.length ≤ 16
  ok : ∀ s ∈ ss, OkSt n s ∧ BdSt k s
theorem OkW.set {n k : Nat} {ss : List Stl} (h : OkW n k ss) {s : Stl} (h1 : OkSt n s) (h2 : BdSt k s) (i : Nat) : OkW n k (ss.set i s) :=
  ⟨h.n1, h.n8, by rw [List.length_set]; exact h.len, fun t ht => by
    rcases List.mem_or_eq_of_mem_set ht with z | z
    · exact h.ok t z
    · subst z
      exact ⟨h1, h2⟩⟩
theorem BdSt.mono {k l : Nat} {s : Stl} (h : BdSt k s) (hl : k ≤ l) : BdSt l s := ⟨h.a.mono hl, h.b.mono hl, h.r.mono hl⟩
theorem OkW.mono {n k l : Nat} {ss : List Stl} (h : OkW n k ss) (hl : k ≤ l) : OkW n l ss := ⟨h.n1, h.n8, h.len, fun s hs => ⟨(h.ok s hs).1, (h.ok s hs).2.mono hl⟩⟩
end My
namespace My
open PySem PySem.Spec PyProof.Rows L2
variable {K : PySem.W.Frag}
def Stl.hold (s : Stl) (w : Nat) : Rat := if w = s.u then s.a else s.b
def Stl.at (s : Stl) (w : Nat) : Bool := decide (w = s.u) || decide (w = s.v)
def at_ (ss : List Stl) (w : Nat) : List Stl := ss.filter (·.at w)
def sumR (l : List Rat) : Rat := l.foldl (· + ·) 0
def heldAt (ss : List Stl) (w : Nat) : Rat := sumR ((at_ ss w).map (·.hold w))
def heldAll (n : Nat) (ss : List Stl) : List Rat := (List.range n).map (heldAt ss)
def Fs (K : PySem.W.Frag) (H : Hp) (ys : List V) (rs : List Rat) : Prop := Paired (IsF K H) ys rs
def IsFs (K : PySem.W.Frag) (H : Hp) (x : V) (rs : List Rat) : Prop := ∃ t ys, x = .ref t ∧ H t = some (.tup ys) ∧ Fs K H ys rs
theorem Fs.same {H H' : Hp} {ys : List V} {rs : List Rat} (s : Same H H') (h : Fs K H ys rs) : Fs K H' ys rs := Paired.mapP h fun _ _ h => h.same s
theorem IsFs.same {H H' : Hp} {x : V} {rs : List Rat} (s : Same H H') (h : IsFs K H x rs) : IsFs K H' x rs := by
  obtain ⟨t, ys, e, h1, h2⟩ := h
  exact ⟨t, ys, e, s _ _ h1, h2.same s⟩
theorem Fs.len {H : Hp} {ys : List V} {rs : List Rat} (h : Fs K H ys rs) : ys.length = rs.length := Paired.length h
theorem Paired.at {α : Type} {F : V → α → Prop} {xs : List V} {as : List α} (h : Paired F xs as) : ∀ {i : Nat} {x : V}, xs[i]? = some x → ∃ a, as[i]? = some a ∧ F x a := by
  induction h with
  | nil =>
    intro i x e
    simp at e
  | cons h t ih =>
    intro i x e
    match i with
    | 0 =>
      simp at e
      subst e
      exact ⟨_, rfl, h⟩
    | i + 1 => exact ih (by simpa using e)
theorem Paired.get' {α : Type} {F : V → α → Prop} {xs : List V} {as : List α} (h : Paired F xs as) : ∀ {i : Nat} {a : α}, as[i]? = some a → ∃ x, xs[i]? = some x ∧ F x a := by
  induction h with
  | nil =>
    intro i x e
    simp at e
  | cons h t ih =>
    intro i x e
    match i with
    | 0 =>
      simp at e
      subst e
      exact ⟨_, rfl, h⟩
    | i + 1 => exact ih (by simpa using e)
theorem stl_at_in (s : Stl) (w : Nat) : inV (.int (w : Nat)) [V.int (s.u : Nat), .int (s.v : Nat)] = s.at w := by
  have e : ∀ k : Nat, eqV (.int (k : Nat)) (.int (w : Nat)) = decide (w = k) := fun k => by
    rw [Bool.eq_iff_iff]
    simp [eqV]
    omega
  show (eqV _ _ || (eqV _ _ || false)) = _
  rw [e, e, Bool.or_false]
  rfl
/-- bounds of sums -/
theorem sumR_snoc (l : List Rat) (r : Rat) : sumR (l ++ [r]) = sumR l + r := by
  unfold sumR
  rw [List.foldl_append]
  rfl
theorem bd_zero {k : Nat} (h : 0 < k) : Bd k 0 := ⟨Nat.two_pow_pos k, Nat.one_lt_two_pow (by omega)⟩
/-- sizes of sums, each item with its own bits -/
def BR (rs : List Rat) (M : Nat) : Prop := ∃ ks : List Nat, Paired (fun r k => Bd k r) rs ks ∧ 1 + (ks.map (· + 1)).sum ≤ M
theorem fold_bd {rs : List Rat} {ks : List Nat} (h : Paired (fun r k => Bd k r) rs ks) : ∀ (a : Rat) (A : Nat), Bd A a → Bd (A + (ks.map (· + 1)).sum) (rs.foldl (· + ·) a) := by
  induction h with
  | nil =>
    intro a A ha
    exact ha
  | cons h t ih =>
    intro a A ha
    refine (ih _ _ (ha.add h)).mono ?_
    rw [List.map_cons, List.sum_cons]
    omega
theorem BR.sum {rs : List Rat} {M : Nat} (h : BR rs M) : Bd M (sumR rs) := by
  obtain ⟨ks, h, hm⟩ := h
  exact (fold_bd h 0 1 (bd_zero (by decide))).mono hm
theorem BR.take {rs : List Rat} {M : Nat} (h : BR rs M) (i : Nat) : BR (rs.take i) M := by
  obtain ⟨ks, h, hm⟩ := h
  refine ⟨ks.take i, ?_, Nat.le_trans (Nat.add_le_add_left ?_ 1) hm⟩
  · clear hm
    induction h generalizing i with
    | nil => cases i <;> exact .nil
    | cons h t ih =>
      cases i with
      | zero => exact .nil
      | succ i => exact .cons h (ih i)
  · clear hm h
    induction ks generalizing i with
    | nil => simp
    | cons k ks ih =>
      cases i with
      | zero => simp
      | succ i =>
        rw [List.take_succ_cons, List.map_cons, List.map_cons, List.sum_cons, List.sum_cons]
        have := ih i
        omega
theorem BR.mem {rs : List Rat} {M : Nat} (h : BR rs M) {r : Rat} (hr : r ∈ rs) : Bd M r := by
  obtain ⟨ks, h, hm⟩ := h
  induction h generalizing M with
  | nil => simp at hr
  | cons h t ih =>
    rw [List.map_cons, List.sum_cons] at hm
    rcases List.mem_cons.mp hr with rfl | hr
    · exact h.mono (by omega)
    · exact ih hr (by omega)
theorem take_at {α : Type} {l : List α} {i : Nat} {a : α} (h : l[i]? = some a) : l.take (i + 1) = l.take i ++ [a] := by
  rw [List.take_add_one, h]
  rfl
theorem IsF.c0 {p : Addr} {H : Hp} (h : SqT K (fun _ => none) p [.int 0, .int 1]) : IsF K H (.ref p) 0 := ⟨p, rfl, .inr h⟩
theorem hold_bd {k : Nat} {s : Stl} (h : BdSt k s) (w : Nat) : Bd k (s.hold w) := by
  unfold Stl.hold
  split
  · exact h.a
  · exact h.b
/-- sizes of stalls, each with its own bits -/
def BL (ss : List Stl) (M : Nat) : Prop := ∃ ks : List Nat, Paired (fun s k => BdSt k s) ss ks ∧ 1 + (ks.map (· + 1)).sum ≤ M
theorem BL.mono {ss : List Stl} {M N : Nat} (h : BL ss M) (l : M ≤ N) : BL ss N := h.imp fun _ h => ⟨h.1, Nat.le_trans h.2 l⟩
theorem bl_of {k : Nat} {ss : List Stl} (h16 : ss.length ≤ 16) (h : ∀ s ∈ ss, BdSt k s) : BL ss (16 * (k + 1) + 1) := by
  refine ⟨ss.map fun _ => k, ?_, ?_⟩
  · clear h16
    induction ss with
    | nil => exact .nil
    | cons s ss ih => exact .cons (h s (by simp)) (ih fun t ht => h t (by simp [ht]))
  · have e : ((ss.map fun _ => k).map (· + 1)).sum = ss.length * (k + 1) := by
      clear h h16
      induction ss with
      | nil => simp
      | cons s ss ih =>
        rw [List.map_cons, List.map_cons, List.sum_cons, ih, List.length_cons, Nat.add_mul]
        omega
    rw [e]
    have := Nat.mul_le_mul_right (k + 1) h16
    omega
theorem BL.at {ss : List Stl} {M : Nat} (h : BL ss M) (w : Nat) : BR ((at_ ss w).map (·.hold w)) M := by
  obtain ⟨ks, h, hm⟩ := h
  have key : ∃ js : List Nat, Paired (fun r k => Bd k r) ((at_ ss w).map (·.hold w)) js ∧ (js.map (· + 1)).sum ≤ (ks.map (· + 1)).sum := by
    clear hm
    induction h with
    | nil => exact ⟨[], .nil, Nat.le_refl _⟩
    | @cons s k ss ks h t ih =>
      obtain ⟨js, h1, h2⟩ := ih
      unfold at_ at *
      rw [List.filter_cons]
      split
      · refine ⟨k :: js, .cons (hold_bd h w) h1, ?_⟩
        rw [List.map_cons, List.map_cons, List.sum_cons, List.sum_cons]
        omega
      · refine ⟨js, h1, ?_⟩
        rw [List.map_cons, List.sum_cons]
        omega
  obtain ⟨js, h1, h2⟩ := key
  exact ⟨js, h1, by omega⟩
theorem BL.held {ss : List Stl} {M : Nat} (h : BL ss M) (w : Nat) : Bd M (heldAt ss w) := (h.at w).sum
theorem upTo_bind {α β : Type} (g : α → Option β) : ∀ l : List α, upTo (fun i => (l[i]?).bind g) l.length = l.filterMap g
  | [] => rfl
  | a :: l => by
    have ih := upTo_bind g l
    unfold upTo at *
    rw [List.length_cons, List.range_succ_eq_map, List.filterMap_cons, List.filterMap_map]
    have e : ((fun i => ((a :: l)[i]?).bind g) ∘ Nat.succ) = fun i => (l[i]?).bind g := rfl
    rw [e, ih, List.filterMap_cons]
    rfl
theorem upTo_filter (p : Stl → Bool) (ss : List Stl) : upTo (fun i => (ss[i]?).filter p) ss.length = ss.filter p := by
  have e : (fun i : Nat => (ss[i]?).filter p) = fun i : Nat => (ss[i]?).bind (Option.guard p) := by
    funext i
    cases ss[i]? <;> simp [Option.filter, Option.guard]
  rw [e, upTo_bind, List.filterMap_eq_filter]
theorem upTo_map {α : Type} {n : Nat} (g : Nat → α) : upTo (fun i => some (g i)) n = (List.range n).map g := by
  unfold upTo
  induction List.range n with
  | nil => rfl
  | cons x l ih => simp [ih]
theorem upTo_list {α β : Type} (l : List α) (g : α → β) : upTo (fun i => (l[i]?).map g) l.length = l.map g := by
  have e : (fun i : Nat => (l[i]?).map g) = fun i : Nat => (l[i]?).bind (fun a => some (g a)) := by
    funext i
    cases l[i]? <;> rfl
  rw [e, upTo_bind]
  exact congrFun (List.filterMap_eq_map (f := g)) l
section
variable {P : Program} {w : World} {K : PySem.W.Frag} {mg : Str → Option Value} {base : Heap} {f__wall f_is_integer f_is_row f_is_fraction f_is_amount f_is_some f_are_amounts f_added f_negated f_lessened f_multiplied f_divided f_squared f_summed f_lies_below f_is_stall f_hold_of f_stalls_of f_kept_of f_held f_roots f_check_purse f_check_wish f_may_stay f_table_of f_strike_row f_are_some f_filled_back f_in_order f_struck_in_turn f_scales f_is_scales f_l_deck f_l_pick f_l_divisor f_l_made f_l_added f_l_taken f_l_product f_l_amount f_l_stall f_l_held f_l_pulls f_l_edge f_l_deep f_l_changed f_l_are_some f_l_due f_l_is_judged f_l_word f_law f_Web_init f_Table_init f_Table_wrong_sign f_Table_behind f_Table_ties_without c_BadPurse c_BadWish c_Table c_Web c_ONE c_ZERO : Addr} {d__wall d_is_integer d_is_row d_is_fraction d_is_amount d_is_some d_are_amounts d_added d_negated d_lessened d_multiplied d_divided d_squared d_summed d_lies_below d_is_stall d_hold_of d_stalls_of d_kept_of d_held d_roots d_check_purse d_check_wish d_may_stay d_table_of d_strike_row d_are_some d_filled_back d_in_order d_struck_in_turn d_scales d_is_scales d_l_deck d_l_pick d_l_divisor d_l_made d_l_added d_l_taken d_l_product d_l_amount d_l_stall d_l_held d_l_pulls d_l_edge d_l_deep d_l_changed d_l_are_some d_l_due d_l_is_judged d_l_word d_law d_Web_init d_Table_init d_Table_wrong_sign d_Table_behind d_Table_ties_without : FuncData}
def sp_summed (K : PySem.W.Frag) : Sp := fun vs H Q _ => ∃ (L : Addr) (ys : List V) (rs : List Rat) (M : Nat), vs = [.ref L] ∧ H L = some (.lst ys) ∧ Fs K H ys rs ∧ BR rs M ∧ M ≤ 8900 ∧ ∀ H' v, Same H H' → IsF K H' v (sumR rs) → Q v H'
theorem ok_summed (T : Txt K mg f__wall f_is_integer f_is_row f_is_fraction f_is_amount f_is_some f_are_amounts f_added f_negated f_lessened f_multiplied f_divided f_squared f_summed f_lies_below f_is_stall f_hold_of f_stalls_of f_kept_of f_held f_roots f_check_purse f_check_wish f_may_stay f_table_of f_strike_row f_are_some f_filled_back f_in_order f_struck_in_turn f_scales f_is_scales f_l_deck f_l_pick f_l_divisor f_l_made f_l_added f_l_taken f_l_product f_l_amount f_l_stall f_l_held f_l_pulls f_l_edge f_l_deep f_l_changed f_l_are_some f_l_due f_l_is_judged f_l_word f_law f_Web_init f_Table_init f_Table_wrong_sign f_Table_behind f_Table_ties_without c_BadPurse c_BadWish c_Table c_Web c_ONE c_ZERO d__wall d_is_integer d_is_row d_is_fraction d_is_amount d_is_some d_are_amounts d_added d_negated d_lessened d_multiplied d_divided d_squared d_summed d_lies_below d_is_stall d_hold_of d_stalls_of d_kept_of d_held d_roots d_check_purse d_check_wish d_may_stay d_table_of d_strike_row d_are_some d_filled_back d_in_order d_struck_in_turn d_scales d_is_scales d_l_deck d_l_pick d_l_divisor d_l_made d_l_added d_l_taken d_l_product d_l_amount d_l_stall d_l_held d_l_pulls d_l_edge d_l_deep d_l_changed d_l_are_some d_l_due d_l_is_judged d_l_word d_law d_Web_init d_Table_init d_Table_wrong_sign d_Table_behind d_Table_ties_without) : FnOk P w K mg base CX0 2 f_summed d_summed ["fractions"] (sp_summed K) := by
  have G_added : FnOk P w K mg base CX0 1 f_added d_added ["one", "other"] (sp_added K) := ok_added T
  refine T.F_summed.ok sc_summed (fun vs H Q E h => ?_) (fun cdv A outer s H vs Q E hr h => ?_)
  · obtain ⟨L, ys, rs, k, rfl, _⟩ := h
    rfl
  · obtain ⟨L, ys, rs, k, rfl, hL, hf, hb, hk, q⟩ := h
    have hl := hf.len
    refine ⟨_, (pss_cons (ps_set (i := 1) sc_summed.nd rfl (by first | exact Or.inl rfl | exact Or.inr rfl) (pe_glob (v := .ref c_ZERO) (by rfl) T.v_ZERO rfl))
      (pss_cons (ps_for PassesOwn.never rfl (pi_list (pv 0)) (pg_name (i := 2) sc_summed.nd rfl (by first | exact Or.inl rfl | exact Or.inr rfl))
        (pss_one (ps_set (i := 1) sc_summed.nd rfl (by first | exact Or.inl rfl | exact Or.inr rfl) (pe_call G_added (hr.mono (by decide)) (by rfl) T.g_added T.k_added T.b_added .nil pass0 (pa_cons (pv 1) (pa_cons (pv 2) pa_nil))))))
      (pss_one (ps_ret (pv 1))))), ?_⟩
    walk_at "r"
    refine ⟨⟨_, .of hL⟩, ?_⟩
    refine for_list (K := K) (a := L) (xs := ys) (fun i σ H' => ∃ (tot : V) (t2 : Option V), σ = [some (.ref L), some tot, t2] ∧ Same H H' ∧ IsF K H' tot (sumR (rs.take i))) ⟨_, _, rfl, Same.refl _, .c0 T.t_ZERO⟩ ?_ ?_ ?_
    · rintro i σ H' _ ⟨tot, t2, rfl, s1, _⟩
      exact .of (s1 _ _ hL)
    · rintro i x σ H' hx ⟨tot, t2, rfl, s1, ht⟩
      obtain ⟨r, hr', hxr⟩ := Paired.at hf hx
      have b1 : Bd 8900 (sumR (rs.take i)) := (hb.take i).sum.mono hk
      have b2 : Bd 8900 r := (hb.mem (List.mem_of_getElem? hr')).mono hk
      walk_at "r"
      refine ⟨_, _, _, _, rfl, ht, hxr.same s1, b1, b2, trivial, fun H2 v s2 hv => ?_⟩
      walk_at "r"
      refine ⟨_, _, rfl, s1.trans s2, ?_⟩
      rw [take_at hr', sumR_snoc]
      exact hv
    · rintro σ H' ⟨tot, t2, rfl, s1, ht⟩
      rw [hl, List.take_length] at ht
      walk_at "r"
      exact q _ _ s1 ht
def sp_hold_of (K : PySem.W.Frag) : Sp := fun vs H Q _ => ∃ (v : V) (s : Stl) (wn : Nat), vs = [v, .int (wn : Nat)] ∧ IsSt K H v s ∧ ∀ x, IsF K H x (s.hold wn) → Q x H
theorem ok_hold_of (T : Txt K mg f__wall f_is_integer f_is_row f_is_fraction f_is_amount f_is_some f_are_amounts f_added f_negated f_lessened f_multiplied f_divided f_squared f_summed f_lies_below f_is_stall f_hold_of f_stalls_of f_kept_of f_held f_roots f_check_purse f_check_wish f_may_stay f_table_of f_strike_row f_are_some f_filled_back f_in_order f_struck_in_turn f_scales f_is_scales f_l_deck f_l_pick f_l_divisor f_l_made f_l_added f_l_taken f_l_product f_l_amount f_l_stall f_l_held f_l_pulls f_l_edge f_l_deep f_l_changed f_l_are_some f_l_due f_l_is_judged f_l_word f_law f_Web_init f_Table_init f_Table_wrong_sign f_Table_behind f_Table_ties_without c_BadPurse c_BadWish c_Table c_Web c_ONE c_ZERO d__wall d_is_integer d_is_row d_is_fraction d_is_amount d_is_some d_are_amounts d_added d_negated d_lessened d_multiplied d_divided d_squared d_summed d_lies_below d_is_stall d_hold_of d_stalls_of d_kept_of d_held d_roots d_check_purse d_check_wish d_may_stay d_table_of d_strike_row d_are_some d_filled_back d_in_order d_struck_in_turn d_scales d_is_scales d_l_deck d_l_pick d_l_divisor d_l_made d_l_added d_l_taken d_l_product d_l_amount d_l_stall d_l_held d_l_pulls d_l_edge d_l_deep d_l_changed d_l_are_some d_l_due d_l_is_judged d_l_word d_law d_Web_init d_Table_init d_Table_wrong_sign d_Table_behind d_Table_ties_without) : FnOk P w K mg base CX0 1 f_hold_of d_hold_of ["stall", "ware"] (sp_hold_of K) := by
  refine T.F_hold_of.ok sc_hold_of (fun vs H Q E h => ?_) (fun cdv A outer s H vs Q E hr h => ?_)
  · obtain ⟨v, s, wn, rfl, _⟩ := h
    rfl
  · obtain ⟨v, s, wn, rfl, ⟨p, va, vb, vr, rfl, hp, ha, hb, hr'⟩, q⟩ := h
    refine ⟨_, (pss_cons (ps_if (pt_cmpR op_eq (pv 1) (pe_ix ix_tup (pv 0) pe_int (fun _ _ => rfl)) (nomark _))
        (pss_one (ps_ret (pe_ix ix_tup (pv 0) pe_int (fun _ _ => rfl))))
        pss_nil)
      (pss_one (ps_ret (pe_ix ix_tup (pv 0) pe_int (fun _ _ => rfl))))), ?_⟩
    walk_at "r"
    walk_at "if"
    · rename_i e
      rw [show s.hold wn = s.a from if_pos (by omega)] at q
      walk_at "r"
      exact q _ ha
    · rename_i e
      rw [show s.hold wn = s.b from if_neg (by omega)] at q
      walk_at "r"
      exact q _ hb
def sp_stalls_of (K : PySem.W.Frag) : Sp := fun vs H Q _ => ∃ (t : Addr) (xs : List V) (ss : List Stl) (wn : Nat), vs = [.int (wn : Nat), .ref t] ∧ H t = some (.tup xs) ∧ Sts K H xs ss ∧ ss.length ≤ 16 ∧
  ∀ H' L ys, Same H H' → H' L = some (.lst ys) → Sts K H' ys (at_ ss wn) → Q (.ref L) H'
theorem ok_stalls_of (T : Txt K mg f__wall f_is_integer f_is_row f_is_fraction f_is_amount f_is_some f_are_amounts f_added f_negated f_lessened f_multiplied f_divided f_squared f_summed f_lies_below f_is_stall f_hold_of f_stalls_of f_kept_of f_held f_roots f_check_purse f_check_wish f_may_stay f_table_of f_strike_row f_are_some f_filled_back f_in_order f_struck_in_turn f_scales f_is_scales f_l_deck f_l_pick f_l_divisor f_l_made f_l_added f_l_taken f_l_product f_l_amount f_l_stall f_l_held f_l_pulls f_l_edge f_l_deep f_l_changed f_l_are_some f_l_due f_l_is_judged f_l_word f_law f_Web_init f_Table_init f_Table_wrong_sign f_Table_behind f_Table_ties_without c_BadPurse c_BadWish c_Table c_Web c_ONE c_ZERO d__wall d_is_integer d_is_row d_is_fraction d_is_amount d_is_some d_are_amounts d_added d_negated d_lessened d_multiplied d_divided d_squared d_summed d_lies_below d_is_stall d_hold_of d_stalls_of d_kept_of d_held d_roots d_check_purse d_check_wish d_may_stay d_table_of d_strike_row d_are_some d_filled_back d_in_order d_struck_in_turn d_scales d_is_scales d_l_deck d_l_pick d_l_divisor d_l_made d_l_added d_l_taken d_l_product d_l_amount d_l_stall d_l_held d_l_pulls d_l_edge d_l_deep d_l_changed d_l_are_some d_l_due d_l_is_judged d_l_word d_law d_Web_init d_Table_init d_Table_wrong_sign d_Table_behind d_Table_ties_without) : FnOk P w K mg base CX0 1 f_stalls_of d_stalls_of ["ware", "stalls"] (sp_stalls_of K) := by
  refine T.F_stalls_of.ok sc_stalls_of (fun vs H Q E h => ?_) (fun cdv A outer s H vs Q E hr h => ?_)
  · obtain ⟨t, xs, ss, wn, rfl, _⟩ := h
    rfl
  · obtain ⟨t, xs, ss, wn, rfl, ht, hss, h16, q⟩ := h
    have hl := hss.len
    refine ⟨_, (pss_one (ps_ret (pe_lc (own := [("stall", 2)]) (g := gName 2) rfl sc_stalls_of.nd (pi_tup (pv 1)) (blkOk_by (own := [("stall", 2)]) (N := N_stalls_of) (sc := defScope s_stalls_of) (by decide +kernel)) (fun _ _ _ _ _ => (pg_name (i := 2) sc_stalls_of.nd rfl (by first | exact Or.inl rfl | exact Or.inr rfl))) (fun _ _ _ _ _ => (pts_one (pt_cmpR (My.op_inK (K := K) (by rfl)) (pv 0) (pe_slice (My.sl_tupK (K := K) (by rfl)) (pv 2) po_none (po_some pe_int)) (by rfl)))) (fun _ _ _ _ _ => (pv 2))))), ?_⟩
    walk_at "r"
    refine ⟨⟨_, .of ht⟩, fun L nL => ?_⟩
    refine lc_tupP (R := IsSt K) (fun _ _ _ _ f h => h.ts f) (f := fun i => (ss[i]?).filter (·.at wn)) nL (by omega) (.of ht) (fun i x hx H' Q' N s1 hy hn => ?_) fun H' hlst => ?_
    · obtain ⟨s, hs, hst⟩ := hss.at hx
      have hst := hst.same s1
      obtain ⟨p, va, vb, vr, rfl, hp, _⟩ := id hst
      walk_at "r"
      refine ⟨rfl, ?_⟩
      walk_at "r"
      refine rd_slT hp (show ¬ (HT.sIx 5 0 none = 0 ∧ HT.sIx 5 5 (some 2) = 5) by decide) fun p1 H2 s2 h2 => ?_
      have h2 : H2 p1 = some (.tup [V.int (s.u : Nat), .int (s.v : Nat)]) := h2
      refine ⟨_, _, rfl, .inr (.of h2), rfl, rfl, ?_⟩
      refine ⟨_, rfl, ?_⟩
      rw [if_neg Bool.false_ne_true, stl_at_in]
      cases e : s.at wn
      · exact hn _ (by simp [hs, Option.filter, e]) s2
      · walk_at "r"
        exact hy s _ _ (by simp [hs, Option.filter, e]) s2 (hst.same s2)
    · obtain ⟨s1, ys, hL, hys⟩ := hlst
      rw [hl, upTo_filter] at hys
      exact q _ _ _ s1 hL hys
def sp_kept_of (K : PySem.W.Frag) : Sp := fun vs H Q _ => ∃ (t : Addr) (xs : List V) (ss : List Stl) (wn M : Nat), vs = [.int (wn : Nat), .ref t] ∧ H t = some (.tup xs) ∧ Sts K H xs ss ∧ ss.length ≤ 16 ∧ BL ss M ∧ M ≤ 8900 ∧
  ∀ H' v, Same H H' → IsF K H' v (heldAt ss wn) → Q v H'
theorem ok_kept_of (T : Txt K mg f__wall f_is_integer f_is_row f_is_fraction f_is_amount f_is_some f_are_amounts f_added f_negated f_lessened f_multiplied f_divided f_squared f_summed f_lies_below f_is_stall f_hold_of f_stalls_of f_kept_of f_held f_roots f_check_purse f_check_wish f_may_stay f_table_of f_strike_row f_are_some f_filled_back f_in_order f_struck_in_turn f_scales f_is_scales f_l_deck f_l_pick f_l_divisor f_l_made f_l_added f_l_taken f_l_product f_l_amount f_l_stall f_l_held f_l_pulls f_l_edge f_l_deep f_l_changed f_l_are_some f_l_due f_l_is_judged f_l_word f_law f_Web_init f_Table_init f_Table_wrong_sign f_Table_behind f_Table_ties_without c_BadPurse c_BadWish c_Table c_Web c_ONE c_ZERO d__wall d_is_integer d_is_row d_is_fraction d_is_amount d_is_some d_are_amounts d_added d_negated d_lessened d_multiplied d_divided d_squared d_summed d_lies_below d_is_stall d_hold_of d_stalls_of d_kept_of d_held d_roots d_check_purse d_check_wish d_may_stay d_table_of d_strike_row d_are_some d_filled_back d_in_order d_struck_in_turn d_scales d_is_scales d_l_deck d_l_pick d_l_divisor d_l_made d_l_added d_l_taken d_l_product d_l_amount d_l_stall d_l_held d_l_pulls d_l_edge d_l_deep d_l_changed d_l_are_some d_l_due d_l_is_judged d_l_word d_law d_Web_init d_Table_init d_Table_wrong_sign d_Table_behind d_Table_ties_without) : FnOk P w K mg base CX0 3 f_kept_of d_kept_of ["ware", "stalls"] (sp_kept_of K) := by
  have G_summed : FnOk P w K mg base CX0 2 f_summed d_summed ["fractions"] (sp_summed K) := ok_summed T
  have G_hold_of : FnOk P w K mg base CX0 1 f_hold_of d_hold_of ["stall", "ware"] (sp_hold_of K) := ok_hold_of T
  have G_stalls_of : FnOk P w K mg base CX0 1 f_stalls_of d_stalls_of ["ware", "stalls"] (sp_stalls_of K) := ok_stalls_of T
  refine T.F_kept_of.ok sc_kept_of (fun vs H Q E h => ?_) (fun cdv A outer s H vs Q E hr h => ?_)
  · obtain ⟨t, xs, ss, wn, k, rfl, _⟩ := h
    rfl
  · obtain ⟨t, xs, ss, wn, k, rfl, ht, hss, h16, hb, hk, q⟩ := h
    refine ⟨_, (pss_one (ps_ret (pe_call G_summed (hr.mono (by decide)) (by rfl) T.g_summed T.k_summed T.b_summed .nil pass0 (pa_cons (pe_lc (own := [("stall", 2)]) (g := gName 2) rfl sc_kept_of.nd (pi_list (pe_call G_stalls_of (hr.mono (by decide)) (by rfl) T.g_stalls_of T.k_stalls_of T.b_stalls_of .nil pass0 (pa_cons (pv 0) (pa_cons (pv 1) pa_nil)))) (blkOk_by (own := [("stall", 2)]) (N := N_kept_of) (sc := defScope s_kept_of) (by decide +kernel)) (fun _ _ _ _ _ => (pg_name (i := 2) sc_kept_of.nd rfl (by first | exact Or.inl rfl | exact Or.inr rfl))) (fun _ _ _ _ _ => pts_nil) (fun _ _ _ _ _ => (pe_call G_hold_of (hr.mono (by decide)) (by rfl) T.g_hold_of T.k_hold_of T.b_hold_of .nil pass0 (pa_cons (pv 2) (pa_cons (pv 0) pa_nil))))) pa_nil)))), ?_⟩
    walk_at "r"
    refine ⟨_, _, ss, wn, rfl, ht, hss, h16, fun H1 L ys s1 hL hys => ?_⟩
    have hl := hys.len
    have hle : (at_ ss wn).length ≤ ss.length := List.length_filter_le _ _
    walk_at "r"
    refine ⟨⟨_, .of hL⟩, fun D nD => ?_⟩
    refine lc_listP (R := IsF K) (fun _ _ _ _ f h => h.ts f) (f := fun i => ((at_ ss wn)[i]?).map (·.hold wn)) nD (by omega) (.of hL) (fun i x hx H' Q' N s2 hy hn => ?_) fun H' hlst => ?_
    · obtain ⟨st, hs, hst⟩ := hys.at hx
      have hst := hst.same s2
      walk_at "r"
      refine ⟨rfl, ?_⟩
      walk_at "r"
      exact ⟨_, st, wn, rfl, hst, fun x hxx => hy (st.hold wn) _ _ (by simp [hs]) (Same.refl _) hxx⟩
    · obtain ⟨s2, zs, hD, hzs⟩ := hlst
      rw [hl, upTo_list] at hzs
      walk_at "r"
      exact ⟨D, zs, _, k, rfl, hD, hzs, hb.at wn, hk, fun H3 v s3 hv => q _ _ ((s1.trans s2).trans s3) hv⟩
def sp_held (K : PySem.W.Frag) (C : Addr) : Sp := fun vs H Q _ => ∃ (x : V) (n : Nat) (ss : List Stl) (M : Nat), vs = [x] ∧ IsWeb K C H x n ss ∧ n ≤ 8 ∧ ss.length ≤ 16 ∧ BL ss M ∧ M ≤ 8900 ∧ ∀ H' v, Same H H' → IsFs K H' v (heldAll n ss) → Q v H'
theorem ok_held (T : Txt K mg f__wall f_is_integer f_is_row f_is_fraction f_is_amount f_is_some f_are_amounts f_added f_negated f_lessened f_multiplied f_divided f_squared f_summed f_lies_below f_is_stall f_hold_of f_stalls_of f_kept_of f_held f_roots f_check_purse f_check_wish f_may_stay f_table_of f_strike_row f_are_some f_filled_back f_in_order f_struck_in_turn f_scales f_is_scales f_l_deck f_l_pick f_l_divisor f_l_made f_l_added f_l_taken f_l_product f_l_amount f_l_stall f_l_held f_l_pulls f_l_edge f_l_deep f_l_changed f_l_are_some f_l_due f_l_is_judged f_l_word f_law f_Web_init f_Table_init f_Table_wrong_sign f_Table_behind f_Table_ties_without c_BadPurse c_BadWish c_Table c_Web c_ONE c_ZERO d__wall d_is_integer d_is_row d_is_fraction d_is_amount d_is_some d_are_amounts d_added d_negated d_lessened d_multiplied d_divided d_squared d_summed d_lies_below d_is_stall d_hold_of d_stalls_of d_kept_of d_held d_roots d_check_purse d_check_wish d_may_stay d_table_of d_strike_row d_are_some d_filled_back d_in_order d_struck_in_turn d_scales d_is_scales d_l_deck d_l_pick d_l_divisor d_l_made d_l_added d_l_taken d_l_product d_l_amount d_l_stall d_l_held d_l_pulls d_l_edge d_l_deep d_l_changed d_l_are_some d_l_due d_l_is_judged d_l_word d_law d_Web_init d_Table_init d_Table_wrong_sign d_Table_behind d_Table_ties_without) : FnOk P w K mg base CX0 4 f_held d_held ["web"] (sp_held K c_Web) := by
  have G_kept_of : FnOk P w K mg base CX0 3 f_kept_of d_kept_of ["ware", "stalls"] (sp_kept_of K) := ok_kept_of T
  refine T.F_held.ok sc_held (fun vs H Q E h => ?_) (fun cdv A outer s H vs Q E hr h => ?_)
  · obtain ⟨x, n, ss, k, rfl, _⟩ := h
    rfl
  · obtain ⟨x, n, ss, k, rfl, ⟨p, dx, t, xs, rfl, hp, ht, hss⟩, n8, l16, hb, hk, q⟩ := h
    refine ⟨_, (pss_one (ps_ret (pe_callTy call_tuple_of (by rfl) T.z_tuple (by decide +kernel) (pa_cons (pe_lc (own := [("ware", 1)]) (g := gName 1) rfl sc_held.nd (pi_range1 (by rfl) T.z_range (pa_cons (pe_fld (pv 0) rfl) pa_nil)) (blkOk_by (own := [("ware", 1)]) (N := N_held) (sc := defScope s_held) (by decide +kernel)) (fun _ _ _ _ _ => (pg_name (i := 1) sc_held.nd rfl (by first | exact Or.inl rfl | exact Or.inr rfl))) (fun _ _ _ _ _ => pts_nil) (fun _ _ _ _ _ => (pe_call G_kept_of (hr.mono (by decide)) (by rfl) T.g_kept_of T.k_kept_of T.b_kept_of .nil pass0 (pa_cons (pv 1) (pa_cons (My.pe_fldK (K := K) (by rfl) (pv 0) rfl) pa_nil))))) pa_nil)))), ?_⟩
    walk_at "r"
    refine ⟨_, _, _, _, _, rfl, hp, T.w_Web.it.cl, T.n_Web_wares, wF_wares _ _, ?_⟩
    walk_at "r"
    refine ⟨by omega, by omega, fun D nD => ?_⟩
    refine lc_rangeP (R := IsF K) (fun _ _ _ _ f h => h.ts f) (f := fun i => some (heldAt ss i)) nD (by omega) (fun i hi H' Q' N s1 hy hn => ?_) fun H' hlst => ?_
    · walk_at "r"
      refine ⟨rfl, ?_⟩
      walk_at "r"
      refine ⟨_, _, _, _, _, rfl, s1 _ _ hp, T.w_Web.it.cl, T.n_Web_stalls, wF_stalls _ _, ?_⟩
      walk_at "r"
      exact ⟨t, xs, ss, i, k, by simp, s1 _ _ ht, hss.same s1, l16, hb, hk, fun H2 v s2 hv => hy _ _ _ rfl s2 hv⟩
    · obtain ⟨s1, ys, hD, hys⟩ := hlst
      rw [show ((n : Nat) : Int).toNat = n from rfl, upTo_map] at hys
      walk_at "r"
      refine ⟨_, _, rfl, .inl ⟨.of hD, fun l nl => ?_⟩⟩
      have sl := same_upd (o := .tup ys) nl
      exact q _ _ (s1.trans sl) ⟨l, ys, rfl, upd_same, Fs.same sl hys⟩
end
end My
namespace My
open PySem PySem.Spec PyProof.Rows L2
variable {K : PySem.W.Frag}
/-! ### webs compared -/
instance decStl : DecidableEq Stl := fun s t => decidable_of_decidable_of_iff (p := s.u = t.u ∧ s.v = t.v ∧ s.a = t.a ∧ s.b = t.b ∧ s.r = t.r) (by
  obtain ⟨u, v, a, b, r⟩ := s
  obtain ⟨u', v', a', b', r'⟩ := t
  simp only [Stl.mk.injEq])
def stD (s : Stl) : PyData := .tuple [.int (s.u : Nat), .int (s.v : Nat), frD s.a, frD s.b, frD s.r]
theorem stD_eqv (s t : Stl) : PyData.eqv (stD s) (stD t) = decide (s = t) := by
  have e : PyData.eqv (stD s) (stD t) = (decide ((s.u : Int) = t.u) && (decide ((s.v : Int) = t.v) && (decide (s.a = t.a) && (decide (s.b = t.b) && decide (s.r = t.r))))) := by
    unfold stD
    rw [PyData.eqv, PyData.eqvAll, PyData.eqvAll, PyData.eqvAll, PyData.eqvAll, PyData.eqvAll, PyData.eqvAll, frD_eqv, frD_eqv, frD_eqv]
    simp only [PyData.eqv, Bool.and_true, Bool.beq_eq_decide_eq]
  rw [e, Bool.eq_iff_iff]
  simp only [Bool.and_eq_true, decide_eq_true_eq]
  obtain ⟨u, v, a, b, r⟩ := s
  obtain ⟨u', v', a', b', r'⟩ := t
  simp only [Stl.mk.injEq]
  constructor <;> rintro ⟨h1, h2, h3, h4, h5⟩ <;> exact ⟨by omega, by omega, h3, h4, h5⟩
theorem sts_eqv : ∀ ss tt : List Stl, PyData.eqvAll (ss.map stD) (tt.map stD) = decide (ss = tt)
  | [], [] => rfl
  | [], _ :: _ => rfl
  | _ :: _, [] => rfl
  | s :: ss, t :: tt => by
    show (PyData.eqv (stD s) (stD t) && PyData.eqvAll (ss.map stD) (tt.map stD)) = _
    rw [stD_eqv, sts_eqv ss tt, Bool.eq_iff_iff]
    simp
theorem sts_lay : ∀ ss : List Stl, PyData.canLayAll0 (ss.map stD) = true ∧ PyData.depthAll (ss.map stD) ≤ 2
  | [] => ⟨rfl, by decide⟩
  | s :: ss => by
    obtain ⟨h1, h2⟩ := sts_lay ss
    refine ⟨?_, ?_⟩
    · show (PyData.canLay0 (stD s) && PyData.canLayAll0 (ss.map stD)) = true
      rw [h1]
      rfl
    · show max (PyData.depth (stD s)) (PyData.depthAll (ss.map stD)) ≤ 2
      have : PyData.depth (stD s) = 2 := rfl
      omega
theorem sts_shaped (ss : List Stl) : SeqAt.shaped (.tuple (ss.map stD)) = true := by
  obtain ⟨h1, h2⟩ := sts_lay ss
  unfold SeqAt.shaped
  rw [Bool.and_eq_true]
  refine ⟨h1, decide_eq_true ?_⟩
  show PyData.depthAll (ss.map stD) + 1 ≤ 64
  omega
theorem IsSt.dp {K : PySem.W.Frag} {H : Hp} {x : V} {s : Stl} (h : IsSt K H x s) : Dp K H x (stD s) := by
  obtain ⟨p, va, vb, vr, rfl, h, a, b, r⟩ := h
  exact .tup (.of h) (.cons (.int _) (.cons (.int _) (.cons a.dp (.cons b.dp (.cons r.dp .nil)))))
theorem Sts.dp {K : PySem.W.Frag} {H : Hp} {t : Addr} {xs : List V} {ss : List Stl} (h : Sts K H xs ss) (ht : H t = some (.tup xs)) : Dp K H (.ref t) (.tuple (ss.map stD)) := by
  refine .tup (.of ht) ?_
  clear ht
  unfold Sts at h
  induction h with
  | nil => exact .nil
  | cons h t ih => exact .cons h.dp ih
end My
namespace My
open PySem PySem.Spec PyProof.Rows L2
/-! ### x != y of instances with an own == and no own != -/
section
variable {prog : Program} {w : World} {A : Around} {E : Value → Shared → Prop} {s : Shared} {K : PySem.W.Frag} {x y C f : Addr} {ox : Obj} {od : Option Obj}
theorem boundB {name : Str} {id B : String} {args : List Value} {Q : Option Value → Shared → Prop} (X : K.In s.heap) (I : PySem.W.InstAt s.heap x ox C od) (hs : PySem.W.findIn K (.ref C) name = some (some (.builtin id))) (S : Slot B name id)
    (h : wpAny (model prog w) A (call (.builtin id) (.ref x :: args)) (fun v => Q (some v)) E s) : wpAny (model prog w) A (callSpecialIfBound? (.ref x) name args) Q E s := by
  have fin : wpAny (model prog w) A (do let v ← call (.builtin id) ([.ref x] ++ args); pure (some v)) Q E s := wpAny_bind (wpAny_mono h (fun v s' q => wpAny_pure q) fun _ _ q => q)
  simp only [callSpecialIfBound?, bindSpecialIfBound?]
  refine wpAny_holding (wpAny_bind (wpAny_bind (wpAny_bind (I.type.here ((PySem.W.looks_findIn X hs).here ?_)))))
  simp only [S.bind]
  refine wpAny_bind (wpAny_askSetting (wpAny_ite ?_))
  split
  · exact wpAny_bind (wpAny_pure (wpAny_pure fin))
  · exact wpAny_tryCatch (wpAny_bind (wpAny_pure (wpAny_pure fin)))
theorem neBody {Q : Fin → Shared → Prop} (hu : A.units < cLine) (X : K.In s.heap) (I : PySem.W.InstAt s.heap x ox C od) (hs : PySem.W.findIn K (.ref C) "__eq__" = some (some (.ref f))) (hf : PySem.W.isFn K (.ref f) = true)
    (h : wpAny (model prog w) A (call (.ref f) [.ref x, .ref y]) (fun v s' => ∃ b, v = .bool b ∧ Q (.done (.ret (.bool (!b)))) s') E s) : wpAny (model prog w) A (Builtin.«object.__ne__» ⟨[.ref x, .ref y], []⟩) Q E s := by
  unfold Builtin.«object.__ne__»
  have step : wpAny (model prog w) A (callSpecialIfBound? (.ref x) (Str.ofString "__eq__") [.ref y]) (fun r s' => ∃ b, r = some (.bool b) ∧ Q (.done (.ret (.bool (!b)))) s') E s :=
    PySem.W.ifBound_K X I hs hf (wpAny_mono h (fun v s' q => by obtain ⟨b, rfl, q⟩ := q; exact ⟨b, rfl, q⟩) fun _ _ q => q)
  repeat (first
    | with_reducible refine wpAny_cRoomFor hu ?_
    | (refine wpAny_bind (m := callSpecialIfBound? (.ref x) (Str.ofString "__eq__") [.ref y]) (wpAny_mono step (fun r s' q => ?_) fun _ _ q => q); obtain ⟨b, rfl, q⟩ := q)
    | exact q
    | (refine wpAny_bind (m := truthy (.bool _)) (wpAny_truthy_bool ?_))
    | wp_step)
theorem tryNe {Q : Option Value → Shared → Prop} (hu : A.units + 1 < cLine) (X : K.In s.heap) (I : PySem.W.InstAt s.heap x ox C od) (hne : PySem.W.findIn K (.ref C) "__ne__" = some (some (.builtin "object.__ne__"))) (hm : PySem.W.mroIn K C (.type "object") = some true)
    (hs : PySem.W.findIn K (.ref C) "__eq__" = some (some (.ref f))) (hf : PySem.W.isFn K (.ref f) = true)
    (h : wpAny (model prog w) A.in1 (call (.ref f) [.ref x, .ref y]) (fun v s' => ∃ b, v = .bool b ∧ Q (some (.bool (!b))) s') E s) : wpAny (model prog w) A (tryCompare (.ref x) "__ne__" (.ref y)) Q E s := by
  simp only [tryCompare]
  refine wpAny_bind (boundB X I hne F.cmp_object.ne (wpAny_call (codeAny_call_builtin F.cmp_object.ne.plain F.cmpEntry_ne (PySem.W.check_slot F.cmpKind_ne F.cmpSplit_ne (I.type.andThen (PySem.W.looks_mroIn X hm)) (F.cmpArgs_ne _ _) (neBody (A := A.in1) (by
    show A.units + 1 < cLine
    exact hu) X I hs hf (wpAny_mono h (fun v s' q => ?_) fun _ _ q => q))))))
  obtain ⟨b, rfl, q⟩ := q
  first
    | exact ⟨b, rfl, ⟨_, rfl, wpAny_pure q⟩⟩
    | exact ⟨b, rfl, wpAny_pure q⟩
    | exact ⟨b, rfl, wpAny_pure (wpAny_pure q)⟩
theorem richNe {oy : Obj} {ody : Option Obj} {Q : Value → Shared → Prop} (hu : A.units + 1 < cLine) (X : K.In s.heap) (I : PySem.W.InstAt s.heap x ox C od) (J : PySem.W.InstAt s.heap y oy C ody) (hne : PySem.W.findIn K (.ref C) "__ne__" = some (some (.builtin "object.__ne__"))) (hm : PySem.W.mroIn K C (.type "object") = some true)
    (hs : PySem.W.findIn K (.ref C) "__eq__" = some (some (.ref f))) (hf : PySem.W.isFn K (.ref f) = true)
    (h : wpAny (model prog w) A.in1 (call (.ref f) [.ref x, .ref y]) (fun v s' => ∃ b, v = .bool b ∧ Q (.bool (!b)) s') E s) : wpAny (model prog w) A (richCompare .NotEq (.ref x) (.ref y)) Q E s := by
  unfold richCompare
  simp only [oneThing_ref]
  refine wpAny_holding (wpAny_bind (wpAny_cRoomFor (Nat.lt_of_succ_lt hu) ?_))
  rw [cmpInfo_NotEq]
  refine wpAny_bind (I.type.here (wpAny_bind (J.type.here ?_)))
  rw [show (Value.ref C != Value.ref C) = false by simp]
  simp only [Bool.false_eq_true, if_false]
  refine wpAny_bind (wpAny_pure ?_)
  refine wpAny_bind (tryNe hu X I hne hm hs hf (wpAny_mono h (fun v s' q => ?_) fun _ _ q => q))
  obtain ⟨b, rfl, q⟩ := q
  exact ⟨b, rfl, wpAny_pure q⟩
end
/-- x != y, both instances of C; R what the two must be, for any answer of the own == -/
def spEqB (R : Addr → Addr → Hp → Bool → Prop) : Sp := fun vs H Q _ => ∃ a b r, vs = [.ref a, .ref b] ∧ R a b H r ∧ Q (.bl r) H
def rNeI (C : Addr) (R : Addr → Addr → Hp → Bool → Prop) : R2 := fun x y H Q => ∃ a b dx dy fs gs r, x = .ref a ∧ y = .ref b ∧ H a = some (.ins C dx fs) ∧ H b = some (.ins C dy gs) ∧ R a b H r ∧ Q (.bl (!r)) H
theorem op_neI {X : Cx} {n : Nat} {C f : Addr} {fd : FuncData} {ps : List Str} {R : Addr → Addr → Hp → Bool → Prop} (F : FnOk X.prog X.w X.K X.mg X.base CX0 n f fd ps (spEqB R)) (hr : Room (n + 1) X.A)
    (hne : PySem.W.findIn X.K (.ref C) "__ne__" = some (some (.builtin "object.__ne__"))) (hm : PySem.W.mroIn X.K C (.type "object") = some true) (hs : PySem.W.findIn X.K (.ref C) "__eq__" = some (some (.ref f))) (hf : PySem.W.isFn X.K (.ref f) = true) (hb : Binds X.K fd ps []) :
    OpR X (compareOp .NotEq) (rNeI C R) := by
  intro pins s σ H x y v u Q I rx ry hq
  obtain ⟨a, b, dx, dy, fs, gs, r, rfl, rfl, ha, hb', hR, q⟩ := hq
  cases rx
  cases ry
  obtain ⟨mA, J, _⟩ := ins_get I.hok ha
  obtain ⟨mB, J', _⟩ := ins_get I.hok hb'
  obtain ⟨od, J, _⟩ := J.look
  obtain ⟨od', J', _⟩ := J'.look
  show wpAny (model X.prog X.w) X.A (richCompare .NotEq (.ref a) (.ref b)) (EP X pins σ Q) X.xe s
  refine richNe ?_ I.kIn J J' hne hm hs hf ?_
  · have := hr.un
    omega
  have hsp : spEqB R [.ref a, .ref b] H (fun v H' => v = .bl r ∧ H' = H) E0 := ⟨a, b, r, rfl, hR, rfl, rfl⟩
  have e0 : Env0 X.prog X.w X.K X.mg X.base X.A.in1 X.stack s H := I.env0.in1
  have hl := F.len _ _ _ _ hsp
  have r2 : Vals [V.ref a, V.ref b] [Value.ref a, Value.ref b] := .cons rfl (.cons rfl .nil)
  refine wpAny_call (codeAny_mono (F.run X.A.in1 X.stack s H ⟨[.ref a, .ref b], []⟩ [.ref a, .ref b] [.ref a, .ref b] _ E0 hr.in1 e0 (by
    have := hb s [.ref a, .ref b] I.kIn (by simpa using hl)
    simpa using this) r2 hsp) fun z s' hz => ?_)
  cases z with
  | error e => exact False.elim hz
  | ok fl =>
    cases fl with
    | ret w' =>
      obtain ⟨z, H', I', rz, ez, ex⟩ := I.after hz
      subst ez
      subst ex
      cases rz
      exact ⟨r, rfl, .bl (!r), H', I', rfl, q⟩
    | next => exact False.elim hz
    | brk => exact False.elim hz
    | cont => exact False.elim hz
/-- x == y of such instances, for any answer of the own == -/
def rEqI (C : Addr) (R : Addr → Addr → Hp → Bool → Prop) : R2 := fun x y H Q => ∃ a b dx dy fs gs r, x = .ref a ∧ y = .ref b ∧ H a = some (.ins C dx fs) ∧ H b = some (.ins C dy gs) ∧ R a b H r ∧ Q (.bl r) H
theorem op_eqI {X : Cx} {n : Nat} {C f : Addr} {fd : FuncData} {ps : List Str} {R : Addr → Addr → Hp → Bool → Prop} (F : FnOk X.prog X.w X.K X.mg X.base CX0 n f fd ps (spEqB R)) (hr : Room (n + 1) X.A)
    (hs : PySem.W.findIn X.K (.ref C) "__eq__" = some (some (.ref f))) (hf : PySem.W.isFn X.K (.ref f) = true) (hb : Binds X.K fd ps []) : OpR X (compareOp .Eq) (rEqI C R) := by
  intro pins s σ H x y v u Q I rx ry hq
  obtain ⟨a, b, dx, dy, fs, gs, r, rfl, rfl, ha, hb', hR, q⟩ := hq
  cases rx
  cases ry
  obtain ⟨mA, J, _⟩ := ins_get I.hok ha
  obtain ⟨mB, J', _⟩ := ins_get I.hok hb'
  obtain ⟨od, J, _⟩ := J.look
  obtain ⟨od', J', _⟩ := J'.look
  obtain ⟨m, hF⟩ := I.fr
  show wpAny (model X.prog X.w) X.A (richCompare .Eq (.ref a) (.ref b)) (EP X pins σ Q) X.xe s
  refine PySem.W.cmp_K (op := .Eq) (tb := .ref C) hr.units0 hF I.ok.mod.kin J J'.type (by simp [PySem.W.notFirst]) hs hf ?_
  have hsp : spEqB R [.ref a, .ref b] H (fun v H' => v = .bl r ∧ H' = H) E0 := ⟨a, b, r, rfl, hR, rfl, rfl⟩
  have hl := F.len _ _ _ _ hsp
  have r2 : Vals [V.ref a, V.ref b] [Value.ref a, Value.ref b] := .cons rfl (.cons rfl .nil)
  refine wpAny_call (codeAny_mono (F.run X.A X.stack s H ⟨[.ref a, .ref b], []⟩ [.ref a, .ref b] [.ref a, .ref b] _ E0 (hr.mono (Nat.le_succ n)) I.env0 (by
    have := hb s [.ref a, .ref b] I.kIn (by simpa using hl)
    simpa using this) r2 hsp) fun z s' hz => ?_)
  cases z with
  | error e => exact False.elim hz
  | ok fl =>
    cases fl with
    | ret w' =>
      obtain ⟨z, H', I', rz, ez, ex⟩ := I.after hz
      subst ez
      subst ex
      cases rz
      exact ⟨.bl r, H', I', rfl, q⟩
    | next => exact False.elim hz
    | brk => exact False.elim hz
    | cont => exact False.elim hz
end My
namespace My
open PySem PySem.Spec PyProof.Rows L2
variable {K : PySem.W.Frag}
theorem kit_self {K : PySem.W.Frag} {t : Value} : PySem.W.kitOne K t t = some true := by
  unfold PySem.W.kitOne
  simp
section
variable {P : Program} {w : World} {K : PySem.W.Frag} {mg : Str → Option Value} {base : Heap} {f__wall f_is_integer f_is_row f_is_fraction f_is_amount f_is_some f_are_amounts f_added f_negated f_lessened f_multiplied f_divided f_squared f_summed f_lies_below f_is_stall f_hold_of f_stalls_of f_kept_of f_held f_roots f_check_purse f_check_wish f_may_stay f_table_of f_strike_row f_are_some f_filled_back f_in_order f_struck_in_turn f_scales f_is_scales f_l_deck f_l_pick f_l_divisor f_l_made f_l_added f_l_taken f_l_product f_l_amount f_l_stall f_l_held f_l_pulls f_l_edge f_l_deep f_l_changed f_l_are_some f_l_due f_l_is_judged f_l_word f_law f_Web_init f_Table_init f_Table_wrong_sign f_Table_behind f_Table_ties_without c_BadPurse c_BadWish c_Table c_Web c_ONE c_ZERO : Addr} {d__wall d_is_integer d_is_row d_is_fraction d_is_amount d_is_some d_are_amounts d_added d_negated d_lessened d_multiplied d_divided d_squared d_summed d_lies_below d_is_stall d_hold_of d_stalls_of d_kept_of d_held d_roots d_check_purse d_check_wish d_may_stay d_table_of d_strike_row d_are_some d_filled_back d_in_order d_struck_in_turn d_scales d_is_scales d_l_deck d_l_pick d_l_divisor d_l_made d_l_added d_l_taken d_l_product d_l_amount d_l_stall d_l_held d_l_pulls d_l_edge d_l_deep d_l_changed d_l_are_some d_l_due d_l_is_judged d_l_word d_law d_Web_init d_Table_init d_Table_wrong_sign d_Table_behind d_Table_ties_without : FuncData}
def sp_weq (K : PySem.W.Frag) (C : Addr) : Sp := fun vs H Q _ => ∃ (x y : V) (n m : Nat) (ss tt : List Stl), vs = [x, y] ∧ IsWeb K C H x n ss ∧ IsWeb K C H y m tt ∧ Q (.bl (decide (n = m) && decide (ss = tt))) H
/-- two webs that are equal -/
def RWeb (K : PySem.W.Frag) (C : Addr) : Addr → Addr → Hp → Prop := fun a b H => ∃ n ss, IsWeb K C H (.ref a) n ss ∧ IsWeb K C H (.ref b) n ss
/-- what the own == answers of two webs -/
def BWeb (K : PySem.W.Frag) (C : Addr) : Addr → Addr → Hp → Bool → Prop := fun a b H r => ∃ n m ss tt, IsWeb K C H (.ref a) n ss ∧ IsWeb K C H (.ref b) m tt ∧ r = (decide (n = m) && decide (ss = tt))
end
end My
namespace My
open PySem PySem.Spec PyProof.Rows L2
variable {K : PySem.W.Frag}
theorem rd_zipA {ta : TA} {σ : L2.St} {H : Hp} {R : It → Hp → Prop} (h : ta σ H fun vs H1 => ∃ a b xs ys, vs = [.ref a, .ref b] ∧ ((SqL K H1 a xs ∧ SqL K H1 b ys ∧ R (Itz K a b) H1) ∨ (SqT K H1 a xs ∧ SqT K H1 b ys ∧ R (RZ.ItzT K a b) H1))) : RZ.iZipA K ta σ H R := h
theorem lt_num (r t : Rat) : (r.num * (t.den : Int) < t.num * (r.den : Int)) ↔ r < t := by
  rw [Rat.lt_iff]
structure Mv where
  i : Nat
  w : Nat
  x : Rat
def IsM (K : PySem.W.Frag) (H : Hp) (v : V) (m : Mv) : Prop := IsMv K H v m.i m.w m.x
theorem IsMv.ts {H H' : Hp} {v : V} {i w : Nat} {x : Rat} (f : Tps H H') (h : IsMv K H v i w x) : IsMv K H' v i w x := by
  obtain ⟨p, vx, e, h, a⟩ := h
  exact ⟨p, vx, e, f _ _ h, a.ts f⟩
def IsMs (K : PySem.W.Frag) (H : Hp) (x : V) (ms : List Mv) : Prop := ∃ L ys, x = .ref L ∧ H L = some (.lst ys) ∧ Paired (IsM K H) ys ms
structure Alk (ss tt : List Stl) : Prop where
  len : ss.length = tt.length
  at_ : ∀ {i : Nat} {s t : Stl}, ss[i]? = some s → tt[i]? = some t → s.u = t.u ∧ s.v = t.v ∧ s.r = t.r
def mvTo (i : Nat) (s : Stl) (x : Rat) : Mv := if s.a < x then ⟨i, s.u, x - s.a⟩ else ⟨i, s.v, (s.first x).b - s.b⟩
def btw (ss tt : List Stl) (i : Nat) : Option Mv := match ss[i]?, tt[i]? with
  | some s, some t => if s = t then none else some (mvTo i s t.a)
  | _, _ => none
def diff (n : Nat) (ss tt : List Stl) : List Rat := (List.range n).map fun w => heldAt ss w - heldAt tt w
theorem first_ok {n : Nat} {s : Stl} (h : OkSt n s) {y : Rat} (y0 : 0 < y) : OkSt n (s.first y) :=
  ⟨h.u, h.v, h.ne, y0, div_pos' (sq_pos h.r) y0, h.r, mul_div_self (ne_of_pos y0)⟩
theorem first_bd {k l : Nat} {s : Stl} (h : BdSt k s) {y : Rat} (y0 : 0 < y) (b : Bd l y) : BdSt (2 * k + l) (s.first y) :=
  ⟨b.mono (by omega), ((h.r.mul h.r).div (ne_of_pos y0) b).mono (by omega), h.r.mono (by omega)⟩
def pairD (u v : Nat) : PyData := .tuple [.int (u : Nat), .int (v : Nat)]
theorem pairD_dp {H : Hp} {p : Addr} {u v : Nat} (h : H p = some (.tup [V.int (u : Nat), .int (v : Nat)])) : Dp K H (.ref p) (pairD u v) := .tup (.of h) (.cons (.int _) (.cons (.int _) .nil))
theorem pairD_eqv (u v : Nat) : PyData.eqv (pairD u v) (pairD u v) = true := by simp [pairD, PyData.eqv, PyData.eqvAll]
section
variable {P : Program} {w : World} {K : PySem.W.Frag} {mg : Str → Option Value} {base : Heap} {f__wall f_is_integer f_is_row f_is_fraction f_is_amount f_is_some f_are_amounts f_added f_negated f_lessened f_multiplied f_divided f_squared f_summed f_lies_below f_is_stall f_hold_of f_stalls_of f_kept_of f_held f_roots f_check_purse f_check_wish f_may_stay f_table_of f_strike_row f_are_some f_filled_back f_in_order f_struck_in_turn f_scales f_is_scales f_l_deck f_l_pick f_l_divisor f_l_made f_l_added f_l_taken f_l_product f_l_amount f_l_stall f_l_held f_l_pulls f_l_edge f_l_deep f_l_changed f_l_are_some f_l_due f_l_is_judged f_l_word f_law f_Web_init f_Table_init f_Table_wrong_sign f_Table_behind f_Table_ties_without c_BadPurse c_BadWish c_Table c_Web c_ONE c_ZERO : Addr} {d__wall d_is_integer d_is_row d_is_fraction d_is_amount d_is_some d_are_amounts d_added d_negated d_lessened d_multiplied d_divided d_squared d_summed d_lies_below d_is_stall d_hold_of d_stalls_of d_kept_of d_held d_roots d_check_purse d_check_wish d_may_stay d_table_of d_strike_row d_are_some d_filled_back d_in_order d_struck_in_turn d_scales d_is_scales d_l_deck d_l_pick d_l_divisor d_l_made d_l_added d_l_taken d_l_product d_l_amount d_l_stall d_l_held d_l_pulls d_l_edge d_l_deep d_l_changed d_l_are_some d_l_due d_l_is_judged d_l_word d_law d_Web_init d_Table_init d_Table_wrong_sign d_Table_behind d_Table_ties_without : FuncData}
def sp_stands (K : PySem.W.Frag) : Sp := fun vs H Q _ => ∃ (v u : V) (s t : Stl), vs = [v, u] ∧ IsSt K H v s ∧ IsSt K H u t ∧ (s.u = t.u ∧ s.v = t.v ∧ s.r = t.r) ∧ ∀ H', Same H H' → Q (.bl true) H'
def sp_check_alike (K : PySem.W.Frag) (C : Addr) : Sp := fun vs H Q _ => ∃ (x y : V) (n : Nat) (ss tt : List Stl), vs = [x, y] ∧ IsWeb K C H x n ss ∧ IsWeb K C H y n tt ∧ Alk ss tt ∧ ∀ H', Same H H' → Q .non H'
def sp_change_of (K : PySem.W.Frag) (C : Addr) : Sp := fun vs H Q _ => ∃ (x y : V) (n : Nat) (ss tt : List Stl) (M N : Nat), vs = [x, y] ∧ IsWeb K C H x n ss ∧ IsWeb K C H y n tt ∧ Alk ss tt ∧ n ≤ 8 ∧ ss.length ≤ 16 ∧ BL ss M ∧ BL tt N ∧ M ≤ 8900 ∧ N ≤ 8900 ∧ ∀ H' v, Same H H' → IsFs K H' v (diff n ss tt) → Q v H'
end
end My
namespace My
open PySem PySem.Spec PyProof.Rows L2
variable {K : PySem.W.Frag}
section
variable {P : Program} {w : World} {K : PySem.W.Frag} {mg : Str → Option Value} {base : Heap} {f__wall f_is_integer f_is_row f_is_fraction f_is_amount f_is_some f_are_amounts f_added f_negated f_lessened f_multiplied f_divided f_squared f_summed f_lies_below f_is_stall f_hold_of f_stalls_of f_kept_of f_held f_roots f_check_purse f_check_wish f_may_stay f_table_of f_strike_row f_are_some f_filled_back f_in_order f_struck_in_turn f_scales f_is_scales f_l_deck f_l_pick f_l_divisor f_l_made f_l_added f_l_taken f_l_product f_l_amount f_l_stall f_l_held f_l_pulls f_l_edge f_l_deep f_l_changed f_l_are_some f_l_due f_l_is_judged f_l_word f_law f_Web_init f_Table_init f_Table_wrong_sign f_Table_behind f_Table_ties_without c_BadPurse c_BadWish c_Table c_Web c_ONE c_ZERO : Addr} {d__wall d_is_integer d_is_row d_is_fraction d_is_amount d_is_some d_are_amounts d_added d_negated d_lessened d_multiplied d_divided d_squared d_summed d_lies_below d_is_stall d_hold_of d_stalls_of d_kept_of d_held d_roots d_check_purse d_check_wish d_may_stay d_table_of d_strike_row d_are_some d_filled_back d_in_order d_struck_in_turn d_scales d_is_scales d_l_deck d_l_pick d_l_divisor d_l_made d_l_added d_l_taken d_l_product d_l_amount d_l_stall d_l_held d_l_pulls d_l_edge d_l_deep d_l_changed d_l_are_some d_l_due d_l_is_judged d_l_word d_law d_Web_init d_Table_init d_Table_wrong_sign d_Table_behind d_Table_ties_without : FuncData}
def sp_below (K : PySem.W.Frag) : Sp := fun vs H Q _ => ∃ x y r t, vs = [x, y] ∧ IsF K H x r ∧ IsF K H y t ∧ Bd 8900 r ∧ Bd 8900 t ∧ Q (.bl (decide (r < t))) H
theorem ok_lies_below (T : Txt K mg f__wall f_is_integer f_is_row f_is_fraction f_is_amount f_is_some f_are_amounts f_added f_negated f_lessened f_multiplied f_divided f_squared f_summed f_lies_below f_is_stall f_hold_of f_stalls_of f_kept_of f_held f_roots f_check_purse f_check_wish f_may_stay f_table_of f_strike_row f_are_some f_filled_back f_in_order f_struck_in_turn f_scales f_is_scales f_l_deck f_l_pick f_l_divisor f_l_made f_l_added f_l_taken f_l_product f_l_amount f_l_stall f_l_held f_l_pulls f_l_edge f_l_deep f_l_changed f_l_are_some f_l_due f_l_is_judged f_l_word f_law f_Web_init f_Table_init f_Table_wrong_sign f_Table_behind f_Table_ties_without c_BadPurse c_BadWish c_Table c_Web c_ONE c_ZERO d__wall d_is_integer d_is_row d_is_fraction d_is_amount d_is_some d_are_amounts d_added d_negated d_lessened d_multiplied d_divided d_squared d_summed d_lies_below d_is_stall d_hold_of d_stalls_of d_kept_of d_held d_roots d_check_purse d_check_wish d_may_stay d_table_of d_strike_row d_are_some d_filled_back d_in_order d_struck_in_turn d_scales d_is_scales d_l_deck d_l_pick d_l_divisor d_l_made d_l_added d_l_taken d_l_product d_l_amount d_l_stall d_l_held d_l_pulls d_l_edge d_l_deep d_l_changed d_l_are_some d_l_due d_l_is_judged d_l_word d_law d_Web_init d_Table_init d_Table_wrong_sign d_Table_behind d_Table_ties_without) : FnOk P w K mg base CX0 1 f_lies_below d_lies_below ["one", "other"] (sp_below K) := by
  refine T.F_lies_below.ok sc_lies_below (fun vs H Q E h => ?_) (fun cdv A outer s H vs Q E hr h => ?_)
  · obtain ⟨x, y, r, t, rfl, _⟩ := h
    rfl
  · obtain ⟨x, y, r, t, rfl, ⟨p1, rfl, h1⟩, ⟨p2, rfl, h2⟩, b1, b2, q⟩ := h
    refine ⟨_, (pss_one (ps_ret (pe_cmpR op_lt (pe_op op_mulX (pe_ix ix_tup (pv 0) pe_int (fun _ _ => rfl)) (pe_ix ix_tup (pv 1) pe_int (fun _ _ => rfl))) (pe_op op_mulX (pe_ix ix_tup (pv 1) pe_int (fun _ _ => rfl)) (pe_ix ix_tup (pv 0) pe_int (fun _ _ => rfl))) (nomark _)))), ?_⟩
    walk_at "r"
    · rw [show decide (r.num * (t.den : Int) < t.num * (r.den : Int)) = decide (r < t) by rw [Bool.eq_iff_iff]; simp only [decide_eq_true_eq]; exact lt_num r t]
      exact q
    · exact cmx (p46 b2.1) (by rw [Int.natAbs_natCast]; exact p46 b1.2)
    · exact cmx (p46 b1.1) (by rw [Int.natAbs_natCast]; exact p46 b2.2)
end
end My
namespace My
open PySem PySem.Spec PyProof.Rows L2
variable {K : PySem.W.Frag}
section
variable {P : Program} {w : World} {K : PySem.W.Frag} {mg : Str → Option Value} {base : Heap} {f__wall f_is_integer f_is_row f_is_fraction f_is_amount f_is_some f_are_amounts f_added f_negated f_lessened f_multiplied f_divided f_squared f_summed f_lies_below f_is_stall f_hold_of f_stalls_of f_kept_of f_held f_roots f_check_purse f_check_wish f_may_stay f_table_of f_strike_row f_are_some f_filled_back f_in_order f_struck_in_turn f_scales f_is_scales f_l_deck f_l_pick f_l_divisor f_l_made f_l_added f_l_taken f_l_product f_l_amount f_l_stall f_l_held f_l_pulls f_l_edge f_l_deep f_l_changed f_l_are_some f_l_due f_l_is_judged f_l_word f_law f_Web_init f_Table_init f_Table_wrong_sign f_Table_behind f_Table_ties_without c_BadPurse c_BadWish c_Table c_Web c_ONE c_ZERO : Addr} {d__wall d_is_integer d_is_row d_is_fraction d_is_amount d_is_some d_are_amounts d_added d_negated d_lessened d_multiplied d_divided d_squared d_summed d_lies_below d_is_stall d_hold_of d_stalls_of d_kept_of d_held d_roots d_check_purse d_check_wish d_may_stay d_table_of d_strike_row d_are_some d_filled_back d_in_order d_struck_in_turn d_scales d_is_scales d_l_deck d_l_pick d_l_divisor d_l_made d_l_added d_l_taken d_l_product d_l_amount d_l_stall d_l_held d_l_pulls d_l_edge d_l_deep d_l_changed d_l_are_some d_l_due d_l_is_judged d_l_word d_law d_Web_init d_Table_init d_Table_wrong_sign d_Table_behind d_Table_ties_without : FuncData}
def sp_stalls_behind (K : PySem.W.Frag) : Sp := fun vs H Q _ => ∃ (t : Addr) (mv : V) (xs : List V) (ss : List Stl) (i wn : Nat) (s : Stl) (y : Rat), vs = [.ref t, mv] ∧ H t = some (.tup xs) ∧ Sts K H xs ss ∧ IsMv K H mv i wn y ∧ ss[i]? = some s ∧ ss.length ≤ 16 ∧ 0 < s.a ∧ 0 < s.b ∧ 0 < y ∧ BdSt 1900 s ∧ Bd 1900 y ∧
  ∀ H' t' xs', Same H H' → H' t' = some (.tup xs') → Sts K H' xs' (ss.set i (s.behind wn y)) → Q (.ref t') H'
end
end My
namespace My
open PySem PySem.Spec PyProof.Rows L2
variable {K : PySem.W.Frag}
theorem behind_u (s : Stl) (wn : Nat) (y : Rat) : (s.behind wn y).u = s.u := by
  unfold Stl.behind
  split <;> rfl
theorem behind_v (s : Stl) (wn : Nat) (y : Rat) : (s.behind wn y).v = s.v := by
  unfold Stl.behind
  split <;> rfl
theorem behind_two (s : Stl) (wn : Nat) (y z : Rat) : (s.behind wn y).behind wn z = s.behind wn (y + z) := by
  unfold Stl.behind
  by_cases e : wn = s.u
  · simp only [e, if_true, Stl.first, Rat.add_assoc]
  · simp only [e, if_false, Stl.secnd, Rat.add_assoc]
theorem out_two (s : Stl) (wn : Nat) (y z : Rat) : s.out (s.behind wn y) wn + (s.behind wn y).out ((s.behind wn y).behind wn z) wn = s.out (s.behind wn (y + z)) wn := by
  rw [behind_two]
  by_cases e : wn = s.u
  · unfold Stl.out
    rw [behind_u, if_pos e, if_pos e, if_pos e]
    grind
  · unfold Stl.out
    rw [behind_u, if_neg e, if_neg e, if_neg e]
    grind
theorem out_bd {k l wn : Nat} {s t : Stl} (h1 : BdSt k s) (h2 : BdSt l t) : Bd (k + l + 1) (s.out t wn) := by
  unfold Stl.out
  split
  · exact h1.b.sub h2.b
  · exact h1.a.sub h2.a
theorem set_at {ss : List Stl} {i : Nat} {s b : Stl} (h : ss[i]? = some s) : (ss.set i b)[i]? = some b := by
  rw [List.getElem?_set_self (List.getElem?_eq_some_iff.mp h).1]
theorem set_back {ss : List Stl} {i : Nat} {s : Stl} (h : ss[i]? = some s) : ss.set i s = ss := by
  refine List.ext_getElem? fun j => ?_
  rw [List.getElem?_set]
  split
  · rename_i e
    subst e
    rw [h, if_pos (List.getElem?_eq_some_iff.mp h).1]
  · rfl
/-- a move that may be made -/
def Vm (ss : List Stl) (m : Mv) : Prop := ∃ s, ss[m.i]? = some s ∧ (m.w = s.u ∨ m.w = s.v) ∧ 0 < m.x
/-- moves played one behind another, within bounds -/
inductive Plays (n : Nat) : List Stl → List Mv → List Stl → Prop
  | nil {ss : List Stl} : Plays n ss [] ss
  | cons {ss tt : List Stl} {m : Mv} {ms : List Mv} {s : Stl} (h : ss[m.i]? = some s) (hw : m.w = s.u ∨ m.w = s.v) (x0 : 0 < m.x) (bs : BdSt 1900 s) (bx : Bd 1900 m.x) (hb : BdSt 8900 (s.behind m.w m.x))
      (t : Plays n (ss.set m.i (s.behind m.w m.x)) ms tt) : Plays n ss (m :: ms) tt
theorem alk_refl (ss : List Stl) : Alk ss ss := ⟨rfl, fun h1 h2 => by
  rw [h1] at h2
  cases h2
  exact ⟨rfl, rfl, rfl⟩⟩
theorem behind_r (s : Stl) (wn : Nat) (y : Rat) : (s.behind wn y).r = s.r := by
  unfold Stl.behind
  split <;> rfl
theorem alk_trans {ss tt uu : List Stl} (a : Alk ss tt) (b : Alk tt uu) : Alk ss uu := ⟨a.len.trans b.len, fun {i s u} h1 h2 => by
  have l := a.len
  have hi := (List.getElem?_eq_some_iff.mp h1).1
  have h3 : tt[i]? = some (tt[i]'(by omega)) := List.getElem?_eq_getElem (by omega)
  obtain ⟨a1, a2, a3⟩ := a.at_ h1 h3
  obtain ⟨b1, b2, b3⟩ := b.at_ h3 h2
  exact ⟨a1.trans b1, a2.trans b2, a3.trans b3⟩⟩
theorem alk_set {ss : List Stl} {i : Nat} {s t : Stl} (h : ss[i]? = some s) (e : s.u = t.u ∧ s.v = t.v ∧ s.r = t.r) : Alk ss (ss.set i t) := ⟨by rw [List.length_set], fun {j a b} h1 h2 => by
  rw [List.getElem?_set] at h2
  split at h2
  · rename_i c
    subst c
    rw [h] at h1
    cases h1
    split at h2
    · cases h2
      exact e
    · cases h2
  · rw [h1] at h2
    cases h2
    exact ⟨rfl, rfl, rfl⟩⟩
theorem alk_behind (s : Stl) (w : Nat) (x : Rat) : s.u = (s.behind w x).u ∧ s.v = (s.behind w x).v ∧ s.r = (s.behind w x).r := ⟨by rw [behind_u], by rw [behind_v], by rw [behind_r]⟩
theorem Plays.alk {n : Nat} {ss tt : List Stl} {ms : List Mv} (h : Plays n ss ms tt) : Alk ss tt := by
  induction h with
  | nil => exact alk_refl _
  | cons h hw x0 bs bx hb t ih => exact alk_trans (alk_set h (alk_behind _ _ _)) ih
theorem vm_alk {ss tt : List Stl} (a : Alk ss tt) {m : Mv} (h : Vm tt m) : Vm ss m := by
  obtain ⟨t, h1, h2, h3⟩ := h
  have l := a.len
  have hi := (List.getElem?_eq_some_iff.mp h1).1
  have h4 : ss[m.i]? = some (ss[m.i]'(by omega)) := List.getElem?_eq_getElem (by omega)
  obtain ⟨a1, a2, _⟩ := a.at_ h4 h1
  exact ⟨_, h4, by rw [a1, a2]; exact h2, h3⟩
theorem Plays.vm {n : Nat} {ss tt : List Stl} {ms : List Mv} (h : Plays n ss ms tt) : ∀ m ∈ ms, Vm ss m := by
  induction h with
  | nil =>
    intro m hm
    simp at hm
  | cons h hw x0 bs bx hb t ih =>
    intro m hm
    rcases List.mem_cons.mp hm with rfl | hm
    · exact ⟨_, h, hw, x0⟩
    · exact vm_alk (alk_set h (alk_behind _ _ _)) (ih m hm)
theorem Plays.ok {n : Nat} {ss tt : List Stl} {ms : List Mv} (h : Plays n ss ms tt) : (∀ s ∈ ss, OkSt n s) → ∀ s ∈ tt, OkSt n s := by
  induction h with
  | nil => exact id
  | cons h hw x0 bs bx hb t ih =>
    intro ok
    refine ih fun s hs => ?_
    rcases List.mem_or_eq_of_mem_set hs with z | z
    · exact ok s z
    · rw [z]
      exact behind_ok (ok _ (List.mem_of_getElem? h)) _ x0
theorem Plays.bd {n : Nat} {ss tt : List Stl} {ms : List Mv} (h : Plays n ss ms tt) : (∀ s ∈ ss, BdSt 8900 s) → ∀ s ∈ tt, BdSt 8900 s := by
  induction h with
  | nil => exact id
  | cons h hw x0 bs bx hb t ih =>
    intro ok
    refine ih fun s hs => ?_
    rcases List.mem_or_eq_of_mem_set hs with z | z
    · exact ok s z
    · rw [z]
      exact hb
/-- what the customer has behind it -/
def hasAt (n : Nat) (rs : List Rat) (ss tt : List Stl) : List Rat := (List.range n).map fun w => rs.getD w 0 + (heldAt ss w - heldAt tt w)
theorem bools_of {bs : List V} {l : List Bool} (h : Paired (fun (v : V) (b : Bool) => v = .bl b) bs l) : bs = l.map V.bl := by
  induction h with
  | nil => rfl
  | cons h t ih => rw [h, ih]; rfl
theorem all_true (l : List Bool) (h : ∀ b ∈ l, b = true) : l.all id = true := by
  rw [List.all_eq_true]
  exact h
section
variable {P : Program} {w : World} {K : PySem.W.Frag} {mg : Str → Option Value} {base : Heap} {f__wall f_is_integer f_is_row f_is_fraction f_is_amount f_is_some f_are_amounts f_added f_negated f_lessened f_multiplied f_divided f_squared f_summed f_lies_below f_is_stall f_hold_of f_stalls_of f_kept_of f_held f_roots f_check_purse f_check_wish f_may_stay f_table_of f_strike_row f_are_some f_filled_back f_in_order f_struck_in_turn f_scales f_is_scales f_l_deck f_l_pick f_l_divisor f_l_made f_l_added f_l_taken f_l_product f_l_amount f_l_stall f_l_held f_l_pulls f_l_edge f_l_deep f_l_changed f_l_are_some f_l_due f_l_is_judged f_l_word f_law f_Web_init f_Table_init f_Table_wrong_sign f_Table_behind f_Table_ties_without c_BadPurse c_BadWish c_Table c_Web c_ONE c_ZERO : Addr} {d__wall d_is_integer d_is_row d_is_fraction d_is_amount d_is_some d_are_amounts d_added d_negated d_lessened d_multiplied d_divided d_squared d_summed d_lies_below d_is_stall d_hold_of d_stalls_of d_kept_of d_held d_roots d_check_purse d_check_wish d_may_stay d_table_of d_strike_row d_are_some d_filled_back d_in_order d_struck_in_turn d_scales d_is_scales d_l_deck d_l_pick d_l_divisor d_l_made d_l_added d_l_taken d_l_product d_l_amount d_l_stall d_l_held d_l_pulls d_l_edge d_l_deep d_l_changed d_l_are_some d_l_due d_l_is_judged d_l_word d_law d_Web_init d_Table_init d_Table_wrong_sign d_Table_behind d_Table_ties_without : FuncData}
def sp_is_amount (K : PySem.W.Frag) : Sp := fun vs H Q _ => ∃ v r, vs = [v] ∧ IsF K H v r ∧ 0 ≤ r ∧ Q (.bl true) H
theorem ok_is_amount (T : Txt K mg f__wall f_is_integer f_is_row f_is_fraction f_is_amount f_is_some f_are_amounts f_added f_negated f_lessened f_multiplied f_divided f_squared f_summed f_lies_below f_is_stall f_hold_of f_stalls_of f_kept_of f_held f_roots f_check_purse f_check_wish f_may_stay f_table_of f_strike_row f_are_some f_filled_back f_in_order f_struck_in_turn f_scales f_is_scales f_l_deck f_l_pick f_l_divisor f_l_made f_l_added f_l_taken f_l_product f_l_amount f_l_stall f_l_held f_l_pulls f_l_edge f_l_deep f_l_changed f_l_are_some f_l_due f_l_is_judged f_l_word f_law f_Web_init f_Table_init f_Table_wrong_sign f_Table_behind f_Table_ties_without c_BadPurse c_BadWish c_Table c_Web c_ONE c_ZERO d__wall d_is_integer d_is_row d_is_fraction d_is_amount d_is_some d_are_amounts d_added d_negated d_lessened d_multiplied d_divided d_squared d_summed d_lies_below d_is_stall d_hold_of d_stalls_of d_kept_of d_held d_roots d_check_purse d_check_wish d_may_stay d_table_of d_strike_row d_are_some d_filled_back d_in_order d_struck_in_turn d_scales d_is_scales d_l_deck d_l_pick d_l_divisor d_l_made d_l_added d_l_taken d_l_product d_l_amount d_l_stall d_l_held d_l_pulls d_l_edge d_l_deep d_l_changed d_l_are_some d_l_due d_l_is_judged d_l_word d_law d_Web_init d_Table_init d_Table_wrong_sign d_Table_behind d_Table_ties_without) : FnOk P w K mg base CX0 3 f_is_amount d_is_amount ["thing"] (sp_is_amount K) := by
  have G_is_fraction : FnOk P w K mg base CX0 2 f_is_fraction d_is_fraction ["thing"] (sp_is_fraction K) := ok_is_fraction T
  refine T.F_is_amount.ok sc_is_amount (fun vs H Q E h => ?_) (fun cdv A outer s H vs Q E hr h => ?_)
  · obtain ⟨v, r, rfl, _⟩ := h
    rfl
  · obtain ⟨v, r, rfl, h, r0, q⟩ := h
    obtain ⟨p, rfl, hp⟩ := id h
    have hn : 0 ≤ r.num := Rat.num_nonneg.mpr r0
    refine ⟨_, (pss_one (ps_ret (pe_and (pe_call G_is_fraction (hr.mono (by decide)) (by rfl) T.g_is_fraction T.k_is_fraction T.b_is_fraction .nil pass0 (pa_cons (pv 0) pa_nil)) (pe_one (pe_cmpR op_ge (pe_ix ix_tup (pv 0) pe_int (fun _ _ => rfl)) pe_int (nomark _)))))), ?_⟩
    walk_at "r"
    refine ⟨_, _, rfl, h, ?_⟩
    walk_at "r"
    rw [decide_eq_true (show r.num ≥ 0 from hn)]
    exact q
def sp_are_amounts (K : PySem.W.Frag) : Sp := fun vs H Q _ => ∃ (L : Addr) (ys : List V) (rs : List Rat), vs = [.ref L, .int (rs.length : Nat)] ∧ Sq K H L ys ∧ Fs K H ys rs ∧ (∀ r ∈ rs, 0 ≤ r) ∧ rs.length ≤ 16 ∧ ∀ H', Same H H' → Q (.bl true) H'
theorem ok_are_amounts (T : Txt K mg f__wall f_is_integer f_is_row f_is_fraction f_is_amount f_is_some f_are_amounts f_added f_negated f_lessened f_multiplied f_divided f_squared f_summed f_lies_below f_is_stall f_hold_of f_stalls_of f_kept_of f_held f_roots f_check_purse f_check_wish f_may_stay f_table_of f_strike_row f_are_some f_filled_back f_in_order f_struck_in_turn f_scales f_is_scales f_l_deck f_l_pick f_l_divisor f_l_made f_l_added f_l_taken f_l_product f_l_amount f_l_stall f_l_held f_l_pulls f_l_edge f_l_deep f_l_changed f_l_are_some f_l_due f_l_is_judged f_l_word f_law f_Web_init f_Table_init f_Table_wrong_sign f_Table_behind f_Table_ties_without c_BadPurse c_BadWish c_Table c_Web c_ONE c_ZERO d__wall d_is_integer d_is_row d_is_fraction d_is_amount d_is_some d_are_amounts d_added d_negated d_lessened d_multiplied d_divided d_squared d_summed d_lies_below d_is_stall d_hold_of d_stalls_of d_kept_of d_held d_roots d_check_purse d_check_wish d_may_stay d_table_of d_strike_row d_are_some d_filled_back d_in_order d_struck_in_turn d_scales d_is_scales d_l_deck d_l_pick d_l_divisor d_l_made d_l_added d_l_taken d_l_product d_l_amount d_l_stall d_l_held d_l_pulls d_l_edge d_l_deep d_l_changed d_l_are_some d_l_due d_l_is_judged d_l_word d_law d_Web_init d_Table_init d_Table_wrong_sign d_Table_behind d_Table_ties_without) : FnOk P w K mg base CX0 4 f_are_amounts d_are_amounts ["things", "number"] (sp_are_amounts K) := by
  have G_is_amount : FnOk P w K mg base CX0 3 f_is_amount d_is_amount ["thing"] (sp_is_amount K) := ok_is_amount T
  refine T.F_are_amounts.ok sc_are_amounts (fun vs H Q E h => ?_) (fun cdv A outer s H vs Q E hr h => ?_)
  · obtain ⟨L, ys, rs, rfl, _⟩ := h
    rfl
  · obtain ⟨L, ys, rs, rfl, hL, hf, h0, h16, q⟩ := h
    have hl := hf.len
    refine ⟨_, (pss_one (ps_ret (pe_and (pe_cmpR op_eq (pe_callB call_lenN (by rfl) T.z_len (by decide +kernel) (pa_cons (pv 0) pa_nil)) (pv 1) (nomark _)) (pe_one (pe_callB (cr_all rfl) (by rfl) T.z_all (by decide +kernel) (pa_cons (pe_lc (own := [("thing", 2)]) (g := gName 2) rfl sc_are_amounts.nd (My.pi_seqA (pv 0)) (blkOk_by (own := [("thing", 2)]) (N := N_are_amounts) (sc := defScope s_are_amounts) (by decide +kernel)) (fun _ _ _ _ _ => (pg_name (i := 2) sc_are_amounts.nd rfl (by first | exact Or.inl rfl | exact Or.inr rfl))) (fun _ _ _ _ _ => pts_nil) (fun _ _ _ _ _ => (pe_call G_is_amount (hr.mono (by decide)) (by rfl) T.g_is_amount T.k_is_amount T.b_is_amount .nil pass0 (pa_cons (pv 2) pa_nil)))) pa_nil)))))), ?_⟩
    walk_at "r"
    refine ⟨L, ys, rfl, hL, ?_⟩
    walk_at "r"
    refine rd_seqA ?_
    walk_at "r"
    refine lc_seqA (R := fun H v (b : Bool) => v = .bl b) (fun _ _ _ _ _ h => h) (f := fun _ => some true) (by omega) hL (fun i x hx H' Q' N s1 hy hn => ?_) (fun D H' hlst => ?_) rfl
    · obtain ⟨r, hr', hx2⟩ := Paired.at hf hx
      walk_at "r"
      refine ⟨rfl, ?_⟩
      walk_at "r"
      exact ⟨_, r, rfl, hx2.same s1, h0 r (List.mem_of_getElem? hr'), hy true _ _ rfl (Same.refl _) rfl⟩
    · obtain ⟨s1, bs, hD, hbs⟩ := hlst
      rw [upTo_map] at hbs
      have e := bools_of hbs
      subst e
      walk_at "r"
      refine ⟨D, _, rfl, .of hD, ?_⟩
      rw [all_true _ (by simp)]
      exact q _ s1
def IsRow (K : PySem.W.Frag) (H : Hp) (x : V) (rs : List Rat) : Prop := ∃ L ys, x = .ref L ∧ (H L = some (.lst ys) ∨ H L = some (.tup ys)) ∧ Fs K H ys rs
theorem IsRow.same {H H' : Hp} {x : V} {rs : List Rat} (s : Same H H') (h : IsRow K H x rs) : IsRow K H' x rs := by
  obtain ⟨L, ys, e, h1, h2⟩ := h
  exact ⟨L, ys, e, h1.imp (fun h => s _ _ h) (fun h => s _ _ h), h2.same s⟩
theorem sq_or {H : Hp} {L : Addr} {ys : List V} (h : H L = some (.lst ys) ∨ H L = some (.tup ys)) : Sq K H L ys := h.imp .of .of
def sp_check_purse (K : PySem.W.Frag) (C : Addr) : Sp := fun vs H Q _ => ∃ (x p : V) (n : Nat) (ss : List Stl) (rs : List Rat), vs = [x, p] ∧ IsWeb K C H x n ss ∧ IsRow K H p rs ∧ rs.length = n ∧ n ≤ 8 ∧ (∀ r ∈ rs, 0 ≤ r) ∧ ∀ H', Same H H' → Q .non H'
theorem ok_check_purse (T : Txt K mg f__wall f_is_integer f_is_row f_is_fraction f_is_amount f_is_some f_are_amounts f_added f_negated f_lessened f_multiplied f_divided f_squared f_summed f_lies_below f_is_stall f_hold_of f_stalls_of f_kept_of f_held f_roots f_check_purse f_check_wish f_may_stay f_table_of f_strike_row f_are_some f_filled_back f_in_order f_struck_in_turn f_scales f_is_scales f_l_deck f_l_pick f_l_divisor f_l_made f_l_added f_l_taken f_l_product f_l_amount f_l_stall f_l_held f_l_pulls f_l_edge f_l_deep f_l_changed f_l_are_some f_l_due f_l_is_judged f_l_word f_law f_Web_init f_Table_init f_Table_wrong_sign f_Table_behind f_Table_ties_without c_BadPurse c_BadWish c_Table c_Web c_ONE c_ZERO d__wall d_is_integer d_is_row d_is_fraction d_is_amount d_is_some d_are_amounts d_added d_negated d_lessened d_multiplied d_divided d_squared d_summed d_lies_below d_is_stall d_hold_of d_stalls_of d_kept_of d_held d_roots d_check_purse d_check_wish d_may_stay d_table_of d_strike_row d_are_some d_filled_back d_in_order d_struck_in_turn d_scales d_is_scales d_l_deck d_l_pick d_l_divisor d_l_made d_l_added d_l_taken d_l_product d_l_amount d_l_stall d_l_held d_l_pulls d_l_edge d_l_deep d_l_changed d_l_are_some d_l_due d_l_is_judged d_l_word d_law d_Web_init d_Table_init d_Table_wrong_sign d_Table_behind d_Table_ties_without) : FnOk P w K mg base CX0 5 f_check_purse d_check_purse ["web", "purse"] (sp_check_purse K c_Web) := by
  have G_is_row : FnOk P w K mg base CX0 1 f_is_row d_is_row ["thing"] sp_is_row := ok_is_row T
  have G_are_amounts : FnOk P w K mg base CX0 4 f_are_amounts d_are_amounts ["things", "number"] (sp_are_amounts K) := ok_are_amounts T
  refine T.F_check_purse.ok sc_check_purse (fun vs H Q E h => ?_) (fun cdv A outer s H vs Q E hr h => ?_)
  · obtain ⟨x, p, n, ss, rs, rfl, _⟩ := h
    rfl
  · obtain ⟨x, p, n, ss, rs, rfl, hw, ⟨L, ys, rfl, hL, hf⟩, hn, n8, h0, q⟩ := h
    refine ⟨_, (pss_one (ps_if (PW.pt (pw_or (pt_not (pt_val (pe_call G_is_row (hr.mono (by decide)) (by rfl) T.g_is_row T.k_is_row T.b_is_row .nil pass0 (pa_cons (pv 1) pa_nil)))) (pw_or1 (pt_not (pt_val (pe_call G_are_amounts (hr.mono (by decide)) (by rfl) T.g_are_amounts T.k_are_amounts T.b_are_amounts .nil pass0 (pa_cons (pv 1) (pa_cons (pe_fld (pv 0) rfl) pa_nil))))))))
        (pss_one ps_never)
        pss_nil)), ?_⟩
    walk_at "r"
    refine ⟨L, ys, rfl, hL, fun H1 s1 => ?_⟩
    obtain ⟨px, dx, t, xs, rfl, hp, ht, hss⟩ := hw.same s1
    walk_at "r"
    refine ⟨_, _, _, _, _, rfl, hp, T.w_Web.it.cl, T.n_Web_wares, wF_wares _ _, ?_⟩
    walk_at "r"
    refine ⟨L, ys, rs, by rw [hn]; rfl, (sq_or hL).same s1, hf.same s1, h0, by omega, fun H2 s2 => ?_⟩
    walk_at "r"
    exact q _ (s1.trans s2)
def IsDl (K : PySem.W.Frag) (H : Hp) (x : V) (ms : List Mv) : Prop := ∃ L ys, x = .ref L ∧ (H L = some (.lst ys) ∨ H L = some (.tup ys)) ∧ Paired (IsM K H) ys ms
theorem IsM.same {H H' : Hp} {v : V} {m : Mv} (s : Same H H') (h : IsM K H v m) : IsM K H' v m := IsMv.same s h
theorem IsDl.same {H H' : Hp} {x : V} {ms : List Mv} (s : Same H H') (h : IsDl K H x ms) : IsDl K H' x ms := by
  obtain ⟨L, ys, e, h1, h2⟩ := h
  exact ⟨L, ys, e, h1.imp (fun h => s _ _ h) (fun h => s _ _ h), Paired.mapP h2 fun _ _ h => h.same s⟩
def sp_deal_fault (K : PySem.W.Frag) (C : Addr) : Sp := fun vs H Q _ => ∃ (x d : V) (n : Nat) (ss : List Stl) (ms : List Mv), vs = [x, d] ∧ IsWeb K C H x n ss ∧ IsDl K H d ms ∧ ms.length ≤ 200 ∧ (∀ m ∈ ms, Vm ss m) ∧ ∀ H', Same H H' → Q .non H'
def sp_check_deal (K : PySem.W.Frag) (C : Addr) : Sp := fun vs H Q _ => ∃ (x p d : V) (n : Nat) (ss : List Stl) (rs : List Rat) (ms : List Mv), vs = [x, p, d] ∧ IsWeb K C H x n ss ∧ IsRow K H p rs ∧ rs.length = n ∧ n ≤ 8 ∧ (∀ r ∈ rs, 0 ≤ r) ∧ IsDl K H d ms ∧ ms.length ≤ 200 ∧ (∀ m ∈ ms, Vm ss m) ∧ ∀ H', Same H H' → Q .non H'
def sp_web_behind (K : PySem.W.Frag) (C : Addr) : Sp := fun vs H Q _ => ∃ (x d : V) (n : Nat) (ss tt : List Stl) (ms : List Mv), vs = [x, d] ∧ IsWeb K C H x n ss ∧ IsDl K H d ms ∧ Plays n ss ms tt ∧ OkW n 8900 ss ∧ ∀ H' u, Same H H' → IsWeb K C H' u n tt → Q u H'
theorem rd_ixAny {H : Hp} {Q : VK} {p : Addr} {xs : List V} {i : Int} {v : V} (h : H p = some (.lst xs) ∨ H p = some (.tup xs)) (e : atI xs i = some v) (q : Q v H) : rIxA K (.ref p) (.int i) H Q := ⟨p, xs, i, v, rfl, rfl, h.imp .of .of, e, q⟩
theorem ixN_at {n i : Nat} (h : i < n) : ixN n (i : Int) = some i := by
  unfold ixN
  split <;> first | omega | (simp; omega) | simp_all
theorem drop_at {α : Type} {l : List α} {i : Nat} {a : α} (h : l[i]? = some a) : l.drop i = a :: l.drop (i + 1) := by
  obtain ⟨hi, e⟩ := List.getElem?_eq_some_iff.mp h
  rw [← e]
  exact List.drop_eq_getElem_cons hi
def sp_left_with (K : PySem.W.Frag) (C : Addr) : Sp := fun vs H Q _ => ∃ (x p u : V) (n : Nat) (ss tt : List Stl) (rs : List Rat) (M N : Nat), vs = [x, p, u] ∧ IsWeb K C H x n ss ∧ IsRow K H p rs ∧ IsWeb K C H u n tt ∧ rs.length = n ∧ (∀ r ∈ rs, Bd 8900 r) ∧ Alk ss tt ∧ n ≤ 8 ∧ ss.length ≤ 16 ∧ BL ss M ∧ BL tt N ∧ M + N + 1 ≤ 8900 ∧
  ∀ H' v, Same H H' → IsFs K H' v (hasAt n rs ss tt) → Q v H'
def IsEnd (K : PySem.W.Frag) (C : Addr) (H : Hp) (v : V) (n : Nat) (tt : List Stl) (rs : List Rat) : Prop := ∃ p u t, v = .ref p ∧ H p = some (.tup [u, t]) ∧ IsWeb K C H u n tt ∧ IsFs K H t rs
def sp_played (K : PySem.W.Frag) (C : Addr) : Sp := fun vs H Q _ => ∃ (x p d : V) (n : Nat) (ss tt : List Stl) (rs : List Rat) (ms : List Mv) (M N : Nat), vs = [x, p, d] ∧ IsWeb K C H x n ss ∧ IsRow K H p rs ∧ rs.length = n ∧ (∀ r ∈ rs, 0 ≤ r ∧ Bd 8900 r) ∧ IsDl K H d ms ∧ ms.length ≤ 200 ∧ Plays n ss ms tt ∧ OkW n 8900 ss ∧ BL ss M ∧ BL tt N ∧ M + N + 1 ≤ 8900 ∧
  ∀ H' v, Same H H' → IsEnd K C H' v n tt (hasAt n rs ss tt) → Q v H'
end
end My
namespace My
open PySem PySem.Spec PyProof.Rows L2
variable {K : PySem.W.Frag}
theorem isi_non_tup {H : Hp} {Q : VK} (q : Q (.bl false) H) : rIsi K [.non, .ty "tuple"] H Q := ⟨_, _, _, _, _, rfl, .ty _, .base .non, kit_ty (by decide +kernel), q⟩
theorem isi_tup_lst {H : Hp} {Q : VK} {p : Addr} {xs : List V} (h : H p = some (.tup xs)) (q : Q (.bl false) H) : rIsi K [.ref p, .ty "list"] H Q := ⟨_, _, _, _, _, rfl, .ty _, .base (.tup h), kit_ty (by decide +kernel), q⟩
theorem isi_lst_lst {H : Hp} {Q : VK} {p : Addr} {xs : List V} (h : H p = some (.lst xs)) (q : Q (.bl true) H) : rIsi K [.ref p, .ty "list"] H Q := ⟨_, _, _, _, _, rfl, .ty _, .base (.lst h), kit_ty (by decide +kernel), q⟩
section
variable {P : Program} {w : World} {K : PySem.W.Frag} {mg : Str → Option Value} {base : Heap} {f__wall f_is_integer f_is_row f_is_fraction f_is_amount f_is_some f_are_amounts f_added f_negated f_lessened f_multiplied f_divided f_squared f_summed f_lies_below f_is_stall f_hold_of f_stalls_of f_kept_of f_held f_roots f_check_purse f_check_wish f_may_stay f_table_of f_strike_row f_are_some f_filled_back f_in_order f_struck_in_turn f_scales f_is_scales f_l_deck f_l_pick f_l_divisor f_l_made f_l_added f_l_taken f_l_product f_l_amount f_l_stall f_l_held f_l_pulls f_l_edge f_l_deep f_l_changed f_l_are_some f_l_due f_l_is_judged f_l_word f_law f_Web_init f_Table_init f_Table_wrong_sign f_Table_behind f_Table_ties_without c_BadPurse c_BadWish c_Table c_Web c_ONE c_ZERO : Addr} {d__wall d_is_integer d_is_row d_is_fraction d_is_amount d_is_some d_are_amounts d_added d_negated d_lessened d_multiplied d_divided d_squared d_summed d_lies_below d_is_stall d_hold_of d_stalls_of d_kept_of d_held d_roots d_check_purse d_check_wish d_may_stay d_table_of d_strike_row d_are_some d_filled_back d_in_order d_struck_in_turn d_scales d_is_scales d_l_deck d_l_pick d_l_divisor d_l_made d_l_added d_l_taken d_l_product d_l_amount d_l_stall d_l_held d_l_pulls d_l_edge d_l_deep d_l_changed d_l_are_some d_l_due d_l_is_judged d_l_word d_law d_Web_init d_Table_init d_Table_wrong_sign d_Table_behind d_Table_ties_without : FuncData}
def sp_check_wish (K : PySem.W.Frag) (C : Addr) : Sp := fun vs H Q _ => ∃ (x p : V) (n : Nat) (ss : List Stl) (rs : List Rat), vs = [x, p] ∧ IsWeb K C H x n ss ∧ IsRow K H p rs ∧ rs.length = n ∧ n ≤ 8 ∧ (∀ r ∈ rs, 0 ≤ r) ∧ ∀ H', Same H H' → Q .non H'
theorem ok_check_wish (T : Txt K mg f__wall f_is_integer f_is_row f_is_fraction f_is_amount f_is_some f_are_amounts f_added f_negated f_lessened f_multiplied f_divided f_squared f_summed f_lies_below f_is_stall f_hold_of f_stalls_of f_kept_of f_held f_roots f_check_purse f_check_wish f_may_stay f_table_of f_strike_row f_are_some f_filled_back f_in_order f_struck_in_turn f_scales f_is_scales f_l_deck f_l_pick f_l_divisor f_l_made f_l_added f_l_taken f_l_product f_l_amount f_l_stall f_l_held f_l_pulls f_l_edge f_l_deep f_l_changed f_l_are_some f_l_due f_l_is_judged f_l_word f_law f_Web_init f_Table_init f_Table_wrong_sign f_Table_behind f_Table_ties_without c_BadPurse c_BadWish c_Table c_Web c_ONE c_ZERO d__wall d_is_integer d_is_row d_is_fraction d_is_amount d_is_some d_are_amounts d_added d_negated d_lessened d_multiplied d_divided d_squared d_summed d_lies_below d_is_stall d_hold_of d_stalls_of d_kept_of d_held d_roots d_check_purse d_check_wish d_may_stay d_table_of d_strike_row d_are_some d_filled_back d_in_order d_struck_in_turn d_scales d_is_scales d_l_deck d_l_pick d_l_divisor d_l_made d_l_added d_l_taken d_l_product d_l_amount d_l_stall d_l_held d_l_pulls d_l_edge d_l_deep d_l_changed d_l_are_some d_l_due d_l_is_judged d_l_word d_law d_Web_init d_Table_init d_Table_wrong_sign d_Table_behind d_Table_ties_without) : FnOk P w K mg base CX0 5 f_check_wish d_check_wish ["web", "wish"] (sp_check_wish K c_Web) := by
  have G_is_row : FnOk P w K mg base CX0 1 f_is_row d_is_row ["thing"] sp_is_row := ok_is_row T
  have G_are_amounts : FnOk P w K mg base CX0 4 f_are_amounts d_are_amounts ["things", "number"] (sp_are_amounts K) := ok_are_amounts T
  refine T.F_check_wish.ok sc_check_wish (fun vs H Q E h => ?_) (fun cdv A outer s H vs Q E hr h => ?_)
  · obtain ⟨x, p, n, ss, rs, rfl, _⟩ := h
    rfl
  · obtain ⟨x, p, n, ss, rs, rfl, hw, ⟨L, ys, rfl, hL, hf⟩, hn, n8, h0, q⟩ := h
    refine ⟨_, (pss_one (ps_if (PW.pt (pw_or (pt_not (pt_val (pe_call G_is_row (hr.mono (by decide)) (by rfl) T.g_is_row T.k_is_row T.b_is_row .nil pass0 (pa_cons (pv 1) pa_nil)))) (pw_or1 (pt_not (pt_val (pe_call G_are_amounts (hr.mono (by decide)) (by rfl) T.g_are_amounts T.k_are_amounts T.b_are_amounts .nil pass0 (pa_cons (pv 1) (pa_cons (pe_fld (pv 0) rfl) pa_nil))))))))
        (pss_one ps_never)
        pss_nil)), ?_⟩
    walk_at "r"
    refine ⟨L, ys, rfl, hL, fun H1 s1 => ?_⟩
    obtain ⟨px, dx, t, xs, rfl, hp, ht, hss⟩ := hw.same s1
    walk_at "r"
    refine ⟨_, _, _, _, _, rfl, hp, T.w_Web.it.cl, T.n_Web_wares, wF_wares _ _, ?_⟩
    walk_at "r"
    refine ⟨L, ys, rs, by rw [hn]; rfl, (sq_or hL).same s1, hf.same s1, h0, by omega, fun H2 s2 => ?_⟩
    walk_at "r"
    exact q _ (s1.trans s2)
/-- is_move of a right move, or of None -/
def sp_is_moveN (K : PySem.W.Frag) (C : Addr) : Sp := fun vs H Q E => sp_is_move K C vs H Q E ∨ ∃ x, vs = [x, .non] ∧ Q (.bl false) H
def IsDlN (K : PySem.W.Frag) (H : Hp) (x : V) (ms : List Mv) (bad : Bool) : Prop := ∃ L ys, x = .ref L ∧ (H L = some (.lst (ys ++ if bad then [.non] else [])) ∨ H L = some (.tup (ys ++ if bad then [.non] else []))) ∧ Paired (IsM K H) ys ms
def sp_deal_faultN (K : PySem.W.Frag) (C : Addr) : Sp := fun vs H Q _ => ∃ (x d : V) (n : Nat) (ss : List Stl) (ms : List Mv) (bad : Bool), vs = [x, d] ∧ IsWeb K C H x n ss ∧ IsDlN K H d ms bad ∧ ms.length + (if bad then 1 else 0) ≤ 200 ∧ (∀ m ∈ ms, Vm ss m) ∧ ∀ H', Same H H' → Q (if bad then .int (ms.length : Nat) else .non) H'
/-- where the customer has less than is wished -/
def less (n : Nat) (rs ws : List Rat) (ss tt : List Stl) : List Bool := (List.range n).map fun w => decide (rs.getD w 0 + (heldAt ss w - heldAt tt w) < ws.getD w 0)
def sp_is_deal (K : PySem.W.Frag) (C : Addr) : Sp := fun vs H Q _ => ∃ (x p wv : V) (L : Addr) (n : Nat) (ss : List Stl) (rs ws : List Rat) (ys : List V) (ms : List Mv), vs = [x, p, wv, .ref L] ∧ IsWeb K C H x n ss ∧ IsRow K H p rs ∧ rs.length = n ∧ IsRow K H wv ws ∧ ws.length = n ∧ OkW n 8900 ss ∧ (∀ r ∈ rs, 0 ≤ r) ∧ (∀ r ∈ ws, 0 ≤ r ∧ Bd 8900 r) ∧
  ((∃ (tt : List Stl) (R M N : Nat), H L = some (.lst ys) ∧ Paired (IsM K H) ys ms ∧ ms.length ≤ 200 ∧ Plays n ss ms tt ∧ BL ss M ∧ BL tt N ∧ (∀ r ∈ rs, Bd R r) ∧ R + (M + N + 1) + 1 ≤ 8900 ∧ ∀ H', Same H H' → Q (.bl (!(less n rs ws ss tt).any id)) H') ∨
   (H L = some (.tup ys) ∧ ∀ H', Same H H' → Q (.bl false) H') ∨
   (H L = some (.lst (ys ++ [.non])) ∧ Paired (IsM K H) ys ms ∧ ms.length + 1 ≤ 200 ∧ (∀ m ∈ ms, Vm ss m) ∧ ∀ H', Same H H' → Q (.bl false) H'))
end
end My
namespace My
open PySem PySem.Spec PyProof.Rows L2
variable {K : PySem.W.Frag}
theorem call_tuple_ofK {X : Cx} (h : X.K = K) : CallR X (.type "tuple") (fun xs H Q => ∃ p ys, xs = [.ref p] ∧ ((SqL K H p ys ∧ ∀ l, H l = none → Q (.ref l) (upd H l (.tup ys))) ∨ (SqT K H p ys ∧ Q (.ref p) H))) := h ▸ call_tuple_of
theorem frD_refl (r : Rat) : PyData.eqv (frD r) (frD r) = true := by rw [frD_eqv]; exact decide_eq_true rfl
theorem all_refl {α : Type} (f : α → PyData) (h : ∀ a, PyData.eqv (f a) (f a) = true) : ∀ l : List α, PyData.eqvAll (l.map f) (l.map f) = true
  | [] => rfl
  | a :: l => by
    show (PyData.eqv (f a) (f a) && PyData.eqvAll (l.map f) (l.map f)) = true
    rw [h, all_refl f h l]
    rfl
theorem all_lay {α : Type} (f : α → PyData) (h : ∀ a, PyData.canLay0 (f a) = true ∧ PyData.depth (f a) ≤ 2) : ∀ l : List α, PyData.canLayAll0 (l.map f) = true ∧ PyData.depthAll (l.map f) ≤ 2
  | [] => ⟨rfl, by show PyData.depthAll [] ≤ 2; decide⟩
  | a :: l => by
    obtain ⟨h1, h2⟩ := all_lay f h l
    obtain ⟨g1, g2⟩ := h a
    refine ⟨?_, ?_⟩
    · show (PyData.canLay0 (f a) && PyData.canLayAll0 (l.map f)) = true
      rw [h1, g1]
      rfl
    · show max (PyData.depth (f a)) (PyData.depthAll (l.map f)) ≤ 2
      omega
theorem shaped_list {α : Type} (f : α → PyData) (h : ∀ a, PyData.canLay0 (f a) = true ∧ PyData.depth (f a) ≤ 2) (l : List α) : SeqAt.shaped (.list (l.map f)) = true := by
  obtain ⟨h1, h2⟩ := all_lay f h l
  unfold SeqAt.shaped
  rw [Bool.and_eq_true]
  refine ⟨h1, decide_eq_true ?_⟩
  show PyData.depthAll (l.map f) + 1 ≤ 64
  omega
theorem shaped_tup {α : Type} (f : α → PyData) (h : ∀ a, PyData.canLay0 (f a) = true ∧ PyData.depth (f a) ≤ 2) (l : List α) : SeqAt.shaped (.tuple (l.map f)) = true := by
  obtain ⟨h1, h2⟩ := all_lay f h l
  unfold SeqAt.shaped
  rw [Bool.and_eq_true]
  refine ⟨h1, decide_eq_true ?_⟩
  show PyData.depthAll (l.map f) + 1 ≤ 64
  omega
theorem dps {α : Type} {R : Hp → V → α → Prop} {f : α → PyData} (hf : ∀ {H : Hp} {v : V} {a : α}, R H v a → Dp K H v (f a)) {H : Hp} {ys : List V} {as : List α} (h : Paired (R H) ys as) : DpAll K H ys (as.map f) := by
  induction h with
  | nil => exact .nil
  | cons h t ih => exact .cons (hf h) ih
theorem IsFs.dp {H : Hp} {v : V} {rs : List Rat} (h : IsFs K H v rs) : Dp K H v (.tuple (rs.map frD)) := by
  obtain ⟨L, ys, rfl, h1, h2⟩ := h
  exact .tup (.of h1) (dps (R := IsF K) (fun h => h.dp) h2)
theorem neFs {H : Hp} {v u : V} {rs : List Rat} {Q : VK} (h1 : IsFs K H v rs) (h2 : IsFs K H u rs) (q : Q (.bl false) H) : rNeD K v u H Q := by
  have sh := shaped_tup frD (fun m => ⟨rfl, Nat.le_succ 1⟩) rs
  refine ⟨_, _, h1.dp, h2.dp, sh, sh, ?_⟩
  rw [show PyData.eqv (.tuple (rs.map frD)) (.tuple (rs.map frD)) = true from all_refl frD frD_refl rs]
  exact q
theorem eqFs {H : Hp} {v u : V} {rs : List Rat} {Q : VK} (h1 : IsFs K H v rs) (h2 : IsFs K H u rs) (q : Q (.bl true) H) : rEqD K v u H Q := by
  have sh := shaped_tup frD (fun m => ⟨rfl, Nat.le_succ 1⟩) rs
  refine ⟨_, _, h1.dp, h2.dp, sh, sh, ?_⟩
  rw [show PyData.eqv (.tuple (rs.map frD)) (.tuple (rs.map frD)) = true from all_refl frD frD_refl rs]
  exact q
/-- own == and != of webs that are equal -/
theorem neWeb {C : Addr} {H : Hp} {v u : V} {n : Nat} {ss : List Stl} {Q : VK} (h1 : IsWeb K C H v n ss) (h2 : IsWeb K C H u n ss) (q : Q (.bl false) H) : rNeI C (BWeb K C) v u H Q := by
  obtain ⟨p, dx, t, xs, rfl, hp, _⟩ := id h1
  obtain ⟨p2, dx2, t2, xs2, rfl, hp2, _⟩ := id h2
  exact ⟨_, _, _, _, _, _, true, rfl, rfl, hp, hp2, ⟨n, n, _, _, h1, h2, by simp⟩, q⟩
theorem eqWeb {C : Addr} {H : Hp} {v u : V} {n : Nat} {ss : List Stl} {Q : VK} (h1 : IsWeb K C H v n ss) (h2 : IsWeb K C H u n ss) (q : Q (.bl true) H) : rEqI C (BWeb K C) v u H Q := by
  obtain ⟨p, dx, t, xs, rfl, hp, _⟩ := id h1
  obtain ⟨p2, dx2, t2, xs2, rfl, hp2, _⟩ := id h2
  exact ⟨_, _, _, _, _, _, true, rfl, rfl, hp, hp2, ⟨n, n, _, _, h1, h2, by simp⟩, q⟩
end My
namespace My
open PySem PySem.Spec PyProof.Rows L2
variable {K : PySem.W.Frag}
theorem Fs.ts {H H' : Hp} {ys : List V} {rs : List Rat} (f : Tps H H') (h : Fs K H ys rs) : Fs K H' ys rs := Paired.mapP h fun _ _ h => h.ts f
end My
namespace My
open PySem PySem.Spec PyProof.Rows L2
variable {K : PySem.W.Frag}
theorem Fs.set {H : Hp} {ys : List V} {rs : List Rat} {v : V} {r : Rat} (h : Fs K H ys rs) (hv : IsF K H v r) (i : Nat) : Fs K H (ys.set i v) (rs.set i r) := by
  unfold Fs at *
  induction h generalizing i with
  | nil => exact .nil
  | cons h t ih =>
    cases i with
    | zero => exact .cons hv t
    | succ i => exact .cons h (ih i)
end My
namespace My
open PySem PySem.Spec PyProof.Rows L2
variable {K : PySem.W.Frag}
def put1 (M : Nat → Nat → Rat) (u v : Nat) (x : Rat) : Nat → Nat → Rat := fun a b => if a = u ∧ b = v then x else M a b
def rootS (M : Nat → Nat → Rat) (k : Nat × Nat × Rat) : Nat → Nat → Rat := put1 (put1 M k.1 k.2.1 (M k.1 k.2.1 + k.2.2)) k.2.1 k.1 (M k.1 k.2.1 + k.2.2)
def keyS (s : Stl) : Nat × Nat × Rat := (s.u, s.v, s.r)
/-- the sums of roots between wares -/
def rootM (ss : List Stl) : Nat → Nat → Rat := (ss.map keyS).foldl rootS fun _ _ => 0
def rootsAt (n : Nat) (ss : List Stl) : List (List Rat) := (List.range n).map fun a => (List.range n).map (rootM ss a)
theorem rootM_take {ss : List Stl} {i : Nat} {s : Stl} (h : ss[i]? = some s) : rootM (ss.take (i + 1)) = rootS (rootM (ss.take i)) (keyS s) := by
  unfold rootM
  rw [take_at h, List.map_append, List.foldl_append]
  rfl
theorem rootM_bd {R : Nat} {ss : List Stl} (h : ∀ s ∈ ss, Bd R s.r) : ∀ i, i ≤ ss.length → ∀ a b, Bd (1 + (R + 1) * i) (rootM (ss.take i) a b) := by
  intro i
  induction i with
  | zero =>
    intro _ a b
    exact bd_zero (by omega)
  | succ i ih =>
    intro hi a b
    obtain ⟨s, hs⟩ : ∃ s, ss[i]? = some s := ⟨_, List.getElem?_eq_getElem hi⟩
    have ih := ih (by omega)
    have e : (R + 1) * (i + 1) = (R + 1) * i + (R + 1) := by rw [Nat.mul_add, Nat.mul_one]
    have bx : Bd (1 + (R + 1) * (i + 1)) (rootM (ss.take i) s.u s.v + s.r) := ((ih s.u s.v).add (h s (List.mem_of_getElem? hs))).mono (by omega)
    rw [rootM_take hs]
    show Bd _ (rootS _ (s.u, s.v, s.r) a b)
    unfold rootS put1
    simp only []
    split
    · exact bx
    · split
      · exact bx
      · exact (ih a b).mono (by omega)
theorem keys_alk {ss tt : List Stl} (a : Alk ss tt) : ss.map keyS = tt.map keyS := by
  refine List.ext_getElem? fun i => ?_
  rw [List.getElem?_map, List.getElem?_map]
  have l := a.len
  by_cases hi : i < ss.length
  · have h1 : ss[i]? = some ss[i] := List.getElem?_eq_getElem hi
    have h2 : tt[i]? = some (tt[i]'(by omega)) := List.getElem?_eq_getElem (by omega)
    obtain ⟨a1, a2, a3⟩ := a.at_ h1 h2
    rw [h1, h2]
    show some (keyS _) = some (keyS _)
    unfold keyS
    rw [a1, a2, a3]
  · rw [List.getElem?_eq_none (by omega), List.getElem?_eq_none (by omega)]
theorem rootsAt_alk {n : Nat} {ss tt : List Stl} (a : Alk ss tt) : rootsAt n ss = rootsAt n tt := by
  unfold rootsAt rootM
  rw [keys_alk a]
/-- rows of fractions under way -/
structure Mat (K : PySem.W.Frag) (n : Nat) (D : Addr) (as : List Addr) (M : Nat → Nat → Rat) (H : Hp) : Prop where
  lst : H D = some (.lst (as.map V.ref))
  len : as.length = n
  nd : as.Nodup
  row : ∀ i a, as[i]? = some a → a ≠ D ∧ ∃ ys, H a = some (.lst ys) ∧ Fs K H ys ((List.range n).map (M i))
theorem Mat.same {n : Nat} {D : Addr} {as : List Addr} {M : Nat → Nat → Rat} {H H' : Hp} (h : Mat K n D as M H) (s : Same H H') : Mat K n D as M H' :=
  ⟨s _ _ h.lst, h.len, h.nd, fun i a e => by
    obtain ⟨h1, ys, h2, h3⟩ := h.row i a e
    exact ⟨h1, ys, s _ _ h2, h3.same s⟩⟩
theorem row_set {n : Nat} (g : Nat → Rat) {j : Nat} (x : Rat) : ((List.range n).map g).set j x = (List.range n).map fun q => if q = j then x else g q := by
  refine List.ext_getElem? fun q => ?_
  rw [List.getElem?_set, List.length_map, List.length_range]
  by_cases hq : q < n
  · rw [List.getElem?_map, List.getElem?_map, List.getElem?_range hq]
    by_cases e : j = q
    · subst e
      simp [hq]
    · simp [e, Ne.symm e]
  · rw [List.getElem?_eq_none (l := List.map g _) (by simp; omega), List.getElem?_eq_none (l := List.map _ _) (by simp; omega)]
    split
    · split
      · omega
      · rfl
    · rfl
theorem nodup_at {as : List Addr} (h : as.Nodup) {i j : Nat} {a : Addr} (h1 : as[i]? = some a) (h2 : as[j]? = some a) : i = j := by
  obtain ⟨l1, e1⟩ := List.getElem?_eq_some_iff.mp h1
  obtain ⟨l2, e2⟩ := List.getElem?_eq_some_iff.mp h2
  have p := List.pairwise_iff_getElem.mp h
  rcases Nat.lt_trichotomy i j with c | c | c
  · exact absurd (e1.trans e2.symm) (p i j l1 l2 c)
  · exact c
  · exact absurd (e2.trans e1.symm) (p j i l2 l1 c)
theorem Mat.put {n : Nat} {D : Addr} {as : List Addr} {M : Nat → Nat → Rat} {H : Hp} (h : Mat K n D as M H) {i j : Nat} {a : Addr} {ys : List V} {v : V} {x : Rat} (ha : as[i]? = some a) (hy : H a = some (.lst ys)) (hv : IsF K H v x) :
    Mat K n D as (put1 M i j x) (upd H a (.lst (ys.set j v))) := by
  obtain ⟨g1, ys', g2, g3⟩ := h.row i a ha
  rw [hy] at g2
  cases g2
  have tp := tps_put (H1 := H) (o := .lst (ys.set j v)) hy
  refine ⟨(upd_ne (Ne.symm g1)).trans h.lst, h.len, h.nd, fun i' a' e => ?_⟩
  obtain ⟨f1, zs, f2, f3⟩ := h.row i' a' e
  by_cases c : i' = i
  · subst c
    rw [ha] at e
    cases e
    refine ⟨f1, _, upd_same, ?_⟩
    have : (List.range n).map (put1 M i' j x i') = ((List.range n).map (M i')).set j x := by
      rw [row_set]
      refine List.map_congr_left fun q _ => ?_
      unfold put1
      simp
    rw [this]
    exact (g3.ts tp).set (hv.ts tp) j
  · have na : a' ≠ a := fun z => c (nodup_at h.nd (z ▸ e) ha)
    refine ⟨f1, zs, (upd_ne na).trans f2, ?_⟩
    have : (List.range n).map (put1 M i j x i') = (List.range n).map (M i') := by
      refine List.map_congr_left fun q _ => ?_
      unfold put1
      simp [c]
    rw [this]
    exact f3.ts tp
theorem IsFs.ts {H H' : Hp} {x : V} {rs : List Rat} (t : Tps H H') (h : IsFs K H x rs) : IsFs K H' x rs := by
  obtain ⟨p, ys, e, h1, h2⟩ := h
  exact ⟨p, ys, e, t _ _ h1, Fs.ts t h2⟩
def IsRt (K : PySem.W.Frag) (H : Hp) (v : V) (rss : List (List Rat)) : Prop := ∃ t ys, v = .ref t ∧ H t = some (.tup ys) ∧ Paired (IsFs K H) ys rss
theorem IsRt.same {H H' : Hp} {v : V} {rss : List (List Rat)} (s : Same H H') (h : IsRt K H v rss) : IsRt K H' v rss := by
  obtain ⟨t, ys, e, h1, h2⟩ := h
  exact ⟨t, ys, e, s _ _ h1, Paired.mapP h2 fun _ _ h => h.same s⟩
theorem IsRt.dp {H : Hp} {v : V} {rss : List (List Rat)} (h : IsRt K H v rss) : Dp K H v (.tuple (rss.map fun rs => .tuple (rs.map frD))) := by
  obtain ⟨t, ys, rfl, h1, h2⟩ := h
  exact .tup (.of h1) (dps (R := IsFs K) (fun h => h.dp) h2)
theorem all_lay3 {α : Type} (f : α → PyData) (h : ∀ a, PyData.canLay0 (f a) = true ∧ PyData.depth (f a) ≤ 3) : ∀ l : List α, PyData.canLayAll0 (l.map f) = true ∧ PyData.depthAll (l.map f) ≤ 3
  | [] => ⟨rfl, by show PyData.depthAll [] ≤ 3; decide⟩
  | a :: l => by
    obtain ⟨h1, h2⟩ := all_lay3 f h l
    obtain ⟨g1, g2⟩ := h a
    refine ⟨?_, ?_⟩
    · show (PyData.canLay0 (f a) && PyData.canLayAll0 (l.map f)) = true
      rw [g1, h1]
      rfl
    · show max (PyData.depth (f a)) (PyData.depthAll (l.map f)) ≤ 3
      omega
theorem tup_refl (rs : List Rat) : PyData.eqv (.tuple (rs.map frD)) (.tuple (rs.map frD)) = true := all_refl frD frD_refl rs
theorem rt_refl (rss : List (List Rat)) : PyData.eqv (.tuple (rss.map fun rs => PyData.tuple (rs.map frD))) (.tuple (rss.map fun rs => PyData.tuple (rs.map frD))) = true := all_refl (fun rs : List Rat => PyData.tuple (rs.map frD)) tup_refl rss
theorem eqRt {H : Hp} {v u : V} {rss : List (List Rat)} {Q : VK} (h1 : IsRt K H v rss) (h2 : IsRt K H u rss) (q : Q (.bl true) H) : rEqD K v u H Q := by
  have sh : SeqAt.shaped (.tuple (rss.map fun rs => PyData.tuple (rs.map frD))) = true := by
    obtain ⟨g1, g2⟩ := all_lay3 (fun rs => PyData.tuple (rs.map frD)) (fun rs => by
      obtain ⟨f1, f2⟩ := all_lay frD (fun m => ⟨rfl, Nat.le_succ 1⟩) rs
      refine ⟨f1, ?_⟩
      show PyData.depthAll (rs.map frD) + 1 ≤ 3
      omega) rss
    unfold SeqAt.shaped
    rw [Bool.and_eq_true]
    refine ⟨g1, decide_eq_true ?_⟩
    show PyData.depthAll _ + 1 ≤ 64
    omega
  refine ⟨_, _, h1.dp, h2.dp, sh, sh, ?_⟩
  rw [rt_refl]
  exact q
theorem flat_one' {α : Type} (x : α) : ∀ n : Nat, (List.replicate n [x]).flatten = List.replicate n x
  | 0 => rfl
  | n + 1 => by rw [List.replicate_succ, List.flatten_cons, flat_one' x n, List.replicate_succ]; rfl
theorem fs_rep' {H : Hp} {x : V} {r : Rat} (h : IsF K H x r) : ∀ n : Nat, Fs K H (List.replicate n x) (List.replicate n r)
  | 0 => .nil
  | n + 1 => .cons h (fs_rep' h n)
section
variable {P : Program} {w : World} {K : PySem.W.Frag} {mg : Str → Option Value} {base : Heap} {f__wall f_is_integer f_is_row f_is_fraction f_is_amount f_is_some f_are_amounts f_added f_negated f_lessened f_multiplied f_divided f_squared f_summed f_lies_below f_is_stall f_hold_of f_stalls_of f_kept_of f_held f_roots f_check_purse f_check_wish f_may_stay f_table_of f_strike_row f_are_some f_filled_back f_in_order f_struck_in_turn f_scales f_is_scales f_l_deck f_l_pick f_l_divisor f_l_made f_l_added f_l_taken f_l_product f_l_amount f_l_stall f_l_held f_l_pulls f_l_edge f_l_deep f_l_changed f_l_are_some f_l_due f_l_is_judged f_l_word f_law f_Web_init f_Table_init f_Table_wrong_sign f_Table_behind f_Table_ties_without c_BadPurse c_BadWish c_Table c_Web c_ONE c_ZERO : Addr} {d__wall d_is_integer d_is_row d_is_fraction d_is_amount d_is_some d_are_amounts d_added d_negated d_lessened d_multiplied d_divided d_squared d_summed d_lies_below d_is_stall d_hold_of d_stalls_of d_kept_of d_held d_roots d_check_purse d_check_wish d_may_stay d_table_of d_strike_row d_are_some d_filled_back d_in_order d_struck_in_turn d_scales d_is_scales d_l_deck d_l_pick d_l_divisor d_l_made d_l_added d_l_taken d_l_product d_l_amount d_l_stall d_l_held d_l_pulls d_l_edge d_l_deep d_l_changed d_l_are_some d_l_due d_l_is_judged d_l_word d_law d_Web_init d_Table_init d_Table_wrong_sign d_Table_behind d_Table_ties_without : FuncData}
def sp_roots (K : PySem.W.Frag) (C : Addr) : Sp := fun vs H Q _ => ∃ (x : V) (n R : Nat) (ss : List Stl), vs = [x] ∧ IsWeb K C H x n ss ∧ n ≤ 8 ∧ ss.length ≤ 16 ∧ (∀ s ∈ ss, OkSt n s ∧ Bd R s.r) ∧ R ≤ 200 ∧ ∀ H' v, Same H H' → IsRt K H' v (rootsAt n ss) → Q v H'
theorem ok_roots (T : Txt K mg f__wall f_is_integer f_is_row f_is_fraction f_is_amount f_is_some f_are_amounts f_added f_negated f_lessened f_multiplied f_divided f_squared f_summed f_lies_below f_is_stall f_hold_of f_stalls_of f_kept_of f_held f_roots f_check_purse f_check_wish f_may_stay f_table_of f_strike_row f_are_some f_filled_back f_in_order f_struck_in_turn f_scales f_is_scales f_l_deck f_l_pick f_l_divisor f_l_made f_l_added f_l_taken f_l_product f_l_amount f_l_stall f_l_held f_l_pulls f_l_edge f_l_deep f_l_changed f_l_are_some f_l_due f_l_is_judged f_l_word f_law f_Web_init f_Table_init f_Table_wrong_sign f_Table_behind f_Table_ties_without c_BadPurse c_BadWish c_Table c_Web c_ONE c_ZERO d__wall d_is_integer d_is_row d_is_fraction d_is_amount d_is_some d_are_amounts d_added d_negated d_lessened d_multiplied d_divided d_squared d_summed d_lies_below d_is_stall d_hold_of d_stalls_of d_kept_of d_held d_roots d_check_purse d_check_wish d_may_stay d_table_of d_strike_row d_are_some d_filled_back d_in_order d_struck_in_turn d_scales d_is_scales d_l_deck d_l_pick d_l_divisor d_l_made d_l_added d_l_taken d_l_product d_l_amount d_l_stall d_l_held d_l_pulls d_l_edge d_l_deep d_l_changed d_l_are_some d_l_due d_l_is_judged d_l_word d_law d_Web_init d_Table_init d_Table_wrong_sign d_Table_behind d_Table_ties_without) : FnOk P w K mg base CX0 2 f_roots d_roots ["web"] (sp_roots K c_Web) := by
  have G_added : FnOk P w K mg base CX0 1 f_added d_added ["one", "other"] (sp_added K) := ok_added T
  refine T.F_roots.ok sc_roots (fun vs H Q E h => ?_) (fun cdv A outer sh H vs Q E hr h => ?_)
  · obtain ⟨x, n, R, ss, rfl, _⟩ := h
    rfl
  · obtain ⟨x, n, R, ss, rfl, ⟨p, dx, t, xs, rfl, hp, ht, hss⟩, n8, l16, hok, hR, q⟩ := h
    have hlx := hss.len
    refine ⟨_, (pss_cons (ps_setLc (i := 1) (own := [("_", 2)]) (g := gName 2) rfl sc_roots.nd rfl rfl (sw_true rfl rfl rfl (by decide +kernel)) (pi_range1 (by rfl) T.z_range (pa_cons (pe_fld (pv 0) rfl) pa_nil)) (blkOk_by (own := [("_", 2)]) (N := N_roots) (sc := defScope s_roots) (by decide +kernel)) (fun _ _ _ _ _ => (pg_name (i := 2) sc_roots.nd rfl (by first | exact Or.inl rfl | exact Or.inr rfl))) (fun _ _ _ _ _ => pts_nil) (fun _ _ _ _ _ => (pe_op op_rep (pe_lst (pa_cons (pe_glob (v := .ref c_ZERO) (by rfl) T.v_ZERO rfl) pa_nil)) (My.pe_fldK (K := K) (by rfl) (pv 0) rfl))))
      (pss_cons (ps_for PassesOwn.never rfl (pi_tup (pe_fld (pv 0) rfl)) (pg_name (i := 3) sc_roots.nd rfl (by first | exact Or.inl rfl | exact Or.inr rfl))
        (pss_cons (ps_asg (pe_slice sl_tup (pv 3) po_none (po_some pe_int)) (pg_tup rfl (pgs_cons (pg_name (i := 4) sc_roots.nd rfl (by first | exact Or.inl rfl | exact Or.inr rfl)) (pgs_cons (pg_name (i := 5) sc_roots.nd rfl (by first | exact Or.inl rfl | exact Or.inr rfl)) pgs_nil))))
          (pss_cons (ps_asg (pe_call G_added (hr.mono (by decide)) (by rfl) T.g_added T.k_added T.b_added .nil pass0 (pa_cons (pe_ix ix_list (pe_ix ix_list (pv 1) (pv 4) (fun _ _ => rfl)) (pv 5) (fun _ _ => rfl)) (pa_cons (pe_ix ix_tup (pv 3) pe_int (fun _ _ => rfl)) pa_nil))) (pg_sub (pe_ix ix_list (pv 1) (pv 4) (fun _ _ => rfl)) (pv 5) set_list))
          (pss_one (ps_asg (pe_ix ix_list (pe_ix ix_list (pv 1) (pv 4) (fun _ _ => rfl)) (pv 5) (fun _ _ => rfl)) (pg_sub (pe_ix ix_list (pv 1) (pv 5) (fun _ _ => rfl)) (pv 4) set_list))))))
      (pss_one (ps_ret (pe_callTy call_tuple_of (by rfl) T.z_tuple (by decide +kernel) (pa_cons (pe_lc (own := [("row", 6)]) (g := gName 6) rfl sc_roots.nd (pi_list (pv 1)) (blkOk_by (own := [("row", 6)]) (N := N_roots) (sc := defScope s_roots) (by decide +kernel)) (fun _ _ _ _ _ => (pg_name (i := 6) sc_roots.nd rfl (by first | exact Or.inl rfl | exact Or.inr rfl))) (fun _ _ _ _ _ => pts_nil) (fun _ _ _ _ _ => (pe_callTy (My.call_tuple_ofK (K := K) (by rfl)) (by rfl) T.z_tuple (by decide +kernel) (pa_cons (pv 6) pa_nil)))) pa_nil)))))), ?_⟩
    walk_at "r"
    refine ⟨_, _, _, _, _, rfl, hp, T.w_Web.it.cl, T.n_Web_wares, wF_wares _ _, ?_⟩
    walk_at "r"
    refine ⟨by omega, by omega, fun D nD => ?_⟩
    refine lc_range (lo := 0) (n := n) (fun i H' => Same H H' ∧ ∃ as : List Addr, H' D = some (.lst (as.map V.ref)) ∧ as.length = i ∧ as.Nodup ∧ (∀ a ∈ as, a ≠ D ∧ H' a = some (.lst (List.replicate n (V.ref c_ZERO)))) ∧ ∀ a ∈ as, H a = none) ?_ ?_ ?_
    · exact ⟨same_upd nD, [], upd_same, rfl, .nil, by simp, by simp⟩
    · rintro i H' hi ⟨s1, as, hD, hla, hnd, has, hnw⟩
      have hp1 := s1 _ _ hp
      walk_at "r"
      refine ⟨rfl, ?_⟩
      walk_at "r"
      intro l nl
      have s2 := same_upd (o := .lst [V.ref c_ZERO]) nl
      have hl : upd H' l (.lst [V.ref c_ZERO]) l = some (.lst [V.ref c_ZERO]) := upd_same
      generalize upd H' l (.lst [V.ref c_ZERO]) = H2 at *
      walk_at "r"
      refine ⟨_, _, _, _, _, rfl, s2 _ _ hp1, T.w_Web.it.cl, T.n_Web_wares, wF_wares _ _, ?_⟩
      refine ⟨l, _, _, rfl, rfl, hl, by omega, by omega, ?_, fun pr nr => ?_⟩
      · rw [sizeLine_eq]
        show 1 * n ≤ _
        omega
      rw [show ((n : Nat) : Int).toNat = n from rfl, flat_one']
      have s3 := same_upd (o := .lst (List.replicate n (V.ref c_ZERO))) nr
      have hpr : upd H2 pr (.lst (List.replicate n (V.ref c_ZERO))) pr = some (.lst (List.replicate n (V.ref c_ZERO))) := upd_same
      have prD : pr ≠ D := Ne.symm (ne_of_none (s2 _ _ hD) nr)
      have pras : pr ∉ as := fun z => by
        have := s2 _ _ (has pr z).2
        rw [nr] at this
        cases this
      have prH : H pr = none := (s1.trans s2).free nr
      generalize upd H2 pr (.lst (List.replicate n (V.ref c_ZERO))) = H3 at *
      have k3 := s2.trans s3
      refine ⟨_, k3 _ _ hD, small1000 (by rw [List.length_map]; omega), same_put nD (s1.trans k3), as ++ [pr], ?_, by simp [hla], ?_, fun a ha => ?_, fun a ha => ?_⟩
      · rw [upd_same, List.map_append]
        rfl
      · exact List.nodup_append.mpr ⟨hnd, by simp, fun a ha b hb => by
          rw [List.mem_singleton.mp hb]
          exact fun z => pras (z ▸ ha)⟩
      · rcases List.mem_append.mp ha with h | h
        · exact ⟨(has a h).1, (upd_ne (has a h).1).trans (k3 _ _ (has a h).2)⟩
        · rw [List.mem_singleton.mp h]
          exact ⟨prD, (upd_ne prD).trans hpr⟩
      · rcases List.mem_append.mp ha with h | h
        · exact hnw a h
        · rw [List.mem_singleton.mp h]
          exact prH
    rintro H1 ⟨s1, as, hD, hla, hnd, has, hnw⟩
    have m0 : Mat K n D as (fun _ _ => 0) H1 := ⟨hD, hla, hnd, fun i a e => ⟨(has a (List.mem_of_getElem? e)).1, _, (has a (List.mem_of_getElem? e)).2, by
      rw [show (List.range n).map (fun _ => (0 : Rat)) = List.replicate n 0 by rw [List.map_const', List.length_range]]
      exact fs_rep' (.c0 T.t_ZERO) n⟩⟩
    have hp1 := s1 _ _ hp
    walk_at "r"
    refine ⟨_, _, _, _, _, rfl, hp1, T.w_Web.it.cl, T.n_Web_stalls, wF_stalls _ _, ?_⟩
    walk_at "r"
    refine ⟨⟨_, .of (s1 _ _ ht)⟩, ?_⟩
    refine for_tup (K := K) (a := t) (xs := xs) (fun i σ H' => ∃ (t2 t3 t4 t5 t6 : Option V), σ = [some (.ref p), some (.ref D), t2, t3, t4, t5, t6] ∧ Same H H' ∧ Mat K n D as (rootM (ss.take i)) H') ⟨_, _, _, _, _, rfl, s1, m0⟩ ?_ ?_ ?_
    · rintro i σ H' _ ⟨t2, t3, t4, t5, t6, rfl, s2, m⟩
      exact .of (s2 _ _ ht)
    · rintro i v σ H' hx ⟨t2, t3, t4, t5, t6, rfl, s2, m⟩
      obtain ⟨s, hs, hst⟩ := hss.at hx
      have hst := hst.same s2
      obtain ⟨ps, va, vb, vr, rfl, hps, _, _, ir⟩ := id hst
      obtain ⟨oks, brs⟩ := hok s (List.mem_of_getElem? hs)
      have hu := oks.u
      have hv := oks.v
      have hil := (List.getElem?_eq_some_iff.mp hs).1
      obtain ⟨au, hau⟩ : ∃ a, as[s.u]? = some a := ⟨_, List.getElem?_eq_getElem (by omega)⟩
      obtain ⟨av, hav⟩ : ∃ a, as[s.v]? = some a := ⟨_, List.getElem?_eq_getElem (by omega)⟩
      have mau : (as.map V.ref)[s.u]? = some (V.ref au) := by rw [List.getElem?_map, hau]; rfl
      have mav : (as.map V.ref)[s.v]? = some (V.ref av) := by rw [List.getElem?_map, hav]; rfl
      walk_at "r"
      refine rd_slT hps (show ¬ (HT.sIx 5 0 none = 0 ∧ HT.sIx 5 5 (some 2) = 5) by decide) fun p1 H2 sa h2 => ?_
      have h2 : H2 p1 = some (.tup [V.int (s.u : Nat), .int (s.v : Nat)]) := h2
      have m2 := m.same sa
      obtain ⟨nu, yu, fu, ru⟩ := m2.row s.u au hau
      obtain ⟨x1, hx1, ix1⟩ := Paired.get' ru (i := s.v) (a := rootM (ss.take i) s.u s.v) (by simp [hv])
      have hps2 := sa _ _ hps
      have mb := rootM_bd (fun s hs => (hok s hs).2) i (by omega) s.u s.v
      have mbb : (R + 1) * i ≤ 201 * 16 := Nat.mul_le_mul (by omega) (by omega)
      walk_at "r"
      refine rd_ixL m2.lst (at_some mau) ?_
      walk_at "r"
      refine rd_ixL fu (at_some hx1) ?_
      walk_at "r"
      refine ⟨_, _, _, _, rfl, ix1, ir.same sa, mb.mono (by omega), brs.mono (by omega), trivial, fun H3 v3 sb hv3 => ?_⟩
      have m3 := m2.same sb
      have fu3 := sb _ _ fu
      have hly := (ru.length).trans (by simp : _ = n)
      walk_at "r"
      refine rd_ixL m3.lst (at_some mau) ?_
      walk_at "r"
      refine rd_setL fu3 (ixN_at (by omega)) ?_
      have m4 := m3.put (j := s.v) hau fu3 hv3
      have s4 : Same H (upd H3 au (.lst (yu.set s.v v3))) := same_put (hnw au (List.mem_of_getElem? hau)) ((s2.trans sa).trans sb)
      generalize upd H3 au (.lst (yu.set s.v v3)) = H4 at *
      obtain ⟨_, yu4, fu4, ru4⟩ := m4.row s.u au hau
      obtain ⟨_, yv4, fv4, rv4⟩ := m4.row s.v av hav
      obtain ⟨x4, hx4, ix4⟩ := Paired.get' ru4 (i := s.v) (a := rootM (ss.take i) s.u s.v + s.r) (by simp [hv, put1])
      have hlyv := (rv4.length).trans (by simp : _ = n)
      walk_at "r"
      refine rd_ixL m4.lst (at_some mau) ?_
      walk_at "r"
      refine rd_ixL fu4 (at_some hx4) ?_
      walk_at "r"
      refine rd_ixL m4.lst (at_some mav) ?_
      walk_at "r"
      refine rd_setL fv4 (ixN_at (by omega)) ?_
      have m5 := m4.put (j := s.u) hav fv4 ix4
      have s5 : Same H (upd H4 av (.lst (yv4.set s.u x4))) := same_put (hnw av (List.mem_of_getElem? hav)) s4
      refine ⟨_, _, _, _, _, rfl, s5, ?_⟩
      rw [rootM_take hs]
      exact m5
    · rintro σ H2 ⟨t2, t3, t4, t5, t6, rfl, s2, m⟩
      rw [hlx, List.take_length] at m
      have hlD : (as.map V.ref).length = n := by rw [List.length_map]; exact m.len
      walk_at "r"
      refine ⟨⟨_, .of m.lst⟩, fun B nB => ?_⟩
      refine lc_listP (R := IsFs K) (fun _ _ _ _ f h => h.ts f) (f := fun i => some ((List.range n).map (rootM ss i))) nB (by omega) (.of m.lst) (fun i v hx H' Q' N' s3 hy _ => ?_) fun H3 hl3 => ?_
      · rw [List.getElem?_map] at hx
        cases hai : as[i]? with
        | none =>
          rw [hai] at hx
          cases hx
        | some a =>
          rw [hai] at hx
          cases hx
          obtain ⟨_, ys, f1, f2⟩ := m.row i a hai
          walk_at "r"
          refine ⟨rfl, ?_⟩
          walk_at "r"
          refine ⟨_, _, rfl, .inl ⟨.of (s3 _ _ f1), fun l nl => ?_⟩⟩
          have sl := same_upd (o := .tup ys) nl
          exact hy _ _ _ rfl sl ⟨l, ys, rfl, upd_same, Fs.same sl (Fs.same s3 f2)⟩
      · obtain ⟨s3, ys, hB, hys⟩ := hl3
        rw [hlD, upTo_map] at hys
        walk_at "r"
        refine ⟨_, _, rfl, .inl ⟨.of hB, fun l nl => ?_⟩⟩
        have sl := same_upd (o := .tup ys) nl
        exact q _ _ ((s2.trans s3).trans sl) ⟨l, ys, rfl, upd_same, Paired.mapP hys fun _ _ h => h.same sl⟩
end
end My
namespace My
open PySem PySem.Spec PyProof.Rows L2
variable {K : PySem.W.Frag}
/-! ### the table of a web, a purse and a wish -/
def stayAt (ss : List Stl) (pu wi : List Rat) (i : Nat) : Rat := heldAt ss i + pu.getD i 0 - wi.getD i 0
def stayM (ss : List Stl) (pu wi : List Rat) : Tbl := fun i j => if i = j then stayAt ss pu wi i else -rootM ss i j
def tieS (s : Stl) (a b : Nat) : Rat := (if s.u = a ∧ s.v = b then s.r else 0) + (if s.v = a ∧ s.u = b then s.r else 0)
theorem rootM_add {ss : List Stl} (h : ∀ s ∈ ss, s.u ≠ s.v) : ∀ i, i ≤ ss.length → (∀ a b, rootM (ss.take i) a b = rootM (ss.take i) b a) ∧ ∀ a b, rootM (ss.take i) a b = sumR ((ss.take i).map fun s => tieS s a b) := by
  intro i
  induction i with
  | zero => exact fun _ => ⟨fun _ _ => rfl, fun _ _ => rfl⟩
  | succ i ih =>
    intro hi
    obtain ⟨s, hs⟩ : ∃ s, ss[i]? = some s := ⟨_, List.getElem?_eq_getElem hi⟩
    obtain ⟨i1, i2⟩ := ih (by omega)
    have hne := h s (List.mem_of_getElem? hs)
    have key : ∀ a b, rootM (ss.take (i + 1)) a b = rootM (ss.take i) a b + tieS s a b := fun a b => by
      rw [rootM_take hs]
      show rootS _ (s.u, s.v, s.r) a b = _
      unfold rootS put1 tieS
      simp only []
      by_cases c1 : a = s.v ∧ b = s.u
      · obtain ⟨rfl, rfl⟩ := c1
        rw [if_pos ⟨rfl, rfl⟩, if_neg (fun z => hne z.1), if_pos ⟨rfl, rfl⟩, i1 s.v s.u]
        grind
      · rw [if_neg c1]
        by_cases c2 : a = s.u ∧ b = s.v
        · obtain ⟨rfl, rfl⟩ := c2
          rw [if_pos ⟨rfl, rfl⟩, if_pos ⟨rfl, rfl⟩, if_neg (fun z => hne z.2)]
          grind
        · rw [if_neg c2, if_neg (fun z => c2 ⟨z.1.symm, z.2.symm⟩), if_neg (fun z => c1 ⟨z.1.symm, z.2.symm⟩)]
          grind
    refine ⟨fun a b => ?_, fun a b => ?_⟩
    · rw [key, key, i1 a b]
      unfold tieS
      have c1 : (if s.u = a ∧ s.v = b then s.r else 0) = (if s.v = b ∧ s.u = a then s.r else 0) := by
        by_cases c : s.u = a ∧ s.v = b
        · rw [if_pos c, if_pos c.symm]
        · rw [if_neg c, if_neg (fun z => c z.symm)]
      have c2 : (if s.v = a ∧ s.u = b then s.r else 0) = (if s.u = b ∧ s.v = a then s.r else 0) := by
        by_cases c : s.v = a ∧ s.u = b
        · rw [if_pos c, if_pos c.symm]
        · rw [if_neg c, if_neg (fun z => c z.symm)]
      rw [c1, c2]
      grind
    · rw [key, take_at hs, List.map_append, show [s].map (fun s => tieS s a b) = [tieS s a b] from rfl, sumR_snoc, i2]
theorem rootM_symm {ss : List Stl} (h : ∀ s ∈ ss, s.u ≠ s.v) (a b : Nat) : rootM ss a b = rootM ss b a := by
  have := (rootM_add h ss.length (Nat.le_refl _)).1 a b
  rw [List.take_length] at this
  exact this
theorem rootM_sum {ss : List Stl} (h : ∀ s ∈ ss, s.u ≠ s.v) (a b : Nat) : rootM ss a b = sumR (ss.map fun s => tieS s a b) := by
  have := (rootM_add h ss.length (Nat.le_refl _)).2 a b
  rw [List.take_length] at this
  exact this
/-- sums over a list, the first one first -/
def Sx {α : Type} (f : α → Rat) : List α → Rat
  | [] => 0
  | a :: l => f a + Sx f l
theorem foldl_Sx {α : Type} (f : α → Rat) : ∀ (l : List α) (x : Rat), (l.map f).foldl (· + ·) x = x + Sx f l
  | [], x => by
    show x = x + 0
    grind
  | a :: l, x => by
    show (l.map f).foldl (· + ·) (x + f a) = x + (f a + Sx f l)
    rw [foldl_Sx f l]
    grind
theorem sumR_Sx {α : Type} (f : α → Rat) (l : List α) : sumR (l.map f) = Sx f l := by
  unfold sumR
  rw [foldl_Sx]
  grind
theorem Sx_congr {α : Type} {f g : α → Rat} : ∀ {l : List α}, (∀ a ∈ l, f a = g a) → Sx f l = Sx g l
  | [], _ => rfl
  | a :: l, h => by
    show f a + Sx f l = g a + Sx g l
    rw [h a (List.mem_cons_self ..), Sx_congr fun b hb => h b (List.mem_cons_of_mem _ hb)]
theorem Sx_add {α : Type} (f g : α → Rat) : ∀ l : List α, Sx (fun a => f a + g a) l = Sx f l + Sx g l
  | [] => by
    show (0 : Rat) = 0 + 0
    grind
  | a :: l => by
    show f a + g a + Sx (fun a => f a + g a) l = f a + Sx f l + (g a + Sx g l)
    rw [Sx_add f g l]
    grind
theorem Sx_nonneg {α : Type} {f : α → Rat} : ∀ {l : List α}, (∀ a ∈ l, 0 ≤ f a) → 0 ≤ Sx f l
  | [], _ => Rat.le_refl
  | a :: l, h => by
    have h1 := h a (List.mem_cons_self ..)
    have h2 := Sx_nonneg (l := l) fun b hb => h b (List.mem_cons_of_mem _ hb)
    show 0 ≤ f a + Sx f l
    grind
theorem Sx_gr {α : Type} {N D : Nat} {f : α → Rat} : ∀ {l : List α}, (∀ a ∈ l, Gr N D (f a)) → Gr (l.length * N) D (Sx f l)
  | [], _ => by
    rw [List.length_nil, Nat.zero_mul]
    exact Gr.zero D
  | a :: l, h => by
    rw [List.length_cons, Nat.add_mul, Nat.one_mul, Nat.add_comm]
    exact (h a (List.mem_cons_self ..)).add (Sx_gr fun b hb => h b (List.mem_cons_of_mem _ hb))
theorem Sx_filter {α : Type} (f : α → Rat) (p : α → Bool) : ∀ l : List α, Sx f (l.filter p) = Sx (fun a => if p a = true then f a else 0) l
  | [] => rfl
  | a :: l => by
    rw [List.filter_cons]
    by_cases h : p a = true
    · rw [if_pos h]
      show f a + Sx f (l.filter p) = (if p a = true then f a else 0) + _
      rw [if_pos h, Sx_filter f p l]
    · rw [if_neg h]
      show _ = (if p a = true then f a else 0) + _
      rw [if_neg h, Sx_filter f p l]
      grind
/-- what a stall holds of a ware -/
def holdS (s : Stl) (w : Nat) : Rat := if s.at w = true then s.hold w else 0
theorem heldAt_Sx (ss : List Stl) (w : Nat) : heldAt ss w = Sx (fun s => holdS s w) ss := by
  unfold heldAt at_
  rw [sumR_Sx, Sx_filter]
  rfl
theorem tieS_nonneg {s : Stl} (h : 0 < s.r) (a b : Nat) : 0 ≤ tieS s a b := by
  unfold tieS
  split <;> split <;> grind
theorem rootM_nonneg {n : Nat} {ss : List Stl} (h : ∀ s ∈ ss, OkSt n s) (a b : Nat) : 0 ≤ rootM ss a b := by
  rw [rootM_sum fun s hs => (h s hs).ne, sumR_Sx]
  exact Sx_nonneg fun s hs => tieS_nonneg (h s hs).r a b
theorem rootM_self {n : Nat} {ss : List Stl} (h : ∀ s ∈ ss, OkSt n s) (a : Nat) : rootM ss a a = 0 := by
  rw [rootM_sum fun s hs => (h s hs).ne, sumR_Sx, Sx_congr (g := fun _ => 0 * (0 : Rat)) fun s hs => ?_]
  · have : ∀ l : List Stl, Sx (fun _ => 0 * (0 : Rat)) l = 0 := fun l => by
      induction l with
      | nil => rfl
      | cons s l ih =>
        show 0 * 0 + Sx _ l = 0
        rw [ih]
        grind
    exact this ss
  · have hne := (h s hs).ne
    unfold tieS
    rw [if_neg (fun z => hne (z.1.trans z.2.symm)), if_neg (fun z => hne (z.2.trans z.1.symm))]
    grind
theorem stayM_symm {ss : List Stl} (h : ∀ s ∈ ss, s.u ≠ s.v) (pu wi : List Rat) (i j : Nat) : stayM ss pu wi i j = stayM ss pu wi j i := by
  unfold stayM
  by_cases e : i = j
  · subst e
    rfl
  · rw [if_neg e, if_neg (Ne.symm e), rootM_symm h]
theorem stayM_op {n : Nat} {ss : List Stl} (h : ∀ s ∈ ss, OkSt n s) (pu wi : List Rat) (ls : List Nat) : OpT (stayM ss pu wi) ls := fun i _ j _ hij => by
  unfold stayM
  rw [if_neg hij]
  have := rootM_nonneg h i j
  grind
theorem IsDf.of_enum {H : Hp} {D : Addr} {ys : List V} {n : Nat} {f : Nat → Rat} (h : H D = some (.dK (mergeK [] (enumD ys)))) (hf : Fs K H ys ((List.range n).map f)) : IsDf K H D (List.range n) f := by
  have hl := hf.len
  rw [List.length_map, List.length_range] at hl
  rw [enumD_dkv, hl] at h
  refine ⟨_, h, fun j hj => ?_⟩
  obtain ⟨x, hx, ix⟩ := Paired.get' hf (i := j) (a := f j) (by rw [List.getElem?_map, List.getElem?_range (List.mem_range.mp hj)]; rfl)
  rw [List.getD_eq_getElem?_getD, hx]
  exact ix
section
variable {P : Program} {w : World} {K : PySem.W.Frag} {mg : Str → Option Value} {base : Heap} {f__wall f_is_integer f_is_row f_is_fraction f_is_amount f_is_some f_are_amounts f_added f_negated f_lessened f_multiplied f_divided f_squared f_summed f_lies_below f_is_stall f_hold_of f_stalls_of f_kept_of f_held f_roots f_check_purse f_check_wish f_may_stay f_table_of f_strike_row f_are_some f_filled_back f_in_order f_struck_in_turn f_scales f_is_scales f_l_deck f_l_pick f_l_divisor f_l_made f_l_added f_l_taken f_l_product f_l_amount f_l_stall f_l_held f_l_pulls f_l_edge f_l_deep f_l_changed f_l_are_some f_l_due f_l_is_judged f_l_word f_law f_Web_init f_Table_init f_Table_wrong_sign f_Table_behind f_Table_ties_without c_BadPurse c_BadWish c_Table c_Web c_ONE c_ZERO : Addr} {d__wall d_is_integer d_is_row d_is_fraction d_is_amount d_is_some d_are_amounts d_added d_negated d_lessened d_multiplied d_divided d_squared d_summed d_lies_below d_is_stall d_hold_of d_stalls_of d_kept_of d_held d_roots d_check_purse d_check_wish d_may_stay d_table_of d_strike_row d_are_some d_filled_back d_in_order d_struck_in_turn d_scales d_is_scales d_l_deck d_l_pick d_l_divisor d_l_made d_l_added d_l_taken d_l_product d_l_amount d_l_stall d_l_held d_l_pulls d_l_edge d_l_deep d_l_changed d_l_are_some d_l_due d_l_is_judged d_l_word d_law d_Web_init d_Table_init d_Table_wrong_sign d_Table_behind d_Table_ties_without : FuncData}
/-- a web, a purse and a wish within bounds -/
structure OkP (n : Nat) (ss : List Stl) (pu wi : List Rat) : Prop where
  n1 : 1 ≤ n
  n8 : n ≤ 8
  l16 : ss.length ≤ 16
  ok : ∀ s ∈ ss, OkSt n s ∧ BdSt 200 s
  lp : pu.length = n
  lw : wi.length = n
  p0 : ∀ r ∈ pu, 0 ≤ r
  w0 : ∀ r ∈ wi, 0 ≤ r
  pb : ∀ r ∈ pu, Bd 2000 r
  wb : ∀ r ∈ wi, Bd 2000 r
def sp_may_stay (K : PySem.W.Frag) (C : Addr) : Sp := fun vs H Q _ => ∃ (x p v : V) (n : Nat) (ss : List Stl) (pu wi : List Rat), vs = [x, p, v] ∧ IsWeb K C H x n ss ∧ IsRow K H p pu ∧ IsRow K H v wi ∧ OkP n ss pu wi ∧
  ∀ H' L ys, Same H H' → H L = none → H' L = some (.lst ys) → Fs K H' ys ((List.range n).map (stayAt ss pu wi)) → Q (.ref L) H'
theorem row_at {H : Hp} {x : V} {rs : List Rat} (h : IsRow K H x rs) {i : Nat} (hi : i < rs.length) {Q : VK} (q : ∀ v, IsF K H v (rs.getD i 0) → Q v H) : rIxA K x (.int (i : Nat)) H Q := by
  obtain ⟨L, ys, rfl, hL, hf⟩ := h
  obtain ⟨v, hv, iv⟩ := Paired.get' hf (i := i) (a := rs.getD i 0) (by rw [List.getD_eq_getElem?_getD, List.getElem?_eq_getElem hi]; rfl)
  exact rd_ixAny hL (at_some hv) (q v iv)
theorem getD_mem {rs : List Rat} {i : Nat} (hi : i < rs.length) : rs.getD i 0 ∈ rs := by
  rw [List.getD_eq_getElem?_getD, List.getElem?_eq_getElem hi]
  exact List.getElem_mem hi
theorem ok_may_stay (T : Txt K mg f__wall f_is_integer f_is_row f_is_fraction f_is_amount f_is_some f_are_amounts f_added f_negated f_lessened f_multiplied f_divided f_squared f_summed f_lies_below f_is_stall f_hold_of f_stalls_of f_kept_of f_held f_roots f_check_purse f_check_wish f_may_stay f_table_of f_strike_row f_are_some f_filled_back f_in_order f_struck_in_turn f_scales f_is_scales f_l_deck f_l_pick f_l_divisor f_l_made f_l_added f_l_taken f_l_product f_l_amount f_l_stall f_l_held f_l_pulls f_l_edge f_l_deep f_l_changed f_l_are_some f_l_due f_l_is_judged f_l_word f_law f_Web_init f_Table_init f_Table_wrong_sign f_Table_behind f_Table_ties_without c_BadPurse c_BadWish c_Table c_Web c_ONE c_ZERO d__wall d_is_integer d_is_row d_is_fraction d_is_amount d_is_some d_are_amounts d_added d_negated d_lessened d_multiplied d_divided d_squared d_summed d_lies_below d_is_stall d_hold_of d_stalls_of d_kept_of d_held d_roots d_check_purse d_check_wish d_may_stay d_table_of d_strike_row d_are_some d_filled_back d_in_order d_struck_in_turn d_scales d_is_scales d_l_deck d_l_pick d_l_divisor d_l_made d_l_added d_l_taken d_l_product d_l_amount d_l_stall d_l_held d_l_pulls d_l_edge d_l_deep d_l_changed d_l_are_some d_l_due d_l_is_judged d_l_word d_law d_Web_init d_Table_init d_Table_wrong_sign d_Table_behind d_Table_ties_without) : FnOk P w K mg base CX0 5 f_may_stay d_may_stay ["web", "purse", "wish"] (sp_may_stay K c_Web) := by
  have G_held : FnOk P w K mg base CX0 4 f_held d_held ["web"] (sp_held K c_Web) := ok_held T
  have G_added : FnOk P w K mg base CX0 1 f_added d_added ["one", "other"] (sp_added K) := ok_added T
  have G_lessened : FnOk P w K mg base CX0 2 f_lessened d_lessened ["one", "other"] (sp_lessened K) := ok_lessened T
  refine T.F_may_stay.ok sc_may_stay (fun vs H Q E h => ?_) (fun cdv A outer s H vs Q E hr h => ?_)
  · obtain ⟨x, p, v, n, ss, pu, wi, rfl, _⟩ := h
    rfl
  · obtain ⟨x, p, v, n, ss, pu, wi, rfl, hw, hp, hv, ok, q⟩ := h
    have bl : BL ss 3217 := (bl_of ok.l16 (fun s hs => (ok.ok s hs).2)).mono (by decide)
    have n8 := ok.n8
    refine ⟨_, (pss_cons (ps_set (i := 3) sc_may_stay.nd rfl (by first | exact Or.inl rfl | exact Or.inr rfl) (pe_call G_held (hr.mono (by decide)) (by rfl) T.g_held T.k_held T.b_held .nil pass0 (pa_cons (pv 0) pa_nil)))
      (pss_one (ps_ret (pe_lc (own := [("ware", 4)]) (g := gName 4) rfl sc_may_stay.nd (pi_range1 (by rfl) T.z_range (pa_cons (pe_fld (pv 0) rfl) pa_nil)) (blkOk_by (own := [("ware", 4)]) (N := N_may_stay) (sc := defScope s_may_stay) (by decide +kernel)) (fun _ _ _ _ _ => (pg_name (i := 4) sc_may_stay.nd rfl (by first | exact Or.inl rfl | exact Or.inr rfl))) (fun _ _ _ _ _ => pts_nil) (fun _ _ _ _ _ => (pe_call G_lessened (hr.mono (by decide)) (by rfl) T.g_lessened T.k_lessened T.b_lessened .nil pass0 (pa_cons (pe_call G_added (hr.mono (by decide)) (by rfl) T.g_added T.k_added T.b_added .nil pass0 (pa_cons (pe_ix (My.ix_tupK (K := K) (by rfl)) (pv 3) (pv 4) (fun _ _ => rfl)) (pa_cons (pe_ix (My.ix_anyK (K := K) (by rfl)) (pv 1) (pv 4) (fun _ _ => rfl)) pa_nil))) (pa_cons (pe_ix (My.ix_anyK (K := K) (by rfl)) (pv 2) (pv 4) (fun _ _ => rfl)) pa_nil)))))))), ?_⟩
    walk_at "r"
    refine ⟨x, n, ss, 3217, rfl, hw, ok.n8, ok.l16, bl, by decide, fun H1 st s1 hst => ?_⟩
    obtain ⟨pw, dx, t, xs, rfl, hpw, _⟩ := hw.same s1
    walk_at "r"
    refine ⟨_, _, _, _, _, rfl, hpw, T.w_Web.it.cl, T.n_Web_wares, wF_wares _ _, ?_⟩
    walk_at "r"
    refine ⟨by omega, by omega, fun D nD => ?_⟩
    refine lc_rangeP (R := IsF K) (fun _ _ _ _ f h => h.ts f) (f := fun i => some (stayAt ss pu wi i)) nD (by omega) (fun i hi H' Q' N s2 hy hn => ?_) fun H' hlst => ?_
    · have hi : i < n := hi
      rw [Int.zero_add]
      walk_at "r"
      refine ⟨rfl, ?_⟩
      obtain ⟨ts, yst, rfl, hts, hfs⟩ := hst.same s2
      obtain ⟨v1, hv1, iv1⟩ := Paired.get' hfs (i := i) (a := heldAt ss i) (by unfold heldAll; rw [List.getElem?_map, List.getElem?_range hi]; rfl)
      walk_at "r"
      refine rd_ixT hts (at_some hv1) ?_
      walk_at "r"
      refine row_at (hp.same (s1.trans s2)) (by rw [ok.lp]; exact hi) fun v2 iv2 => ?_
      have b2 := ok.pb _ (getD_mem (by rw [ok.lp]; exact hi))
      have b3 := ok.wb _ (getD_mem (by rw [ok.lw]; exact hi))
      have b1 := bl.held i
      walk_at "r"
      refine ⟨_, _, _, _, rfl, iv1, iv2, b1.mono (by decide), b2.mono (by decide), trivial, fun H3 v3 s3 h3 => ?_⟩
      have b3' : Bd 5218 (heldAt ss i + pu.getD i 0) := (b1.add b2).mono (by decide)
      walk_at "r"
      refine row_at ((hv.same (s1.trans s2)).same s3) (by rw [ok.lw]; exact hi) fun v4 iv4 => ?_
      refine ⟨_, _, _, _, rfl, h3, iv4, b3'.mono (by decide), b3.mono (by decide), trivial, fun H5 v5 s5 h5 => ?_⟩
      exact hy (stayAt ss pu wi i) _ _ rfl (s3.trans s5) h5
    · obtain ⟨s2, ys, hD, hys⟩ := hlst
      rw [show ((n : Nat) : Int).toNat = n from rfl, upTo_map] at hys
      exact q _ D ys (s1.trans s2) (s1.free nD) hD hys
def sp_table_of (K : PySem.W.Frag) (C CT : Addr) : Sp := fun vs H Q _ => ∃ (x p v : V) (n : Nat) (ss : List Stl) (pu wi : List Rat), vs = [x, p, v] ∧ IsWeb K C H x n ss ∧ IsRow K H p pu ∧ IsRow K H v wi ∧ OkP n ss pu wi ∧
  ∀ H' y, Same H H' → IsTb K CT H' y (List.range n) (stayM ss pu wi) → Q y H'
theorem ok_table_of (T : Txt K mg f__wall f_is_integer f_is_row f_is_fraction f_is_amount f_is_some f_are_amounts f_added f_negated f_lessened f_multiplied f_divided f_squared f_summed f_lies_below f_is_stall f_hold_of f_stalls_of f_kept_of f_held f_roots f_check_purse f_check_wish f_may_stay f_table_of f_strike_row f_are_some f_filled_back f_in_order f_struck_in_turn f_scales f_is_scales f_l_deck f_l_pick f_l_divisor f_l_made f_l_added f_l_taken f_l_product f_l_amount f_l_stall f_l_held f_l_pulls f_l_edge f_l_deep f_l_changed f_l_are_some f_l_due f_l_is_judged f_l_word f_law f_Web_init f_Table_init f_Table_wrong_sign f_Table_behind f_Table_ties_without c_BadPurse c_BadWish c_Table c_Web c_ONE c_ZERO d__wall d_is_integer d_is_row d_is_fraction d_is_amount d_is_some d_are_amounts d_added d_negated d_lessened d_multiplied d_divided d_squared d_summed d_lies_below d_is_stall d_hold_of d_stalls_of d_kept_of d_held d_roots d_check_purse d_check_wish d_may_stay d_table_of d_strike_row d_are_some d_filled_back d_in_order d_struck_in_turn d_scales d_is_scales d_l_deck d_l_pick d_l_divisor d_l_made d_l_added d_l_taken d_l_product d_l_amount d_l_stall d_l_held d_l_pulls d_l_edge d_l_deep d_l_changed d_l_are_some d_l_due d_l_is_judged d_l_word d_law d_Web_init d_Table_init d_Table_wrong_sign d_Table_behind d_Table_ties_without) : FnOk P w K mg base CX0 6 f_table_of d_table_of ["web", "purse", "wish"] (sp_table_of K c_Web c_Table) := by
  have G_may_stay : FnOk P w K mg base CX0 5 f_may_stay d_may_stay ["web", "purse", "wish"] (sp_may_stay K c_Web) := ok_may_stay T
  have G_roots : FnOk P w K mg base CX0 2 f_roots d_roots ["web"] (sp_roots K c_Web) := ok_roots T
  have G_Table_init : FnOk P w K mg base CX0 1 f_Table_init d_Table_init ["self", "slants", "ties"] (sp_Tinit K c_Table) := ok_Table_init T
  refine T.F_table_of.ok sc_table_of (fun vs H Q E h => ?_) (fun cdv A outer s H vs Q E hr h => ?_)
  · obtain ⟨x, p, v, n, ss, pu, wi, rfl, _⟩ := h
    rfl
  · obtain ⟨x, p, v, n, ss, pu, wi, rfl, hw, hp, hv, ok, q⟩ := h
    have n8 := ok.n8
    refine ⟨_, (pss_cons (ps_set (i := 3) sc_table_of.nd rfl (by first | exact Or.inl rfl | exact Or.inr rfl) (pe_call G_roots (hr.mono (by decide)) (by rfl) T.g_roots T.k_roots T.b_roots .nil pass0 (pa_cons (pv 0) pa_nil)))
      (pss_cons (ps_set (i := 4) sc_table_of.nd rfl (by first | exact Or.inl rfl | exact Or.inr rfl) (pe_listRg rfl (by rfl) T.z_list (prg_1 (by rfl) T.z_range (pe_fld (pv 0) rfl))))
      (pss_cons (ps_set (i := 5) sc_table_of.nd rfl (by first | exact Or.inl rfl | exact Or.inr rfl) (My.pe_dictEnum rfl (by rfl) T.z_dict (by rfl) T.z_enumerate (pe_call G_may_stay (hr.mono (by decide)) (by rfl) T.g_may_stay T.k_may_stay T.b_may_stay .nil pass0 (pa_cons (pv 0) (pa_cons (pv 1) (pa_cons (pv 2) pa_nil))))))
      (pss_cons (My.ps_setDc (i := 6) (own := [("one", 8)]) (g := gName 8) rfl sc_table_of.nd rfl rfl (My.sw_trueD rfl rfl rfl (by decide +kernel)) (pi_list (pv 4)) (blkOk_by (own := [("one", 8)]) (N := N_table_of) (sc := defScope s_table_of) (by decide +kernel)) (fun _ _ _ _ _ => (pg_name (i := 8) sc_table_of.nd rfl (by first | exact Or.inl rfl | exact Or.inr rfl))) (fun _ _ _ _ _ => pts_nil) (fun _ _ _ _ _ => (pv 8)) (fun _ _ _ _ _ => (pe_dc (own := [("other", 7)]) (g := gName 7) rfl sc_table_of.nd (My.pi_listK (K := K) (by rfl) (pv 4)) (blkOk_by (own := [("other", 7)]) (N := N_table_of) (sc := _) (by kernel_rfl)) (fun _ _ _ _ _ => (pg_name (i := 7) sc_table_of.nd rfl (by first | exact Or.inl rfl | exact Or.inr rfl))) (fun _ _ _ _ _ => (pts_one (pt_cmpR (My.op_neDK (K := K) (by rfl) hr.units) (pe_ix (My.ix_tupK (K := K) (by rfl)) (pe_ix (My.ix_tupK (K := K) (by rfl)) (pv 3) (pv 8) (fun _ _ => rfl)) (pv 7) (fun _ _ => rfl)) (pe_glob (v := .ref c_ZERO) (by rfl) T.v_ZERO rfl) (nomark _)))) (fun _ _ _ _ _ => (pv 7)) (fun _ _ _ _ _ => (pe_ix (My.ix_tupK (K := K) (by rfl)) (pe_ix (My.ix_tupK (K := K) (by rfl)) (pv 3) (pv 8) (fun _ _ => rfl)) (pv 7) (fun _ _ => rfl))))))
      (pss_one (ps_ret (pe_make T.w_Table.mks G_Table_init (hr.mono (by decide)) (by rfl) T.w_Table.g T.b_Table_init .nil pass0 (pa_cons (pv 5) (pa_cons (pv 6) pa_nil))))))))), ?_⟩
    walk_at "r"
    refine ⟨x, n, 200, ss, rfl, hw, ok.n8, ok.l16, fun s hs => ⟨(ok.ok s hs).1, (ok.ok s hs).2.r⟩, by decide, fun H1 rt s1 hrt => ?_⟩
    obtain ⟨pw, dx, t, xs, rfl, hpw, _⟩ := id hw
    walk_at "r"
    refine ⟨_, _, _, _, _, rfl, s1 _ _ hpw, T.w_Web.it.cl, T.n_Web_wares, wF_wares _ _, ?_⟩
    refine ⟨n, rfl, .of_le (by decide) (by omega) (by decide) (by omega), fun W nW => ?_⟩
    rw [nvT_range]
    have s2 := same_upd (o := .lst (nvT (List.range n))) nW
    have hW : upd H1 W (.lst (nvT (List.range n))) W = some (.lst (nvT (List.range n))) := upd_same
    generalize upd H1 W (.lst (nvT (List.range n))) = H2 at *
    have k2 := s1.trans s2
    walk_at "r"
    refine ⟨_, p, v, n, ss, pu, wi, rfl, hw.same k2, hp.same k2, hv.same k2, ok, fun H3 L ys s3 nL hL hys => ?_⟩
    refine ⟨L, ys, rfl, .of hL, fun S nS => ?_⟩
    have s4 := same_upd (o := .dK (mergeK [] (enumD ys))) nS
    have hS : upd H3 S (.dK (mergeK [] (enumD ys))) S = some (.dK (mergeK [] (enumD ys))) := upd_same
    generalize upd H3 S (.dK (mergeK [] (enumD ys))) = H4 at *
    have dS : IsDf K H4 S (List.range n) (fun i => stayM ss pu wi i i) := (IsDf.of_enum hS (hys.same s4)).congr fun j _ => by
      unfold stayM
      rw [if_pos rfl]
    have k4 := (k2.trans s3).trans s4
    have hW4 := s4 _ _ (s3 _ _ hW)
    have hrt4 := ((hrt.same s2).same s3).same s4
    clear hS hys hL nS s4 nL s3 nW s2 k2 hrt hW
    walk_at "r"
    refine ⟨⟨_, .of hW4⟩, fun Td nT => ?_⟩
    have lW : (nvT (List.range n)).length = n := by simp [nvT]
    have atW : ∀ {i : Nat} {v : V}, (nvT (List.range n))[i]? = some v → i < n ∧ v = .int (i : Nat) := fun {i v} h => by
      have hi := (List.getElem?_eq_some_iff.mp h).1
      rw [lW] at hi
      unfold nvT at h
      rw [List.getElem?_map, List.getElem?_range hi] at h
      exact ⟨hi, (Option.some.inj h).symm⟩
    have rng : ∀ i, i < n → List.range (i + 1) = List.range i ++ [i] := fun i _ => List.range_succ
    have self0 := rootM_self fun s hs => (ok.ok s hs).1
    refine dc_listO (K := K) (a := W) (xs := nvT (List.range n)) (fun i H' => Same H4 H' ∧ ∃ g : Nat → V, H' Td = some (.dK (dkv (List.range i) g)) ∧ ∀ j ∈ List.range i, ∃ D, D ≠ Td ∧ g j = .ref D ∧ TieR K H' D (List.range n) j (stayM ss pu wi j)) ?_ ?_ ?_ ?_
    · exact ⟨same_upd nT, fun _ => .non, upd_same, by simp⟩
    · rintro i H' ⟨s5, _⟩
      exact .of (s5 _ _ hW4)
    · rintro i vx H' hx ⟨s5, g, hT, hg⟩
      obtain ⟨hi, rfl⟩ := atW hx
      walk_at "r"
      refine ⟨rfl, ?_⟩
      walk_at "r"
      refine ⟨⟨_, .of (s5 _ _ hW4)⟩, fun D nD => ?_⟩
      have nDT : D ≠ Td := fun e => by
        rw [e, hT] at nD
        cases nD
      refine dc_listO (K := K) (a := W) (xs := nvT (List.range n)) (fun m H2 => Same H' H2 ∧ ∃ gd : Nat → V, H2 D = some (.dK (dkv ((List.range m).filter fun j => decide (rootM ss i j ≠ 0)) gd)) ∧ ∀ j ∈ (List.range m).filter (fun j => decide (rootM ss i j ≠ 0)), IsF K H2 (gd j) (rootM ss i j)) ?_ ?_ ?_ ?_
      · exact ⟨same_upd nD, fun _ => .non, upd_same, by simp⟩
      · rintro m H2 ⟨s6, _⟩
        exact .of (s6 _ _ (s5 _ _ hW4))
      · rintro m vy H2 hy ⟨s6, gd, hD, hgd⟩
        obtain ⟨hm, rfl⟩ := atW hy
        obtain ⟨tr, yr, rfl, htr, hpr⟩ := (hrt4.same s5).same s6
        obtain ⟨vr, hvr, tq, yq, rfl, htq, hpq⟩ := Paired.get' hpr (i := i) (a := (List.range n).map (rootM ss i)) (by unfold rootsAt; rw [List.getElem?_map, List.getElem?_range hi]; rfl)
        obtain ⟨vf, hvf, ivf⟩ := Paired.get' hpq (i := m) (a := rootM ss i m) (by rw [List.getElem?_map, List.getElem?_range hm]; rfl)
        walk_at "r"
        refine ⟨rfl, ?_⟩
        walk_at "r"
        refine rd_ixT htr (at_some hvr) ?_
        walk_at "r"
        refine rd_ixT htq (at_some hvf) ?_
        walk_at "r"
        refine neF (K := K) ivf (c0F T.t_ZERO) ?_
        have ef : (List.range (m + 1)).filter (fun j => decide (rootM ss i j ≠ 0)) = (List.range m).filter (fun j => decide (rootM ss i j ≠ 0)) ++ (if rootM ss i m ≠ 0 then [m] else []) := by
          rw [rng m hm, List.filter_append]
          congr 1
          by_cases c : rootM ss i m = 0
          · simp [c]
          · simp [c]
        by_cases c : rootM ss i m = 0
        · rw [decide_eq_true c]
          refine ⟨_, rfl, ?_⟩
          walk_at "r"
          rw [ef, if_neg (by simp [c]), List.append_nil]
          exact ⟨s6, gd, hD, hgd⟩
        · rw [decide_eq_false c]
          refine ⟨_, rfl, ?_⟩
          walk_at "r"
          refine rd_ixT htr (at_some hvr) ?_
          walk_at "r"
          refine rd_ixT htq (at_some hvf) ?_
          have nm : ¬ m ∈ (List.range m).filter (fun j => decide (rootM ss i j ≠ 0)) := fun z => by
            have := List.mem_range.mp (List.mem_filter.mp z).1
            omega
          refine ⟨_, ky m, rfl, hD, small_dkv (Nat.le_trans (List.length_filter_le _ _) (by rw [List.length_range]; omega)), ?_⟩
          rw [putK_add nm, ef, if_pos c]
          have tp : Tps H2 (upd H2 D (.dK (dkv ((List.range m).filter (fun j => decide (rootM ss i j ≠ 0)) ++ [m]) (putG gd m vf)))) := tps_putD (H1 := H2) hD
          refine ⟨same_put nD s6, _, upd_same, fun j hj => ?_⟩
          rcases List.mem_append.mp hj with z | z
          · have jm : j ≠ m := fun e => nm (e ▸ z)
            rw [putG_ne jm]
            exact (hgd j z).ts tp
          · rw [List.mem_singleton.mp z, putG_same]
            exact ivf.ts tp
      · rintro H2 ⟨s6, gd, hD, hgd⟩
        rw [lW] at hD hgd
        have hT2 := s6 _ _ hT
        have ni : ¬ i ∈ List.range i := by simp
        refine ⟨_, ky i, rfl, hT2, small_dkv (by rw [List.length_range]; omega), ?_⟩
        rw [putK_add ni, rng i hi]
        have tp : Tps H2 (upd H2 Td (.dK (dkv (List.range i ++ [i]) (putG g i (.ref D))))) := tps_putD (H1 := H2) hT2
        refine ⟨same_put nT (s5.trans s6), _, upd_same, fun j hj => ?_⟩
        rcases List.mem_append.mp hj with z | z
        · have ji : j ≠ i := fun e => ni (e ▸ z)
          rw [putG_ne ji]
          obtain ⟨Dj, d1, d2, d3⟩ := hg j z
          exact ⟨Dj, d1, d2, (d3.same s6).off hT2 d1⟩
        · rw [List.mem_singleton.mp z, putG_same]
          refine ⟨D, nDT, rfl, _, ⟨gd, (upd_ne nDT).trans hD, fun q hq => ?_⟩, List.nodup_range.filter _, fun q => ?_⟩
          · have qi : q ≠ i := fun e => by
              have := (List.mem_filter.mp hq).2
              rw [e, self0] at this
              simp at this
            have e : -stayM ss pu wi i q = rootM ss i q := by
              unfold stayM
              rw [if_neg (Ne.symm qi)]
              grind
            show IsF K _ (gd q) (-stayM ss pu wi i q)
            rw [e]
            exact (hgd q hq).ts tp
          · rw [List.mem_filter]
            by_cases qi : q = i
            · subst qi
              rw [self0]
              simp
            · have e : stayM ss pu wi i q = -rootM ss i q := by
                unfold stayM
                rw [if_neg (Ne.symm qi)]
              rw [e]
              constructor
              · rintro ⟨h1, h2⟩
                refine ⟨h1, qi, fun z => ?_⟩
                have : rootM ss i q = 0 := by grind
                rw [this] at h2
                simp at h2
              · rintro ⟨h1, _, h3⟩
                refine ⟨h1, decide_eq_true fun z => h3 ?_⟩
                rw [z]
                grind
    · rintro H5 ⟨s5, g, hT, hg⟩
      rw [lW] at hT hg
      walk_at "r"
      intro y dy ny ndy ne
      refine ⟨y, dy, S, Td, rfl, upd_same, fun H7 h7 k7 => ⟨rfl, ?_⟩⟩
      have s7 : Same H5 H7 := Same.made ny ndy fun b o h n => (k7 b n).trans h
      refine q _ _ ((k4.trans s5).trans s7) ⟨y, dy, S, Td, g, rfl, h7, dS.same (s5.trans s7), s7 _ _ hT, fun i hi => ?_⟩
      obtain ⟨D, _, d2, d3⟩ := hg i hi
      exact ⟨D, d2, d3.same s7⟩
end
end My
namespace My
open PySem PySem.Spec PyProof.Rows L2
variable {K : PySem.W.Frag}
/-! ### a row of strikes -/
def IsStp (K : PySem.W.Frag) (H : Hp) (v : V) (s : Stp) : Prop := ∃ q vs D, v = .ref q ∧ H q = some (.tup [.int (s.1 : Nat), vs, .ref D]) ∧ IsF K H vs (s.2.1 s.1 s.1) ∧ TieR K H D s.2.2 s.1 (s.2.1 s.1)
theorem IsStp.same {H H' : Hp} {v : V} {s : Stp} (f : Same H H') (h : IsStp K H v s) : IsStp K H' v s := by
  obtain ⟨q, vs, D, e, h1, h2, h3⟩ := h
  exact ⟨q, vs, D, e, f _ _ h1, h2.same f, h3.same f⟩
theorem steps_same {H H' : Hp} {xs : List V} {st : List Stp} (f : Same H H') (h : Paired (IsStp K H) xs st) : Paired (IsStp K H') xs st := Paired.mapP h fun _ _ h => h.same f
def wV : Option Nat → V
  | none => .non
  | some k => .int (k : Nat)
theorem IsTb.put {C : Addr} {H : Hp} {x : V} {ls : List Nat} {M : Tbl} {L : Addr} {o : HO} {ys : List V} (hL : H L = some (.lst ys)) (h : IsTb K C H x ls M) : IsTb K C (upd H L o) x ls M := by
  have t : Tps H (upd H L o) := tps_put (H1 := H) hL
  have nd : ∀ {a : Addr} {u : HO}, H a = some u → (∀ zs, u ≠ .lst zs) → a ≠ L := fun ha hn e => by
    rw [e, hL] at ha
    exact hn _ (Option.some.inj ha).symm
  obtain ⟨p, dx, S, T, g2, e, h1, ⟨g, h2, h2'⟩, h3, h4⟩ := h
  refine ⟨p, dx, S, T, g2, e, (upd_ne (nd h1 (by simp))).trans h1, ⟨g, (upd_ne (nd h2 (by simp))).trans h2, fun j hj => (h2' j hj).ts t⟩, (upd_ne (nd h3 (by simp))).trans h3, fun i hi => ?_⟩
  obtain ⟨D, d1, js, ⟨gj, d2, d3⟩, d4⟩ := h4 i hi
  exact ⟨D, d1, js, ⟨gj, (upd_ne (nd d2 (by simp))).trans d2, fun j hj => (d3 j hj).ts t⟩, d4⟩
theorem TieR.putL {H : Hp} {D L : Addr} {ls : List Nat} {i : Nat} {f : Nat → Rat} {o : HO} {ys : List V} (hL : H L = some (.lst ys)) (h : TieR K H D ls i f) : TieR K (upd H L o) D ls i f := by
  have t : Tps H (upd H L o) := tps_put (H1 := H) hL
  obtain ⟨js, ⟨gj, d2, d3⟩, d4⟩ := h
  refine ⟨js, ⟨gj, (upd_ne fun e => ?_).trans d2, fun j hj => (d3 j hj).ts t⟩, d4⟩
  rw [e, hL] at d2
  cases d2
theorem steps_put {H : Hp} {L : Addr} {o : HO} {ys xs : List V} {st : List Stp} (hL : H L = some (.lst ys)) (h : Paired (IsStp K H) xs st) : Paired (IsStp K (upd H L o)) xs st := Paired.mapP h fun _ _ ⟨q, vs, D, e, h1, h2, h3⟩ => by
  have t : Tps H (upd H L o) := tps_put (H1 := H) hL
  exact ⟨q, vs, D, e, t _ _ h1, h2.ts t, h3.putL hL⟩
section
variable {P : Program} {w : World} {K : PySem.W.Frag} {mg : Str → Option Value} {base : Heap} {f__wall f_is_integer f_is_row f_is_fraction f_is_amount f_is_some f_are_amounts f_added f_negated f_lessened f_multiplied f_divided f_squared f_summed f_lies_below f_is_stall f_hold_of f_stalls_of f_kept_of f_held f_roots f_check_purse f_check_wish f_may_stay f_table_of f_strike_row f_are_some f_filled_back f_in_order f_struck_in_turn f_scales f_is_scales f_l_deck f_l_pick f_l_divisor f_l_made f_l_added f_l_taken f_l_product f_l_amount f_l_stall f_l_held f_l_pulls f_l_edge f_l_deep f_l_changed f_l_are_some f_l_due f_l_is_judged f_l_word f_law f_Web_init f_Table_init f_Table_wrong_sign f_Table_behind f_Table_ties_without c_BadPurse c_BadWish c_Table c_Web c_ONE c_ZERO : Addr} {d__wall d_is_integer d_is_row d_is_fraction d_is_amount d_is_some d_are_amounts d_added d_negated d_lessened d_multiplied d_divided d_squared d_summed d_lies_below d_is_stall d_hold_of d_stalls_of d_kept_of d_held d_roots d_check_purse d_check_wish d_may_stay d_table_of d_strike_row d_are_some d_filled_back d_in_order d_struck_in_turn d_scales d_is_scales d_l_deck d_l_pick d_l_divisor d_l_made d_l_added d_l_taken d_l_product d_l_amount d_l_stall d_l_held d_l_pulls d_l_edge d_l_deep d_l_changed d_l_are_some d_l_due d_l_is_judged d_l_word d_law d_Web_init d_Table_init d_Table_wrong_sign d_Table_behind d_Table_ties_without : FuncData}
def sp_strike_row (K : PySem.W.Frag) (C : Addr) : Sp := fun vs H Q _ => ∃ (x : V) (o : Addr) (b : Nat) (ls os : List Nat) (M : Tbl), vs = [x, .ref o] ∧ IsTb K C H x ls M ∧ Sq K H o (nvT os) ∧ Odr M ls os ∧ ls.length ≤ 8 ∧ (∀ s ∈ runS M ls os, CD b s.2.1 s.2.2) ∧ b ≤ 2111 ∧
  ∀ H' p L xs y, Same H H' → H' p = some (.tup [.ref L, y, wV (endW M ls os)]) → H L = none → H' L = some (.lst xs) → Paired (IsStp K H') xs (runS M ls os) → IsTb K C H' y (endL M ls os) (endM M ls os) → Q (.ref p) H'
theorem ok_strike_row (T : Txt K mg f__wall f_is_integer f_is_row f_is_fraction f_is_amount f_is_some f_are_amounts f_added f_negated f_lessened f_multiplied f_divided f_squared f_summed f_lies_below f_is_stall f_hold_of f_stalls_of f_kept_of f_held f_roots f_check_purse f_check_wish f_may_stay f_table_of f_strike_row f_are_some f_filled_back f_in_order f_struck_in_turn f_scales f_is_scales f_l_deck f_l_pick f_l_divisor f_l_made f_l_added f_l_taken f_l_product f_l_amount f_l_stall f_l_held f_l_pulls f_l_edge f_l_deep f_l_changed f_l_are_some f_l_due f_l_is_judged f_l_word f_law f_Web_init f_Table_init f_Table_wrong_sign f_Table_behind f_Table_ties_without c_BadPurse c_BadWish c_Table c_Web c_ONE c_ZERO d__wall d_is_integer d_is_row d_is_fraction d_is_amount d_is_some d_are_amounts d_added d_negated d_lessened d_multiplied d_divided d_squared d_summed d_lies_below d_is_stall d_hold_of d_stalls_of d_kept_of d_held d_roots d_check_purse d_check_wish d_may_stay d_table_of d_strike_row d_are_some d_filled_back d_in_order d_struck_in_turn d_scales d_is_scales d_l_deck d_l_pick d_l_divisor d_l_made d_l_added d_l_taken d_l_product d_l_amount d_l_stall d_l_held d_l_pulls d_l_edge d_l_deep d_l_changed d_l_are_some d_l_due d_l_is_judged d_l_word d_law d_Web_init d_Table_init d_Table_wrong_sign d_Table_behind d_Table_ties_without) : FnOk P w K mg base CX0 4 f_strike_row d_strike_row ["table", "order"] (sp_strike_row K c_Table) := by
  have G_Table_wrong_sign : FnOk P w K mg base CX0 1 f_Table_wrong_sign d_Table_wrong_sign ["self", "ware"] (sp_wsign K c_Table) := ok_Table_wrong_sign T
  have G_Table_behind : FnOk P w K mg base CX0 3 f_Table_behind d_Table_behind ["self", "ware"] (sp_behindT K c_Table) := ok_Table_behind T
  refine T.F_strike_row.ok sc_strike_row (fun vs H Q E h => ?_) (fun cdv A outer s H vs Q E hr h => ?_)
  · obtain ⟨x, o, b, ls, os, M, rfl, _⟩ := h
    rfl
  · obtain ⟨x, o, b, ls, os, M, rfl, hx, ho, od, l8, cd, hb, q⟩ := h
    have los : os.length ≤ 8 := Nat.le_trans (List.Nodup.length_le_of_subset od.on fun k hk => od.il k hk) l8
    have lnv : (nvT os).length = os.length := by simp [nvT]
    refine ⟨_, (pss_cons (ps_set (i := 2) sc_strike_row.nd rfl (by first | exact Or.inl rfl | exact Or.inr rfl) (pe_lst pa_nil))
      (pss_cons (ps_for PassesOwn.never rfl (My.pi_seqA (pv 1)) (pg_name (i := 3) sc_strike_row.nd rfl (by first | exact Or.inl rfl | exact Or.inr rfl))
        (pss_cons (ps_if (pt_val (pe_meth (pv 0) T.w_Table.it.cl ⟨T.i_Table_wrong_sign, T.fn_Table_wrong_sign, T.k_Table_wrong_sign⟩ G_Table_wrong_sign (hr.mono (by decide)) T.b_Table_wrong_sign .nil pass0 (pa_cons (pv 3) pa_nil)))
            (pss_one (ps_ret (pe_tup (pa_cons (pv 2) (pa_cons (pv 0) (pa_cons (pv 3) pa_nil))))))
            pss_nil)
          (pss_cons (ps_expr (pe_bm PySem.F.plainAttrs_list PySem.F.slot_list_append PySem.F.type_list_append mt_append (pv 2) (pa_cons (pe_tup (pa_cons (pv 3) (pa_cons (pe_dget (My.room1 hr) (pe_fld (pv 0) rfl) (pv 3) (fun _ _ => rfl)) (pa_cons (pe_dget (My.room1 hr) (pe_fld (pv 0) rfl) (pv 3) (fun _ _ => rfl)) pa_nil)))) pa_nil)))
          (pss_one (ps_set (i := 0) sc_strike_row.nd rfl (by first | exact Or.inl rfl | exact Or.inr rfl) (pe_meth (pv 0) T.w_Table.it.cl ⟨T.i_Table_behind, T.fn_Table_behind, T.k_Table_behind⟩ G_Table_behind (hr.mono (by decide)) T.b_Table_behind .nil pass0 (pa_cons (pv 3) pa_nil)))))))
      (pss_one (ps_ret (pe_tup (pa_cons (pv 2) (pa_cons (pv 0) (pa_cons pe_non pa_nil)))))))), ?_⟩
    walk_at "r"
    intro L nL
    have s1 := same_upd (o := .lst ([] : List V)) nL
    have hL0 : upd H L (.lst []) L = some (.lst []) := upd_same
    generalize upd H L (.lst []) = H1 at *
    walk_at "r"
    refine rd_seqA ?_
    walk_at "r"
    refine for_seqA (H0 := H) (xs := nvT os) (fun i σ H' => ∃ (y : V) (t3 : Option V) (xs : List V) (st : List Stp) (M' : Tbl) (ls' : List Nat), σ = [some y, some (.ref o), some (.ref L), t3] ∧ Same H H' ∧ H' L = some (.lst xs) ∧ Paired (IsStp K H') xs st ∧ st.length = i ∧ IsTb K c_Table H' y ls' M' ∧
      Odr M' ls' (os.drop i) ∧ ls'.length ≤ 8 ∧ runS M ls os = st ++ runS M' ls' (os.drop i) ∧ endM M ls os = endM M' ls' (os.drop i) ∧ endL M ls os = endL M' ls' (os.drop i) ∧ endW M ls os = endW M' ls' (os.drop i)) ho ?_ ?_ ?_ ?_ rfl
    · exact ⟨x, none, [], [], M, ls, rfl, s1, hL0, .nil, rfl, hx.same s1, od, l8, rfl, rfl, rfl, rfl⟩
    · rintro i σ H' ⟨y, t3, xs, st, M', ls', rfl, s2, _⟩
      exact s2
    · rintro i vk σ H' hv ⟨y, t3, xs, st, M', ls', rfl, s2, hL, hst, lst, hy, od', l8', e1, e2, e3, e4⟩
      obtain ⟨k, hk, rfl⟩ : ∃ k, os[i]? = some k ∧ vk = .int (k : Nat) := by
        unfold nvT at hv
        rw [List.getElem?_map] at hv
        cases e : os[i]? with
        | none =>
          rw [e] at hv
          cases hv
        | some k =>
          rw [e] at hv
          exact ⟨k, rfl, (Option.some.inj hv).symm⟩
      have hil := (List.getElem?_eq_some_iff.mp hk).1
      have ed : os.drop i = k :: os.drop (i + 1) := drop_at hk
      rw [ed] at od' e1 e2 e3 e4
      have kin := od'.hd
      obtain ⟨py, dy, S, Ta, g2, rfl, hpy, ⟨gS, hS, fS⟩, hT, hrow⟩ := id hy
      walk_at "r"
      refine ⟨py, dy, _, rfl, hpy, tF_no (m := "wrong_sign") (by decide +kernel) (by decide +kernel), ?_⟩
      walk_at "r"
      refine ⟨_, k, ls', M', rfl, hy, kin, ?_⟩
      by_cases hw : wrong M' ls' k
      · rw [decide_eq_true hw]
        walk_at "r"
        intro p np
        have s3 := same_upd (o := .tup [V.ref L, .ref py, .int (k : Nat)]) np
        obtain ⟨r1, r2, r3, r4⟩ := runS_pos (o := os.drop (i + 1)) hw
        rw [r1, List.append_nil] at e1
        rw [r2] at e2
        rw [r3] at e3
        rw [r4] at e4
        refine q _ p L xs (.ref py) (s2.trans s3) ?_ nL (s3 _ _ hL) ?_ ?_
        · rw [e4]
          exact upd_same
        · rw [e1]
          exact steps_same s3 hst
        · rw [e2, e3]
          exact hy.same s3
      · rw [decide_eq_false hw]
        obtain ⟨r1, r2, r3, r4⟩ := runS_neg (o := os.drop (i + 1)) hw
        have cdk : CD b M' ls' := cd (k, M', ls') (by rw [e1, r1]; simp)
        obtain ⟨Dk, eD, tD⟩ := hrow k kin
        walk_at "r"
        refine ⟨Or.inl ⟨rfl, _, Or.inl (Or.inl hL)⟩, ?_⟩
        walk_at "r"
        refine ⟨_, _, _, _, _, rfl, hpy, T.w_Table.it.cl, T.n_Table_slants, tF_slants _ _, ?_⟩
        walk_at "r"
        refine ⟨S, _, rfl, dget hS kin, ?_⟩
        walk_at "r"
        refine ⟨_, _, _, _, _, rfl, hpy, T.w_Table.it.cl, T.n_Table_ties, tF_ties _ _, ?_⟩
        walk_at "r"
        refine ⟨Ta, _, rfl, dget hT kin, ?_⟩
        walk_at "r"
        intro tp ntp
        have s3 := same_upd (o := .tup [V.int (k : Nat), gS k, g2 k]) ntp
        have htp : upd H' tp (.tup [V.int (k : Nat), gS k, g2 k]) tp = some (.tup [V.int (k : Nat), gS k, g2 k]) := upd_same
        generalize upd H' tp (.tup [V.int (k : Nat), gS k, g2 k]) = H3 at *
        have hL3 := s3 _ _ hL
        have hlx := Paired.length hst
        refine ⟨L, xs, .ref tp, rfl, rfl, hL3, small1000 (by omega), ?_⟩
        have stp : IsStp K H3 (.ref tp) (k, M', ls') := ⟨tp, gS k, Dk, rfl, by rw [eD] at htp; exact htp, (fS k kin).same s3, tD.same s3⟩
        have hst4 : Paired (IsStp K (upd H3 L (.lst (xs ++ [V.ref tp])))) (xs ++ [V.ref tp]) (st ++ [(k, M', ls')]) := steps_put hL3 (Paired.snoc (steps_same s3 hst) stp)
        have hy4 : IsTb K c_Table (upd H3 L (.lst (xs ++ [V.ref tp]))) (.ref py) ls' M' := (hy.same s3).put hL3
        have s4 : Same H (upd H3 L (.lst (xs ++ [V.ref tp]))) := same_put nL (s2.trans s3)
        have hL4 : upd H3 L (.lst (xs ++ [V.ref tp])) L = some (.lst (xs ++ [V.ref tp])) := upd_same
        clear hL3 stp htp
        generalize upd H3 L (.lst (xs ++ [V.ref tp])) = H4 at *
        obtain ⟨py', dy', S', T', g2', e', hpy', _⟩ := id hy4
        cases e'
        walk_at "r"
        refine ⟨py, dy', _, rfl, hpy', tF_no (m := "behind") (by decide +kernel) (by decide +kernel), ?_⟩
        walk_at "r"
        refine ⟨_, k, b, ls', M', rfl, hy4, kin, od'.sy, od'.op, od'.nd, l8', hw, cdk, hb, fun H5 y5 s5 hy5 => ?_⟩
        walk_at "r"
        refine ⟨y5, _, xs ++ [.ref tp], st ++ [(k, M', ls')], strike M' k, ls'.erase k, rfl, s4.trans s5, s5 _ _ hL4, steps_same s5 hst4, by simp [lst], hy5, od'.tl hw, Nat.le_trans (List.length_erase_le ..) l8', ?_, ?_, ?_, ?_⟩
        · rw [e1, r1]
          simp
        · rw [e2, r2]
        · rw [e3, r3]
        · rw [e4, r4]
    · rintro σ H' ⟨y, t3, xs, st, M', ls', rfl, s2, hL, hst, lst, hy, od', l8', e1, e2, e3, e4⟩
      rw [lnv, List.drop_length] at od' e1 e2 e3 e4
      walk_at "r"
      intro p np
      have s3 := same_upd (o := .tup [V.ref L, y, .non]) np
      have e1 : runS M ls os = st := by rw [e1]; exact List.append_nil _
      refine q _ p L xs y (s2.trans s3) ?_ nL (s3 _ _ hL) ?_ ?_
      · rw [e4]
        exact upd_same
      · rw [e1]
        exact steps_same s3 hst
      · rw [e2, e3]
        exact hy.same s3
end
end My
namespace My
open PySem PySem.Spec PyProof.Rows L2
variable {K : PySem.W.Frag}
/-! ### amounts filled back -/
theorem runS_nil {M : Tbl} {ls o : List Nat} (h : runS M ls o = []) : endL M ls o = ls ∧ endM M ls o = M := by
  cases o with
  | nil => exact ⟨rfl, rfl⟩
  | cons k o =>
    by_cases hw : wrong M ls k
    · obtain ⟨_, e2, e3, _⟩ := runS_pos (o := o) hw
      exact ⟨e3, e2⟩
    · rw [(runS_neg (o := o) hw).1] at h
      cases h
theorem runS_cons {M : Tbl} {ls o : List Nat} {s : Stp} {t : List Stp} (h : runS M ls o = s :: t) : ∃ o', o = s.1 :: o' ∧ s.2.1 = M ∧ s.2.2 = ls ∧ ¬ wrong M ls s.1 ∧ t = runS (strike M s.1) (ls.erase s.1) o' := by
  cases o with
  | nil => cases h
  | cons k o =>
    by_cases hw : wrong M ls k
    · rw [(runS_pos (o := o) hw).1] at h
      cases h
    · rw [(runS_neg (o := o) hw).1] at h
      injection h with h1 h2
      subst h1
      exact ⟨o, rfl, rfl, rfl, hw, h2.symm⟩
theorem run_at : ∀ (i : Nat) {M : Tbl} {ls os : List Nat} {s : Stp}, Odr M ls os → (runS M ls os)[i]? = some s → ∃ o', Odr s.2.1 s.2.2 (s.1 :: o') ∧ ¬ wrong s.2.1 s.2.2 s.1 ∧
    (runS M ls os).drop (i + 1) = runS (strike s.2.1 s.1) (s.2.2.erase s.1) o' ∧ endL (strike s.2.1 s.1) (s.2.2.erase s.1) o' = endL M ls os ∧ s.2.2.length ≤ ls.length
  | i, M, ls, os, s, h, hi => by
    cases e : runS M ls os with
    | nil =>
      rw [e] at hi
      cases hi
    | cons s0 t =>
      obtain ⟨o', rfl, e1, e2, hw, e3⟩ := runS_cons e
      rw [e] at hi
      have n := runS_neg (o := o') hw
      cases i with
      | zero =>
        have : s0 = s := Option.some.inj hi
        subst this
        rw [e1, e2]
        exact ⟨o', h, hw, e3, n.2.2.1.symm, Nat.le_refl _⟩
      | succ i =>
        have hi : t[i]? = some s := hi
        rw [e3] at hi
        obtain ⟨o2, a1, a2, a3, a4, a5⟩ := run_at i (h.tl hw) hi
        refine ⟨o2, a1, a2, ?_, a4.trans n.2.2.1.symm, Nat.le_trans a5 (List.length_erase_le ..)⟩
        rw [← a3, ← e3]
        rfl
/-- whose amounts are known once these steps are filled back -/
def kAt (st : List Stp) (le : List Nat) : List Nat := match st with
  | [] => le
  | s :: _ => s.2.2
theorem kAt_run {M : Tbl} {ls o : List Nat} : kAt (runS M ls o) (endL M ls o) = ls := by
  cases e : runS M ls o with
  | nil => exact (runS_nil e).1
  | cons s t =>
    obtain ⟨_, _, _, h, _⟩ := runS_cons e
    exact h
theorem sumR_map (l : List Rat) : sumR l = Sx (fun r => r) l := by
  have := sumR_Sx (fun r : Rat => r) l
  rw [List.map_id'] at this
  exact this
theorem sumR_gr {N D : Nat} {l : List Rat} (h : ∀ r ∈ l, Gr N D r) : Gr (l.length * N) D (sumR l) := by
  rw [sumR_map]
  exact Sx_gr h
theorem Sg_Sx (f : Nat → Rat) : ∀ l : List Nat, Sx f l = Sg f l
  | [] => rfl
  | a :: l => by
    show f a + Sx f l = f a + Sg f l
    rw [Sg_Sx f l]
theorem Sg_sub {f : Nat → Rat} : ∀ {js ls : List Nat}, js.Nodup → (∀ j ∈ js, j ∈ ls) → (∀ j ∈ ls, ¬ j ∈ js → f j = 0) → ls.Nodup → Sg f js = Sg f ls
  | [], ls, _, _, h, _ => (Sg_zero fun j hj => h j hj List.not_mem_nil).symm
  | a :: js, ls, nd, hs, h, nl => by
    obtain ⟨n1, n2⟩ := List.nodup_cons.mp nd
    rw [Sg_take (hs a (List.mem_cons_self ..)), Sg_cons]
    congr 1
    refine Sg_sub n2 (fun j hj => ?_) (fun j hj hn => ?_) (nl.erase a)
    · exact (mem_er nl).mpr ⟨fun e => n1 (e ▸ hj), hs j (List.mem_cons_of_mem _ hj)⟩
    · obtain ⟨ja, jl⟩ := (mem_er nl).mp hj
      refine h j jl fun z => ?_
      rcases List.mem_cons.mp z with z | z
      · exact ja z
      · exact hn z
theorem for_rev {g : TG} {tb : TS} {D : Ends} {σ : L2.St} {H : Hp} {a : Addr} {xs : List V} (Pv : Nat → L2.St → Hp → Prop) (h0 : Pv 0 σ H) (hl : ∀ i σ H, Pv i σ H → SqL K H a xs)
    (hs : ∀ i x σ H, i < xs.length → xs[xs.length - 1 - i]? = some x → Pv i σ H → g x σ H fun σ2 H2 => tb { D with nx := Pv (i + 1), ct := Pv (i + 1), bk := D.nx } σ2 H2) (hd : ∀ σ H, Pv xs.length σ H → D.nx σ H) :
    ∃ W : Nat → Nat → L2.St → Hp → Prop, (∃ m, W 0 m σ H) ∧ ∀ i m σ H, W i m σ H →
      ((Itv K a xs.length).stop i H ∧ D.nx σ H) ∨ ((Itv K a xs.length).go i H ∧ ∃ N : L2.St → Hp → Prop, (∀ σ' H', N σ' H' → ∃ m', m' < m ∧ W (i + 1) m' σ' H') ∧ ∀ x H', (Itv K a xs.length).yld i H x H' → g x σ H' fun σ2 H2 => tb { D with nx := N, ct := N, bk := D.nx } σ2 H2) := by
  refine ⟨fun i m σ H => m = xs.length - i ∧ i ≤ xs.length ∧ Pv i σ H, ⟨xs.length, by simp, Nat.zero_le _, h0⟩, ?_⟩
  rintro i m σ H ⟨rfl, hi, p⟩
  have q := hl i σ H p
  by_cases hlt : i < xs.length
  · have hx : xs[xs.length - 1 - i]? = some (xs[xs.length - 1 - i]'(by omega)) := List.getElem?_eq_getElem _
    refine .inr ⟨⟨hlt, xs, _, q, hx⟩, Pv (i + 1), fun σ' H' p' => ⟨xs.length - (i + 1), by omega, rfl, hlt, p'⟩, fun x H' y => ?_⟩
    obtain ⟨rfl, y⟩ := y
    exact hs i x σ _ hlt (y xs q) p
  · have e : i = xs.length := by omega
    subst e
    exact .inl ⟨Nat.le_refl _, hd σ H p⟩
theorem rd_rev {ta : TA} {R : It → Hp → Prop} {σ : L2.St} {H : Hp} (h : ta σ H fun vs H1 => ∃ (a : Addr) (xs : List V), vs = [.ref a] ∧ SqL K H1 a xs ∧ R (Itv K a xs.length) H1) : iRev K ta σ H R := h
theorem IsDf.add {H : Hp} {D : Addr} {js : List Nat} {f f' : Nat → Rat} {g : Nat → V} (hD : H D = some (.dK (dkv js g))) (hg : ∀ j ∈ js, IsF K H (g j) (f j)) {k : Nat} {v : V} (hk : ¬ k ∈ js) (hv : IsF K H v (f' k)) (e : ∀ j ∈ js, f j = f' j) :
    IsDf K (upd H D (.dK (putK (dkv js g) (ky k) v))) D (js ++ [k]) f' := by
  rw [putK_add hk]
  have t : Tps H (upd H D (.dK (dkv (js ++ [k]) (putG g k v)))) := tps_putD (H1 := H) hD
  refine ⟨_, upd_same, fun j hj => ?_⟩
  rcases List.mem_append.mp hj with z | z
  · have jk : j ≠ k := fun e => hk (e ▸ z)
    rw [putG_ne jk, ← e j z]
    exact (hg j z).ts t
  · rw [List.mem_singleton.mp z, putG_same]
    exact hv.ts t
theorem fc_le {b c m : Nat} (hb : b ≤ 256) (hc : c ≤ 600) (hm : m ≤ 8) : fc b c m ≤ 2500 := by
  cases m with
  | zero => exact Nat.le_trans hc (by decide)
  | succ i =>
    show c + i * (b + 3) ≤ 2500
    have := Nat.mul_le_mul (show i ≤ 7 by omega) (show b + 3 ≤ 259 by omega)
    omega
section
variable {P : Program} {w : World} {K : PySem.W.Frag} {mg : Str → Option Value} {base : Heap} {f__wall f_is_integer f_is_row f_is_fraction f_is_amount f_is_some f_are_amounts f_added f_negated f_lessened f_multiplied f_divided f_squared f_summed f_lies_below f_is_stall f_hold_of f_stalls_of f_kept_of f_held f_roots f_check_purse f_check_wish f_may_stay f_table_of f_strike_row f_are_some f_filled_back f_in_order f_struck_in_turn f_scales f_is_scales f_l_deck f_l_pick f_l_divisor f_l_made f_l_added f_l_taken f_l_product f_l_amount f_l_stall f_l_held f_l_pulls f_l_edge f_l_deep f_l_changed f_l_are_some f_l_due f_l_is_judged f_l_word f_law f_Web_init f_Table_init f_Table_wrong_sign f_Table_behind f_Table_ties_without c_BadPurse c_BadWish c_Table c_Web c_ONE c_ZERO : Addr} {d__wall d_is_integer d_is_row d_is_fraction d_is_amount d_is_some d_are_amounts d_added d_negated d_lessened d_multiplied d_divided d_squared d_summed d_lies_below d_is_stall d_hold_of d_stalls_of d_kept_of d_held d_roots d_check_purse d_check_wish d_may_stay d_table_of d_strike_row d_are_some d_filled_back d_in_order d_struck_in_turn d_scales d_is_scales d_l_deck d_l_pick d_l_divisor d_l_made d_l_added d_l_taken d_l_product d_l_amount d_l_stall d_l_held d_l_pulls d_l_edge d_l_deep d_l_changed d_l_are_some d_l_due d_l_is_judged d_l_word d_law d_Web_init d_Table_init d_Table_wrong_sign d_Table_behind d_Table_ties_without : FuncData}
def sp_summedG (K : PySem.W.Frag) : Sp := fun vs H Q _ => ∃ (L : Addr) (ys : List V) (rs : List Rat) (N D : Nat), vs = [.ref L] ∧ H L = some (.lst ys) ∧ Fs K H ys rs ∧ (∀ r ∈ rs, Gr N D r) ∧ 0 < D ∧ D < 2 ^ 8900 ∧ (rs.length + 1) * N < 2 ^ 8900 ∧ ∀ H' v, Same H H' → IsF K H' v (sumR rs) → Q v H'
theorem ok_summedG (T : Txt K mg f__wall f_is_integer f_is_row f_is_fraction f_is_amount f_is_some f_are_amounts f_added f_negated f_lessened f_multiplied f_divided f_squared f_summed f_lies_below f_is_stall f_hold_of f_stalls_of f_kept_of f_held f_roots f_check_purse f_check_wish f_may_stay f_table_of f_strike_row f_are_some f_filled_back f_in_order f_struck_in_turn f_scales f_is_scales f_l_deck f_l_pick f_l_divisor f_l_made f_l_added f_l_taken f_l_product f_l_amount f_l_stall f_l_held f_l_pulls f_l_edge f_l_deep f_l_changed f_l_are_some f_l_due f_l_is_judged f_l_word f_law f_Web_init f_Table_init f_Table_wrong_sign f_Table_behind f_Table_ties_without c_BadPurse c_BadWish c_Table c_Web c_ONE c_ZERO d__wall d_is_integer d_is_row d_is_fraction d_is_amount d_is_some d_are_amounts d_added d_negated d_lessened d_multiplied d_divided d_squared d_summed d_lies_below d_is_stall d_hold_of d_stalls_of d_kept_of d_held d_roots d_check_purse d_check_wish d_may_stay d_table_of d_strike_row d_are_some d_filled_back d_in_order d_struck_in_turn d_scales d_is_scales d_l_deck d_l_pick d_l_divisor d_l_made d_l_added d_l_taken d_l_product d_l_amount d_l_stall d_l_held d_l_pulls d_l_edge d_l_deep d_l_changed d_l_are_some d_l_due d_l_is_judged d_l_word d_law d_Web_init d_Table_init d_Table_wrong_sign d_Table_behind d_Table_ties_without) : FnOk P w K mg base CX0 2 f_summed d_summed ["fractions"] (sp_summedG K) := by
  have G_added : FnOk P w K mg base CX0 1 f_added d_added ["one", "other"] (sp_added K) := ok_added T
  refine T.F_summed.ok sc_summed (fun vs H Q E h => ?_) (fun cdv A outer s H vs Q E hr h => ?_)
  · obtain ⟨L, ys, rs, N, D, rfl, _⟩ := h
    rfl
  · obtain ⟨L, ys, rs, N, D, rfl, hL, hf, hg, d0, d1, hN, q⟩ := h
    have hl := hf.len
    refine ⟨_, (pss_cons (ps_set (i := 1) sc_summed.nd rfl (by first | exact Or.inl rfl | exact Or.inr rfl) (pe_glob (v := .ref c_ZERO) (by rfl) T.v_ZERO rfl))
      (pss_cons (ps_for PassesOwn.never rfl (pi_list (pv 0)) (pg_name (i := 2) sc_summed.nd rfl (by first | exact Or.inl rfl | exact Or.inr rfl))
        (pss_one (ps_set (i := 1) sc_summed.nd rfl (by first | exact Or.inl rfl | exact Or.inr rfl) (pe_call G_added (hr.mono (by decide)) (by rfl) T.g_added T.k_added T.b_added .nil pass0 (pa_cons (pv 1) (pa_cons (pv 2) pa_nil))))))
      (pss_one (ps_ret (pv 1))))), ?_⟩
    walk_at "r"
    refine ⟨⟨_, .of hL⟩, ?_⟩
    refine for_list (K := K) (a := L) (xs := ys) (fun i σ H' => ∃ (tot : V) (t2 : Option V), σ = [some (.ref L), some tot, t2] ∧ Same H H' ∧ IsF K H' tot (sumR (rs.take i))) ⟨_, _, rfl, Same.refl _, c0F T.t_ZERO⟩ ?_ ?_ ?_
    · rintro i σ H' _ ⟨tot, t2, rfl, s1, _⟩
      exact .of (s1 _ _ hL)
    · rintro i x σ H' hx ⟨tot, t2, rfl, s1, ht⟩
      obtain ⟨r, hr', hxr⟩ := Paired.at hf hx
      have b1 : Bd 8900 (sumR (rs.take i)) := by
        refine (sumR_gr fun r hr => hg r (List.mem_of_mem_take hr)).bd d0 (Nat.lt_of_le_of_lt ?_ hN) d1
        exact Nat.mul_le_mul_right _ (by rw [List.length_take]; omega)
      have b2 : Bd 8900 r := (hg r (List.mem_of_getElem? hr')).bd d0 (Nat.lt_of_le_of_lt (Nat.le_mul_of_pos_left _ (by omega)) hN) d1
      walk_at "r"
      refine ⟨_, _, _, _, rfl, ht, hxr.same s1, b1, b2, trivial, fun H2 v s2 hv => ?_⟩
      walk_at "r"
      refine ⟨_, _, rfl, s1.trans s2, ?_⟩
      rw [take_at hr', sumR_snoc]
      exact hv
    · rintro σ H' ⟨tot, t2, rfl, s1, ht⟩
      rw [hl, List.take_length] at ht
      walk_at "r"
      exact q _ _ s1 ht
/-- what is filled back -/
def sp_filled (K : PySem.W.Frag) : Sp := fun vs H Q _ => ∃ (L A : Addr) (va : V) (xs : List V) (ls os le : List Nat) (M : Tbl) (y : Nat → Rat) (a : Rat) (b c : Nat), vs = [.ref L, .ref A, va] ∧ H L = some (.lst xs) ∧ Paired (IsStp K H) xs (runS M ls os) ∧
  IsDf K H A le y ∧ le.Nodup ∧ (∀ j, j ∈ le ↔ j ∈ endL M ls os) ∧ IsF K H va a ∧ (a = 0 ∨ a = 1) ∧ Odr M ls os ∧ ls.length ≤ 8 ∧ (∀ s ∈ runS M ls os, CD b s.2.1 s.2.2) ∧ b ≤ 256 ∧ CDv c y (endL M ls os) ∧ c ≤ 600 ∧
  ∀ H' F js, Same H H' → H F = none → IsDf K H' F js (fillB a (runS M ls os) y) → js.Nodup → (∀ j, j ∈ js ↔ j ∈ ls) → Q (.ref F) H'
theorem ok_filled_back (T : Txt K mg f__wall f_is_integer f_is_row f_is_fraction f_is_amount f_is_some f_are_amounts f_added f_negated f_lessened f_multiplied f_divided f_squared f_summed f_lies_below f_is_stall f_hold_of f_stalls_of f_kept_of f_held f_roots f_check_purse f_check_wish f_may_stay f_table_of f_strike_row f_are_some f_filled_back f_in_order f_struck_in_turn f_scales f_is_scales f_l_deck f_l_pick f_l_divisor f_l_made f_l_added f_l_taken f_l_product f_l_amount f_l_stall f_l_held f_l_pulls f_l_edge f_l_deep f_l_changed f_l_are_some f_l_due f_l_is_judged f_l_word f_law f_Web_init f_Table_init f_Table_wrong_sign f_Table_behind f_Table_ties_without c_BadPurse c_BadWish c_Table c_Web c_ONE c_ZERO d__wall d_is_integer d_is_row d_is_fraction d_is_amount d_is_some d_are_amounts d_added d_negated d_lessened d_multiplied d_divided d_squared d_summed d_lies_below d_is_stall d_hold_of d_stalls_of d_kept_of d_held d_roots d_check_purse d_check_wish d_may_stay d_table_of d_strike_row d_are_some d_filled_back d_in_order d_struck_in_turn d_scales d_is_scales d_l_deck d_l_pick d_l_divisor d_l_made d_l_added d_l_taken d_l_product d_l_amount d_l_stall d_l_held d_l_pulls d_l_edge d_l_deep d_l_changed d_l_are_some d_l_due d_l_is_judged d_l_word d_law d_Web_init d_Table_init d_Table_wrong_sign d_Table_behind d_Table_ties_without) : FnOk P w K mg base CX0 3 f_filled_back d_filled_back ["steps", "amounts", "alone"] (sp_filled K) := by
  have G_summed : FnOk P w K mg base CX0 2 f_summed d_summed ["fractions"] (sp_summedG K) := ok_summedG T
  have G_multiplied : FnOk P w K mg base CX0 1 f_multiplied d_multiplied ["one", "other"] (sp_multiplied K) := ok_multiplied T
  have G_divided : FnOk P w K mg base CX0 2 f_divided d_divided ["one", "other"] (sp_divided K) := ok_divided T
  refine T.F_filled_back.ok sc_filled_back (fun vs H Q E h => ?_) (fun cdv Ar outer s H vs Q E hr h => ?_)
  · obtain ⟨L, A, va, xs, ls, os, le, M, y, a, b, c, rfl, _⟩ := h
    rfl
  · obtain ⟨L, A, va, xs, ls, os, le, M, y, a, b, c, rfl, hL, hst, ⟨gA, hA, fA⟩, nle, ele, hva, ha, od, l8, cd, hb, cv, hc, q⟩ := h
    have eo := end_ok od
    have lle : le.length ≤ 8 := Nat.le_trans (List.Nodup.length_le_of_subset nle fun j hj => eo.2.2.2.1 j ((ele j).mp hj)) l8
    have hlx := Paired.length hst
    refine ⟨_, (pss_cons (ps_set (i := 3) sc_filled_back.nd rfl (by first | exact Or.inl rfl | exact Or.inr rfl) (pe_lock (pe_dc (own := [("ware", 4)]) (g := gName 4) rfl sc_filled_back.nd (pi_keys (pv 1)) (blkOk_by (own := [("ware", 4)]) (N := N_filled_back) (sc := defScope s_filled_back) (by decide +kernel)) (fun _ _ _ _ _ => (pg_name (i := 4) sc_filled_back.nd rfl (by first | exact Or.inl rfl | exact Or.inr rfl))) (fun _ _ _ _ _ => pts_nil) (fun _ _ _ _ _ => (pv 4)) (fun _ _ _ _ _ => (pe_dget (My.room1 hr) (pv 1) (pv 4) (fun _ _ => rfl))))))
      (pss_cons (ps_for PassesOwn.never rfl (pi_reversed (by rfl) T.z_reversed (pa_cons (pv 0) pa_nil)) (pg_tup rfl (pgs_cons (pg_name (i := 4) sc_filled_back.nd rfl (by first | exact Or.inl rfl | exact Or.inr rfl)) (pgs_cons (pg_name (i := 5) sc_filled_back.nd rfl (by first | exact Or.inl rfl | exact Or.inr rfl)) (pgs_cons (pg_name (i := 6) sc_filled_back.nd rfl (by first | exact Or.inl rfl | exact Or.inr rfl)) pgs_nil))))
        (pss_one (ps_if (pt_truth (pv 6) (by intro _; rfl))
            (pss_cons (ps_lock (ps_setLc (i := 7) (own := [("other", 8)]) (g := gName 8) rfl sc_filled_back.nd rfl rfl (sw_true rfl rfl rfl (by decide +kernel)) (pi_keys (pv 6)) (blkOk_by (own := [("other", 8)]) (N := N_filled_back) (sc := defScope s_filled_back) (by decide +kernel)) (fun _ _ _ _ _ => (pg_name (i := 8) sc_filled_back.nd rfl (by first | exact Or.inl rfl | exact Or.inr rfl))) (fun _ _ _ _ _ => pts_nil) (fun _ _ _ _ _ => (pe_call G_multiplied (hr.mono (by decide)) (by rfl) T.g_multiplied T.k_multiplied T.b_multiplied .nil pass0 (pa_cons (pe_dget (My.room1 hr) (pv 6) (pv 8) (fun _ _ => rfl)) (pa_cons (pe_dget (My.room1 hr) (pv 3) (pv 8) (fun _ _ => rfl)) pa_nil))))))
              (pss_one (ps_dput (My.room1 hr) (pv 3) (pv 4) (pe_call G_divided (hr.mono (by decide)) (by rfl) T.g_divided T.k_divided T.b_divided .nil pass0 (pa_cons (pe_call G_summed (hr.mono (by decide)) (by rfl) T.g_summed T.k_summed T.b_summed .nil pass0 (pa_cons (pv 7) pa_nil)) (pa_cons (pv 5) pa_nil))) rfl)))
            (pss_one (ps_dput (My.room1 hr) (pv 3) (pv 4) (pv 2) rfl)))))
      (pss_one (ps_ret (pv 3))))), ?_⟩
    walk_at "r"
    refine rd_lockE hA fun od1 => ?_
    have hf0 : upd H A (.frz od1 (.dK (dkv le gA))) A = some (.frz od1 (.dK (dkv le gA))) := upd_same
    have fr : ∀ {l}, upd H A (.frz od1 (.dK (dkv le gA))) l = none → l ≠ A ∧ H l = none := fun h => lock_free h
    have un : ∀ {H'}, Same (upd H A (.frz od1 (.dK (dkv le gA)))) H' → Same H (upd H' A (.dK (dkv le gA))) := fun s => lock_same hA s
    generalize upd H A (.frz od1 (.dK (dkv le gA))) = H1 at *
    walk_at "r"
    refine ⟨A, od1, rfl, .inl ⟨_, hf0, fun F nF => ?_⟩⟩
    obtain ⟨FA, FH⟩ := fr nF
    refine dc_keys (fun i H' => Same H1 H' ∧ H' F = some (.dK (dkv (le.take i) gA))) ⟨same_upd nF, upd_same⟩ (fun i H' p => p.1 _ _ hf0) ?_ ?_
    · rintro i j H' hj ⟨s1, hF⟩
      have jm := List.mem_of_getElem? hj
      walk_at "r"
      refine ⟨rfl, ?_⟩
      walk_at "r"
      refine ⟨A, _, rfl, dgetF (s1 _ _ hf0) jm, _, ky j, rfl, hF, small_dkv (by rw [List.length_take]; omega), ?_⟩
      have nj := take_not nle hj
      rw [putK_add nj, show le.take (i + 1) = le.take i ++ [j] by rw [List.take_add_one, hj]; rfl]
      refine ⟨same_put nF s1, ?_⟩
      rw [upd_same, dkv_congr (g' := gA) fun q _ => by
        unfold putG
        split
        · rename_i e
          rw [e]
        · rfl]
    rintro H2 ⟨s2, hF2⟩
    rw [List.take_length] at hF2
    refine ⟨s2 _ _ hf0, ?_⟩
    have k2 := un s2
    have hFU : upd H2 A (.dK (dkv le gA)) F = some (.dK (dkv le gA)) := (upd_ne FA).trans hF2
    clear hf0 fr un s2 hF2 nF
    generalize upd H2 A (.dK (dkv le gA)) = H2 at *
    walk_at "r"
    refine rd_rev ?_
    walk_at "r"
    refine ⟨L, xs, rfl, .of (k2 _ _ hL), ?_⟩
    have stay : ∀ {H' : Hp}, Same H H' → Paired (IsStp K H') xs (runS M ls os) := fun s => steps_same s hst
    refine for_rev (K := K) (xs := xs) (fun t σ H' => ∃ (t4 t5 t6 t7 t8 : Option V) (js : List Nat), σ = [some (.ref L), some (.ref A), some va, some (.ref F), t4, t5, t6, t7, t8] ∧ Same H H' ∧ IsDf K H' F js (fillB a ((runS M ls os).drop (xs.length - t)) y) ∧ js.Nodup ∧
      ∀ j, j ∈ js ↔ j ∈ kAt ((runS M ls os).drop (xs.length - t)) (endL M ls os)) ?_ ?_ ?_ ?_
    · refine ⟨none, none, none, none, none, le, rfl, k2, ?_, nle, fun j => ?_⟩
      · rw [show xs.length - 0 = (runS M ls os).length by omega, List.drop_length]
        exact ⟨gA, hFU, fun j hj => (fA j hj).same k2⟩
      · rw [show xs.length - 0 = (runS M ls os).length by omega, List.drop_length]
        exact ele j
    · rintro t σ H' ⟨t4, t5, t6, t7, t8, js, rfl, s1, _⟩
      exact .of (s1 _ _ hL)
    · rintro t vx σ H' ht hx ⟨t4, t5, t6, t7, t8, js, rfl, s1, ⟨g, hF, hg⟩, njs, ejs⟩
      obtain ⟨st, hsi, hstp0⟩ := Paired.at hst hx
      obtain ⟨k, M', ls'⟩ := st
      obtain ⟨o', od', nw, ed, el, le8⟩ := run_at _ od hsi
      have od' : Odr M' ls' (k :: o') := od'
      have nw : ¬ wrong M' ls' k := nw
      have e1 : xs.length - t = xs.length - 1 - t + 1 := by omega
      rw [e1, ed] at hg ejs
      have hg : ∀ j ∈ js, IsF K H' (g j) (fillB a (runS (strike M' k) (ls'.erase k) o') y j) := hg
      have el : endL (strike M' k) (ls'.erase k) o' = endL M ls os := el
      have ejs : ∀ j, j ∈ js ↔ j ∈ ls'.erase k := fun j => by
        rw [ejs j]
        show j ∈ kAt (runS (strike M' k) (ls'.erase k) o') (endL M ls os) ↔ _
        rw [← el, kAt_run]
      have eNew : fillB a ((runS M ls os).drop (xs.length - (t + 1))) y = fill1 a (k, M', ls') (fillB a (runS (strike M' k) (ls'.erase k) o') y) := by
        rw [show xs.length - (t + 1) = xs.length - 1 - t by omega, drop_at hsi, ed]
        rfl
      have kNew : ∀ j, j ∈ js ++ [k] ↔ j ∈ kAt ((runS M ls os).drop (xs.length - (t + 1))) (endL M ls os) := fun j => by
        rw [show xs.length - (t + 1) = xs.length - 1 - t by omega, drop_at hsi]
        show _ ↔ j ∈ ls'
        rw [List.mem_append, List.mem_singleton, ejs j, mem_er od'.nd]
        constructor
        · rintro (z | z)
          · exact z.2
          · rw [z]
            exact od'.hd
        · intro z
          by_cases e : j = k
          · exact .inr e
          · exact .inl ⟨e, z⟩
      have cdk : CD b M' ls' := cd (k, M', ls') (List.mem_of_getElem? hsi)
      have sub : ∀ s ∈ runS (strike M' k) (ls'.erase k) o', CD b s.2.1 s.2.2 := fun s hs => cd s (by
        rw [← ed] at hs
        exact List.mem_of_mem_drop hs)
      have lE : (ls'.erase k).length ≤ 8 := Nat.le_trans (List.length_erase_le ..) (Nat.le_trans le8 l8)
      have cvz : CDv 2500 (fillB a (runS (strike M' k) (ls'.erase k) o') y) (ls'.erase k) := (CDv.fills (od'.tl nw) sub lE (by rw [el]; exact cv) ha).mono (fc_le hb hc lE)
      have njk : ¬ k ∈ js := fun z => ((mem_er od'.nd).mp ((ejs k).mp z)).1 rfl
      have ljs : js.length ≤ 8 := Nat.le_trans (List.Nodup.length_le_of_subset njs fun j hj => (ejs j).mp hj) lE
      generalize hz : fillB a (runS (strike M' k) (ls'.erase k) o') y = z at *
      have off := fill1_off (a := a) (M := M') (z := z) (k := k) od'.nd
      obtain ⟨qs, vsl, D, rfl, hq0, isl0, ⟨kj, ⟨gj, hD0, fD0⟩, knd, hkj⟩⟩ := hstp0
      have hq := s1 _ _ hq0
      have isl := isl0.same s1
      have hD := s1 _ _ hD0
      have fD : ∀ j ∈ kj, IsF K H' (gj j) (-M' k j) := fun j hj => (fD0 j hj).same s1
      have FD : F ≠ D := fun e => by
        rw [e, hD0] at FH
        cases FH
      have lkj : kj.length ≤ 8 := Nat.le_trans (List.Nodup.length_le_of_subset knd fun j hj => ((hkj j).mp hj).1) (Nat.le_trans le8 l8)
      have isl : IsF K H' vsl (M' k k) := isl
      have fin : ∀ {H5 : Hp} {g5 : Nat → V} {v : V} {u4 u5 u6 u7 u8 : Option V}, Same H H5 → H5 F = some (.dK (dkv js g5)) → (∀ j ∈ js, IsF K H5 (g5 j) (z j)) → IsF K H5 v (fill1 a (k, M', ls') z k) →
          ∃ (t4 t5 t6 t7 t8 : Option V) (js' : List Nat), [some (V.ref L), some (.ref A), some va, some (.ref F), u4, u5, u6, u7, u8] = [some (V.ref L), some (.ref A), some va, some (.ref F), t4, t5, t6, t7, t8] ∧ Same H (upd H5 F (.dK (putK (dkv js g5) (ky k) v))) ∧
            IsDf K (upd H5 F (.dK (putK (dkv js g5) (ky k) v))) F js' (fillB a ((runS M ls os).drop (xs.length - (t + 1))) y) ∧ js'.Nodup ∧ ∀ j, j ∈ js' ↔ j ∈ kAt ((runS M ls os).drop (xs.length - (t + 1))) (endL M ls os) := fun {H5 g5 v u4 u5 u6 u7 u8} s5 h5 i5 iv => by
        refine ⟨_, _, _, _, _, js ++ [k], rfl, same_put FH s5, ?_, List.nodup_append.mpr ⟨njs, by simp, fun a ha b hb => ?_⟩, kNew⟩
        · rw [eNew]
          exact IsDf.add h5 i5 njk iv fun j hj => (off j ((ejs j).mp hj)).symm
        · rw [List.mem_singleton.mp hb]
          exact fun e => njk (e ▸ ha)
      walk_at "r"
      refine ⟨_, .inr (.inr ⟨_, hD, rfl⟩), ?_⟩
      by_cases tie : hasTie M' ls' k
      · have ne : kj ≠ [] := by
          obtain ⟨j, h1, h2, h3⟩ := tie
          have := (hkj j).mpr ⟨h1, h2, h3⟩
          intro e
          rw [e] at this
          cases this
        have pk := tie_pos nw tie
        rw [show (!(dkv kj gj).isEmpty) = true by
          cases kj with
          | nil => exact absurd rfl ne
          | cons _ _ => rfl]
        walk_at "r"
        refine rd_lock hD fun od2 => ?_
        obtain ⟨d, d0, d1, hd⟩ := cdk
        obtain ⟨e, e0, ee1, he⟩ := cvz
        have pb : (2 : Nat) ^ b ≤ 2 ^ 256 := pow_le hb
        have gr : ∀ j ∈ kj, Gr ((2 ^ 256 - 1) * (2 ^ 2500 - 1)) (d * e) (-M' k j * z j) := fun j hj => by
          obtain ⟨h1, h2, h3⟩ := (hkj j).mp hj
          exact (((hd k od'.hd j h1).neg).mono (by omega)).mul (he j ((mem_er od'.nd).mpr ⟨h2, h1⟩))
        have bm : ∀ j ∈ kj, Bd 8900 (-M' k j) ∧ Bd 8900 (z j) := fun j hj => by
          obtain ⟨h1, h2, h3⟩ := (hkj j).mp hj
          exact ⟨((CD.bd ⟨d, d0, d1, hd⟩ od'.hd h1).neg).mono (by omega), (CDv.bd ⟨e, e0, ee1, he⟩ ((mem_er od'.nd).mpr ⟨h2, h1⟩)).mono (by decide)⟩
        have D1 : d * e < 2 ^ 2756 := by
          have := Nat.mul_lt_mul'' (Nat.lt_of_lt_of_le d1 pb) ee1
          rw [← Nat.pow_add] at this
          exact this
        have N1 : (2 ^ 256 - 1) * (2 ^ 2500 - 1) ≤ 2 ^ 2756 := by
          have : (2 ^ 256 - 1) * (2 ^ 2500 - 1) ≤ 2 ^ 256 * 2 ^ 2500 := Nat.mul_le_mul (Nat.sub_le _ _) (Nat.sub_le _ _)
          rw [← Nat.pow_add] at this
          exact this
        have N2 : 16 * 2 ^ 2756 < 2 ^ 8900 := by
          have : (2 : Nat) ^ 4 * 2 ^ 2756 = 2 ^ 2760 := by rw [← Nat.pow_add]
          have l : (2 : Nat) ^ 2760 < 2 ^ 8900 := Nat.pow_lt_pow_right (by decide) (by decide)
          rw [show (16 : Nat) = 2 ^ 4 from rfl, this]
          exact l
        have D2 : d * e < 2 ^ 8900 := Nat.lt_trans D1 (Nat.pow_lt_pow_right (by decide) (by decide))
        generalize (2 ^ 256 - 1) * (2 ^ 2500 - 1) = N at *
        have hfz : upd H' D (.frz od2 (.dK (dkv kj gj))) D = some (.frz od2 (.dK (dkv kj gj))) := upd_same
        have hFz : upd H' D (.frz od2 (.dK (dkv kj gj))) F = some (.dK (dkv js g)) := (upd_ne FD).trans hF
        have tz : Tps H' (upd H' D (.frz od2 (.dK (dkv kj gj)))) := tps_putD (H1 := H') hD
        have fr : ∀ {l}, upd H' D (.frz od2 (.dK (dkv kj gj))) l = none → l ≠ D ∧ H' l = none := fun h => lock_free h
        have un : ∀ {H2}, Same (upd H' D (.frz od2 (.dK (dkv kj gj)))) H2 → Same H' (upd H2 D (.dK (dkv kj gj))) := fun s => lock_same hD s
        have igj : ∀ j ∈ kj, IsF K (upd H' D (.frz od2 (.dK (dkv kj gj)))) (gj j) (-M' k j) := fun j hj => (fD j hj).ts tz
        have igz : ∀ j ∈ js, IsF K (upd H' D (.frz od2 (.dK (dkv kj gj)))) (g j) (z j) := fun j hj => (hg j hj).ts tz
        clear tz
        generalize upd H' D (.frz od2 (.dK (dkv kj gj))) = H3 at *
        walk_at "r"
        refine ⟨D, od2, rfl, .inl ⟨_, hfz, fun B nB => ?_⟩⟩
        obtain ⟨BD, BH⟩ := fr nB
        refine lc_keys (fun i H2 => Same H3 H2 ∧ ∃ ys, H2 B = some (.lst ys) ∧ Fs K H2 ys ((kj.take i).map fun j => -M' k j * z j)) ⟨same_upd nB, [], upd_same, .nil⟩ (fun i H2 p => p.1 _ _ hfz) ?_ ?_
        · rintro i j H2 hj ⟨s2, ys, hB, hys⟩
          have jm := List.mem_of_getElem? hj
          obtain ⟨h1, h2, h3⟩ := (hkj j).mp jm
          have jj : j ∈ js := (ejs j).mpr ((mem_er od'.nd).mpr ⟨h2, h1⟩)
          have hil := (List.getElem?_eq_some_iff.mp hj).1
          obtain ⟨b1, b2⟩ := bm j jm
          have lys := hys.len
          rw [List.length_map, List.length_take] at lys
          walk_at "r"
          refine ⟨rfl, ?_⟩
          walk_at "r"
          refine ⟨D, _, rfl, dgetF (s2 _ _ hfz) jm, ?_⟩
          walk_at "r"
          refine ⟨F, _, rfl, dget (s2 _ _ hFz) jj, ?_⟩
          walk_at "r"
          refine ⟨_, _, _, _, rfl, (igj j jm).same s2, (igz j jj).same s2, b1, b2, trivial, fun H4 v4 s4 h4 => ?_⟩
          have hB4 := s4 _ _ hB
          refine ⟨ys, hB4, small1000 (by omega), same_put nB (s2.trans s4), _, upd_same, ?_⟩
          have tp := tps_put (H1 := H4) (o := .lst (ys ++ [v4])) hB4
          rw [show kj.take (i + 1) = kj.take i ++ [j] by rw [List.take_add_one, hj]; rfl, List.map_append]
          exact Paired.snoc ((hys.same s4).ts tp) (h4.ts tp)
        · rintro H2 ⟨s2, ys, hB, hys⟩
          rw [List.take_length] at hys
          refine ⟨s2 _ _ hfz, ?_⟩
          have s5 := un s2
          have hB5 : upd H2 D (.dK (dkv kj gj)) B = some (.lst ys) := (upd_ne BD).trans hB
          have hys5 : Fs K (upd H2 D (.dK (dkv kj gj))) ys (kj.map fun j => -M' k j * z j) := hys.ts (unlock_tps (s2 _ _ hfz))
          clear hB hys s2 un fr hfz hFz igj igz
          generalize upd H2 D (.dK (dkv kj gj)) = H5 at *
          have val : sumR (kj.map fun j => -M' k j * z j) = -row M' (ls'.erase k) z k := by
            rw [sumR_Sx, Sg_Sx, Sg_sub (ls := ls'.erase k) knd (fun j hj => ?_) (fun j hj hn => ?_) (od'.nd.erase k)]
            · rw [Sg_congr (g := fun j => -1 * (M' k j * z j)) fun j _ => by grind, Sg_mul]
              unfold row
              grind
            · obtain ⟨h1, h2, _⟩ := (hkj j).mp hj
              exact (mem_er od'.nd).mpr ⟨h2, h1⟩
            · obtain ⟨h1, h2⟩ := (mem_er od'.nd).mp hj
              have : M' k j = 0 := Classical.byContradiction fun e => hn ((hkj j).mpr ⟨h2, h1, e⟩)
              rw [this]
              grind
          have grs : Gr (kj.length * N) (d * e) (sumR (kj.map fun j => -M' k j * z j)) := by
            have := sumR_gr (l := kj.map fun j => -M' k j * z j) (N := N) (D := d * e) (fun r hr => by
              obtain ⟨j, hj, rfl⟩ := List.mem_map.mp hr
              exact gr j hj)
            rw [List.length_map] at this
            exact this
          have le1 : kj.length * N ≤ 16 * 2 ^ 2756 := Nat.mul_le_mul (by omega) N1
          walk_at "r"
          refine ⟨B, ys, _, N, d * e, rfl, hB5, hys5, fun r hr => by
            obtain ⟨j, hj, rfl⟩ := List.mem_map.mp hr
            exact gr j hj, Nat.mul_pos d0 e0, D2, Nat.lt_of_le_of_lt (by rw [List.length_map]; exact Nat.mul_le_mul (by omega) N1) N2, fun H6 v6 s6 h6 => ?_⟩
          have b6 : Bd 8900 (sumR (kj.map fun j => -M' k j * z j)) := grs.bd (Nat.mul_pos d0 e0) (Nat.lt_of_le_of_lt le1 N2) D2
          have bk : Bd 8900 (M' k k) := (CD.bd ⟨d, d0, d1, hd⟩ od'.hd od'.hd).mono (by omega)
          walk_at "r"
          refine ⟨_, _, _, _, rfl, h6, (isl.same s5).same s6, b6, bk, by grind, fun H7 v7 s7 h7 => ?_⟩
          have s57 := (s5.trans s6).trans s7
          have h7 : IsF K H7 v7 (sumR (kj.map fun j => -M' k j * z j) / M' k k) := h7
          rw [val] at h7
          walk_at "r"
          refine ⟨F, _, rfl, DPut.k (k := ky k) (s57 _ _ hF) (small_dkv (by omega)), ?_⟩
          refine fin (s1.trans s57) (s57 _ _ hF) (fun j hj => (hg j hj).same s57) ?_
          unfold fill1
          rw [if_pos rfl, if_pos tie]
          exact h7
      · have ne : kj = [] := by
          cases kj with
          | nil => rfl
          | cons j kj =>
            obtain ⟨h1, h2, h3⟩ := (hkj j).mp (List.mem_cons_self ..)
            exact absurd ⟨j, h1, h2, h3⟩ tie
        rw [show (!(dkv kj gj).isEmpty) = false by rw [ne]; rfl]
        walk_at "r"
        refine ⟨F, _, rfl, DPut.k (k := ky k) hF (small_dkv (by omega)), ?_⟩
        refine fin s1 hF hg ?_
        unfold fill1
        rw [if_pos rfl, if_neg tie]
        exact hva.same s1
    · rintro σ H' ⟨t4, t5, t6, t7, t8, js, rfl, s1, hF, njs, ejs⟩
      rw [Nat.sub_self, List.drop_zero] at hF ejs
      rw [kAt_run] at ejs
      walk_at "r"
      exact q _ F js s1 FH hF njs ejs
end
end My
namespace My
open PySem PySem.Spec PyProof.Rows L2
variable {K : PySem.W.Frag}
/-- where a stall stands by scales -/
def lev (ρ : List Rat) (s : Stl) : Rat := s.r * ρ.getD s.v 0 / ρ.getD s.u 0
def levs (ρ : List Rat) (ss : List Stl) : List Stl := ss.map fun s => s.first (lev ρ s)
def lowS (ρ : List Rat) (s : Stl) : Rat := 2 * s.r * (ρ.getD s.u 0 * ρ.getD s.v 0)
def takeS (ρ : List Rat) (s : Stl) : Rat := (s.a * ρ.getD s.u 0 - s.r * ρ.getD s.v 0) * (s.a * ρ.getD s.u 0 - s.r * ρ.getD s.v 0) / s.a
/-- rates, or scales -/
structure Rts (n k : Nat) (ρ : List Rat) : Prop where
  len : ρ.length = n
  pos : ∀ r ∈ ρ, 0 < r
  bd : ∀ r ∈ ρ, Bd k r
theorem Rts.at {n k : Nat} {ρ : List Rat} (h : Rts n k ρ) {i : Nat} (hi : i < n) : 0 < ρ.getD i 0 ∧ Bd k (ρ.getD i 0) := by
  have m : ρ.getD i 0 ∈ ρ := by
    rw [List.getD_eq_getElem?_getD, List.getElem?_eq_getElem (by rw [h.len]; exact hi)]
    exact List.getElem_mem _
  exact ⟨h.pos _ m, h.bd _ m⟩
theorem eq_div_of'' {h x k : Rat} (hz : h ≠ 0) (e : h * x = k) : x = k / h := by
  rw [← e, Rat.div_def, Rat.mul_comm h x, Rat.mul_assoc, Rat.mul_inv_cancel h hz, Rat.mul_one]
theorem Fs.getD' {H : Hp} {ys : List V} {rs : List Rat} (h : Fs K H ys rs) {i : Nat} (hi : i < rs.length) : ∃ v, ys[i]? = some v ∧ IsF K H v (rs.getD i 0) := by
  refine Paired.get' h ?_
  rw [List.getD_eq_getElem?_getD, List.getElem?_eq_getElem hi]
  rfl
theorem lev_pos {n k : Nat} {ρ : List Rat} (h : Rts n k ρ) {s : Stl} (ok : OkSt n s) : 0 < lev ρ s := by
  have a := (h.at ok.u).1
  have b := (h.at ok.v).1
  exact div_pos' (Rat.mul_pos ok.r b) a
theorem lev_bd {n k l : Nat} {ρ : List Rat} (h : Rts n k ρ) {s : Stl} (ok : OkSt n s) (b : Bd l s.r) : Bd (l + k + k) (lev ρ s) := by
  have a1 := h.at ok.u
  have b1 := h.at ok.v
  exact (b.mul b1.2).div (ne_of_pos a1.1) a1.2
end My
namespace My
open PySem PySem.Spec PyProof.Rows L2
variable {K : PySem.W.Frag}
section
variable {P : Program} {w : World} {K : PySem.W.Frag} {mg : Str → Option Value} {base : Heap} {f__wall f_is_integer f_is_row f_is_fraction f_is_amount f_is_some f_are_amounts f_added f_negated f_lessened f_multiplied f_divided f_squared f_summed f_lies_below f_is_stall f_hold_of f_stalls_of f_kept_of f_held f_roots f_check_purse f_check_wish f_may_stay f_table_of f_strike_row f_are_some f_filled_back f_in_order f_struck_in_turn f_scales f_is_scales f_l_deck f_l_pick f_l_divisor f_l_made f_l_added f_l_taken f_l_product f_l_amount f_l_stall f_l_held f_l_pulls f_l_edge f_l_deep f_l_changed f_l_are_some f_l_due f_l_is_judged f_l_word f_law f_Web_init f_Table_init f_Table_wrong_sign f_Table_behind f_Table_ties_without c_BadPurse c_BadWish c_Table c_Web c_ONE c_ZERO : Addr} {d__wall d_is_integer d_is_row d_is_fraction d_is_amount d_is_some d_are_amounts d_added d_negated d_lessened d_multiplied d_divided d_squared d_summed d_lies_below d_is_stall d_hold_of d_stalls_of d_kept_of d_held d_roots d_check_purse d_check_wish d_may_stay d_table_of d_strike_row d_are_some d_filled_back d_in_order d_struck_in_turn d_scales d_is_scales d_l_deck d_l_pick d_l_divisor d_l_made d_l_added d_l_taken d_l_product d_l_amount d_l_stall d_l_held d_l_pulls d_l_edge d_l_deep d_l_changed d_l_are_some d_l_due d_l_is_judged d_l_word d_law d_Web_init d_Table_init d_Table_wrong_sign d_Table_behind d_Table_ties_without : FuncData}
def sp_are_some (K : PySem.W.Frag) : Sp := fun vs H Q _ => ∃ (x : V) (n k : Nat) (ρ : List Rat), vs = [x, .int (n : Nat)] ∧ IsFs K H x ρ ∧ Rts n k ρ ∧ n ≤ 8 ∧ ∀ H', Same H H' → Q (.bl true) H'
theorem ok_are_some (T : Txt K mg f__wall f_is_integer f_is_row f_is_fraction f_is_amount f_is_some f_are_amounts f_added f_negated f_lessened f_multiplied f_divided f_squared f_summed f_lies_below f_is_stall f_hold_of f_stalls_of f_kept_of f_held f_roots f_check_purse f_check_wish f_may_stay f_table_of f_strike_row f_are_some f_filled_back f_in_order f_struck_in_turn f_scales f_is_scales f_l_deck f_l_pick f_l_divisor f_l_made f_l_added f_l_taken f_l_product f_l_amount f_l_stall f_l_held f_l_pulls f_l_edge f_l_deep f_l_changed f_l_are_some f_l_due f_l_is_judged f_l_word f_law f_Web_init f_Table_init f_Table_wrong_sign f_Table_behind f_Table_ties_without c_BadPurse c_BadWish c_Table c_Web c_ONE c_ZERO d__wall d_is_integer d_is_row d_is_fraction d_is_amount d_is_some d_are_amounts d_added d_negated d_lessened d_multiplied d_divided d_squared d_summed d_lies_below d_is_stall d_hold_of d_stalls_of d_kept_of d_held d_roots d_check_purse d_check_wish d_may_stay d_table_of d_strike_row d_are_some d_filled_back d_in_order d_struck_in_turn d_scales d_is_scales d_l_deck d_l_pick d_l_divisor d_l_made d_l_added d_l_taken d_l_product d_l_amount d_l_stall d_l_held d_l_pulls d_l_edge d_l_deep d_l_changed d_l_are_some d_l_due d_l_is_judged d_l_word d_law d_Web_init d_Table_init d_Table_wrong_sign d_Table_behind d_Table_ties_without) : FnOk P w K mg base CX0 5 f_are_some d_are_some ["things", "number"] (sp_are_some K) := by
  have G_are_amounts : FnOk P w K mg base CX0 4 f_are_amounts d_are_amounts ["things", "number"] (sp_are_amounts K) := ok_are_amounts T
  refine T.F_are_some.ok sc_are_some (fun vs H Q E h => ?_) (fun cdv A outer sh H vs Q E hr h => ?_)
  · obtain ⟨x, n, k, ρ, rfl, _⟩ := h
    rfl
  · obtain ⟨x, n, k, ρ, rfl, ⟨t, ys, rfl, ht, hf⟩, hρ, n8, q⟩ := h
    have hl := hf.len
    have hn := hρ.len
    refine ⟨_, (pss_cons (ps_if (PW.pt (pw_or (pt_not (pt_val (pe_callB call_isi (by rfl) T.z_isinstance (by decide +kernel) (pa_cons (pv 0) (pa_cons (pe_bltn (v := .ty "tuple") (u := .type "tuple") (by rfl) T.z_tuple (by decide +kernel) rfl) pa_nil))))) (pw_or1 (pt_not (pt_val (pe_call G_are_amounts (hr.mono (by decide)) (by rfl) T.g_are_amounts T.k_are_amounts T.b_are_amounts .nil pass0 (pa_cons (pv 0) (pa_cons (pv 1) pa_nil))))))))
        (pss_one (ps_ret pe_bl))
        pss_nil)
      (pss_one (ps_ret (pe_callB (cr_all rfl) (by rfl) T.z_all (by decide +kernel) (pa_cons (pe_lc (own := [("thing", 2)]) (g := gName 2) rfl sc_are_some.nd (pi_tup (pv 0)) (blkOk_by (own := [("thing", 2)]) (N := N_are_some) (sc := defScope s_are_some) (by decide +kernel)) (fun _ _ _ _ _ => (pg_name (i := 2) sc_are_some.nd rfl (by first | exact Or.inl rfl | exact Or.inr rfl))) (fun _ _ _ _ _ => pts_nil) (fun _ _ _ _ _ => (pe_cmpR op_gt (pe_ix (My.ix_tupK (K := K) (by rfl)) (pv 2) pe_int (fun _ _ => rfl)) pe_int (nomark _)))) pa_nil))))), ?_⟩
    walk_at "r"
    refine ⟨t, ys, ρ, by rw [hn]; rfl, .inr (.of ht), hf, fun r hr => Rat.le_of_lt (hρ.pos r hr), by omega, fun H1 s1 => ?_⟩
    walk_at "r"
    refine ⟨⟨_, .of (s1 _ _ ht)⟩, fun D nD => ?_⟩
    refine lc_tupP (R := fun H v (b : Bool) => v = .bl b) (fun _ _ _ _ _ h => h) (f := fun _ => some true) nD (by omega) (.of (s1 _ _ ht)) (fun i x hx H' Q' N' s3 hy _ => ?_) fun H3 hl3 => ?_
    · obtain ⟨r, hr1, hr2⟩ := Paired.at hf hx
      obtain ⟨p, rfl, hp⟩ := hr2.same (s1.trans s3)
      have hpos := num_pos' (hρ.pos r (List.mem_of_getElem? hr1))
      walk_at "r"
      refine ⟨rfl, ?_⟩
      walk_at "r"
      refine hy true _ _ rfl (Same.refl _) ?_
      rw [decide_eq_true hpos]
    · obtain ⟨s3, bs, hD, hbs⟩ := hl3
      rw [upTo_map] at hbs
      have e := bools_of hbs
      subst e
      walk_at "r"
      refine ⟨D, _, rfl, .of hD, ?_⟩
      rw [all_true _ (by simp)]
      exact q _ (s1.trans s3)
def sp_check_sr (K : PySem.W.Frag) (C : Addr) : Sp := fun vs H Q _ => ∃ (x y : V) (n k : Nat) (ss : List Stl) (ρ : List Rat), vs = [x, y] ∧ IsWeb K C H x n ss ∧ IsFs K H y ρ ∧ Rts n k ρ ∧ n ≤ 8 ∧ ∀ H', Same H H' → Q .non H'
/-- the moves by scales -/
def sp_deal_by (K : PySem.W.Frag) (C : Addr) : Sp := fun vs H Q _ => ∃ (x y : V) (n : Nat) (ss : List Stl) (ρ : List Rat), vs = [x, y] ∧ IsWeb K C H x n ss ∧ IsFs K H y ρ ∧ Rts n 300 ρ ∧ n ≤ 8 ∧ ss.length ≤ 16 ∧ (∀ s ∈ ss, OkSt n s ∧ BdSt 1400 s ∧ Bd 100 s.r) ∧ ∀ H' v, Same H H' → IsMs K H' v (upTo (btw ss (levs ρ ss)) ss.length) → (∃ L, v = .ref L ∧ H L = none) → Q v H'
theorem levs_at {ρ : List Rat} {ss : List Stl} {i : Nat} {s : Stl} (h : ss[i]? = some s) : (levs ρ ss)[i]? = some (s.first (lev ρ s)) := by
  unfold levs
  rw [List.getElem?_map, h]
  rfl
theorem btw_lev {n : Nat} {ρ : List Rat} {ss : List Stl} {i : Nat} {s : Stl} (h : ss[i]? = some s) (ok : OkSt n s) : btw ss (levs ρ ss) i = if lev ρ s = s.a then none else some (mvTo i s (lev ρ s)) := by
  unfold btw
  rw [h, levs_at h]
  simp only []
  by_cases e : lev ρ s = s.a
  · rw [if_pos e, if_pos]
    rw [e]
    have : s.b = s.r * s.r / s.a := by
      refine eq_div_of'' (ne_of_pos ok.a) ok.e
    obtain ⟨u, v, a, b, r⟩ := s
    simp only [Stl.first] at *
    rw [this]
  · rw [if_neg e, if_neg]
    · rfl
    · intro z
      have : s.a = (s.first (lev ρ s)).a := congrArg Stl.a z
      exact e this.symm
end
end My
namespace My
open PySem PySem.Spec PyProof.Rows L2
variable {K : PySem.W.Frag}
/-! ### sums over wares and over stalls -/
theorem Sx_mul {α : Type} (c : Rat) (f : α → Rat) : ∀ l : List α, Sx (fun a => c * f a) l = c * Sx f l
  | [] => by
    show (0 : Rat) = c * 0
    grind
  | a :: l => by
    show c * f a + Sx (fun a => c * f a) l = c * (f a + Sx f l)
    rw [Sx_mul c f l]
    grind
theorem Sg_Sx_swap {α : Type} (f : Nat → α → Rat) (l : List α) : ∀ ls : List Nat, Sg (fun i => Sx (f i) l) ls = Sx (fun a => Sg (fun i => f i a) ls) l
  | [] => by
    rw [Sg_nil]
    induction l with
    | nil => rfl
    | cons a l ih =>
      show 0 = Sg (fun i => f i a) [] + Sx _ l
      rw [← ih, Sg_nil]
      grind
  | b :: ls => by
    rw [Sg_cons, Sg_Sx_swap f l ls, ← Sx_add]
    exact Sx_congr fun a _ => (Sg_cons (fun i => f i a) b ls).symm
theorem tieS_sum {n : Nat} {s : Stl} (h : OkSt n s) (x : Nat → Rat) : Sg (fun i => Sg (fun j => tieS s i j * (x i * x j)) (List.range n)) (List.range n) = 2 * s.r * (x s.u * x s.v) := by
  have nd := List.nodup_range (n := n)
  have hu := List.mem_range.mpr h.u
  have hv := List.mem_range.mpr h.v
  have e : ∀ i, Sg (fun j => tieS s i j * (x i * x j)) (List.range n) = (if s.u = i then s.r * (x i * x s.v) else 0) + (if s.v = i then s.r * (x i * x s.u) else 0) := fun i => by
    have e1 : Sg (fun j => tieS s i j * (x i * x j)) (List.range n) = Sg (fun j => (if s.v = j then (if s.u = i then s.r * (x i * x j) else 0) else 0) + (if s.u = j then (if s.v = i then s.r * (x i * x j) else 0) else 0)) (List.range n) := Sg_congr fun j _ => by
      unfold tieS
      by_cases a : s.u = i <;> by_cases b : s.v = j <;> by_cases c : s.v = i <;> by_cases d : s.u = j <;> simp [a, b, c, d] <;> grind
    rw [e1, Sg_add, Sg_delta (f := fun j => if s.u = i then s.r * (x i * x j) else 0) nd hv, Sg_delta (f := fun j => if s.v = i then s.r * (x i * x j) else 0) nd hu]
  rw [Sg_congr fun i _ => e i, Sg_add, Sg_delta (f := fun i => s.r * (x i * x s.v)) nd hu, Sg_delta (f := fun i => s.r * (x i * x s.u)) nd hv]
  grind
/-- what bars: the sum over the wares less the sum over the stalls -/
theorem Qf_stay {n : Nat} {ss : List Stl} (h : ∀ s ∈ ss, OkSt n s) (pu wi : List Rat) (x : Nat → Rat) :
    Qf (stayM ss pu wi) (List.range n) x = Sg (fun i => stayAt ss pu wi i * (x i * x i)) (List.range n) - Sx (fun s => 2 * s.r * (x s.u * x s.v)) ss := by
  have nd := List.nodup_range (n := n)
  have e1 : Qf (stayM ss pu wi) (List.range n) x = Sg (fun i => Sg (fun j => (if i = j then stayAt ss pu wi j * (x j * x j) else 0) + -1 * (rootM ss i j * (x i * x j))) (List.range n)) (List.range n) := Sg_congr fun i _ => by
    rw [← Sg_mul]
    refine Sg_congr fun j _ => ?_
    unfold stayM
    by_cases c : i = j
    · subst c
      rw [if_pos rfl, if_pos rfl, rootM_self h]
      grind
    · rw [if_neg c, if_neg c]
      grind
  rw [e1, Sg_congr fun i hi => by rw [Sg_add, Sg_delta (f := fun j => stayAt ss pu wi j * (x j * x j)) nd hi, Sg_mul], Sg_add, Sg_mul]
  have e2 : Sg (fun i => Sg (fun j => rootM ss i j * (x i * x j)) (List.range n)) (List.range n) = Sx (fun s => 2 * s.r * (x s.u * x s.v)) ss := by
    have e3 : ∀ i j, rootM ss i j * (x i * x j) = Sx (fun s => tieS s i j * (x i * x j)) ss := fun i j => by
      rw [rootM_sum fun s hs => (h s hs).ne, sumR_Sx, Rat.mul_comm, ← Sx_mul]
      exact Sx_congr fun s _ => by grind
    rw [Sg_congr fun i _ => (Sg_congr fun j _ => e3 i j).trans (Sg_Sx_swap (fun j s => tieS s i j * (x i * x j)) ss (List.range n)), Sg_Sx_swap (fun i s => Sg (fun j => tieS s i j * (x i * x j)) (List.range n))]
    exact Sx_congr fun s hs => tieS_sum (h s hs) x
  rw [e2]
  grind
/-- a row of the table -/
theorem row_stay {n : Nat} {ss : List Stl} (h : ∀ s ∈ ss, OkSt n s) (pu wi : List Rat) (x : Nat → Rat) {i : Nat} (hi : i < n) : row (stayM ss pu wi) (List.range n) x i = stayAt ss pu wi i * x i - Sg (fun j => rootM ss i j * x j) (List.range n) := by
  have nd := List.nodup_range (n := n)
  have e1 : row (stayM ss pu wi) (List.range n) x i = Sg (fun j => (if i = j then stayAt ss pu wi j * x j else 0) + -1 * (rootM ss i j * x j)) (List.range n) := Sg_congr fun j _ => by
    unfold stayM
    by_cases c : i = j
    · subst c
      rw [if_pos rfl, if_pos rfl, rootM_self h]
      grind
    · rw [if_neg c, if_neg c]
      grind
  rw [e1, Sg_add, Sg_delta (f := fun j => stayAt ss pu wi j * x j) nd (List.mem_range.mpr hi), Sg_mul]
  grind
/-- .. and its entries over one bottom -/
structure OkT (n : Nat) (ss : List Stl) (pu wi : List Rat) : Prop extends OkP n ss pu wi where
  gr : ∃ d, 0 < d ∧ d < 2 ^ 24 ∧ (∀ i, i < n → ∀ j, j < n → Gr (2 ^ 27) d (stayM ss pu wi i j)) ∧ ∀ s ∈ ss, Gr (2 ^ 27) d s.r
theorem OkT.odr {n : Nat} {ss : List Stl} {pu wi : List Rat} (h : OkT n ss pu wi) : Odr (stayM ss pu wi) (List.range n) (List.range n) :=
  ⟨stayM_symm (fun s hs => (h.ok s hs).1.ne) pu wi, stayM_op (fun s hs => (h.ok s hs).1) pu wi _, List.nodup_range, List.nodup_range, fun _ h => h⟩
theorem OkT.odrs {n : Nat} {ss : List Stl} {pu wi : List Rat} (h : OkT n ss pu wi) {os : List Nat} (hn : os.Nodup) (hi : ∀ k ∈ os, k < n) : Odr (stayM ss pu wi) (List.range n) os :=
  ⟨h.odr.sy, h.odr.op, List.nodup_range, hn, fun k hk => List.mem_range.mpr (hi k hk)⟩
theorem OkT.cds {n : Nat} {ss : List Stl} {pu wi : List Rat} (h : OkT n ss pu wi) {os : List Nat} (od : Odr (stayM ss pu wi) (List.range n) os) :
    (∀ s ∈ runS (stayM ss pu wi) (List.range n) os, CD 256 s.2.1 s.2.2) ∧ CD 256 (endM (stayM ss pu wi) (List.range n) os) (endL (stayM ss pu wi) (List.range n) os) := by
  obtain ⟨d, d0, d1, hd, _⟩ := h.gr
  refine run_cd (l0 := List.range n) (B := 2 ^ 27) (d := d) (fun i hi j hj => hd i (List.mem_range.mp hi) j (List.mem_range.mp hj)) d0 (by decide) d1 (by decide) od Stg.first (fun i hi => hi) (fun i hi => absurd hi List.not_mem_nil) ?_
  rw [List.length_range]
  have := h.n8
  show 0 + n ≤ 8
  omega
section
variable {P : Program} {w : World} {K : PySem.W.Frag} {mg : Str → Option Value} {base : Heap} {f__wall f_is_integer f_is_row f_is_fraction f_is_amount f_is_some f_are_amounts f_added f_negated f_lessened f_multiplied f_divided f_squared f_summed f_lies_below f_is_stall f_hold_of f_stalls_of f_kept_of f_held f_roots f_check_purse f_check_wish f_may_stay f_table_of f_strike_row f_are_some f_filled_back f_in_order f_struck_in_turn f_scales f_is_scales f_l_deck f_l_pick f_l_divisor f_l_made f_l_added f_l_taken f_l_product f_l_amount f_l_stall f_l_held f_l_pulls f_l_edge f_l_deep f_l_changed f_l_are_some f_l_due f_l_is_judged f_l_word f_law f_Web_init f_Table_init f_Table_wrong_sign f_Table_behind f_Table_ties_without c_BadPurse c_BadWish c_Table c_Web c_ONE c_ZERO : Addr} {d__wall d_is_integer d_is_row d_is_fraction d_is_amount d_is_some d_are_amounts d_added d_negated d_lessened d_multiplied d_divided d_squared d_summed d_lies_below d_is_stall d_hold_of d_stalls_of d_kept_of d_held d_roots d_check_purse d_check_wish d_may_stay d_table_of d_strike_row d_are_some d_filled_back d_in_order d_struck_in_turn d_scales d_is_scales d_l_deck d_l_pick d_l_divisor d_l_made d_l_added d_l_taken d_l_product d_l_amount d_l_stall d_l_held d_l_pulls d_l_edge d_l_deep d_l_changed d_l_are_some d_l_due d_l_is_judged d_l_word d_law d_Web_init d_Table_init d_Table_wrong_sign d_Table_behind d_Table_ties_without : FuncData}
theorem IsDf.nil {H : Hp} {A : Addr} {y : Nat → Rat} (h : H A = some (.dK [])) : IsDf K H A [] y := ⟨fun _ => .non, h, by simp⟩
def sp_in_order (K : PySem.W.Frag) : Sp := fun vs H Q _ => ∃ (F : Addr) (n : Nat) (js : List Nat) (z : Nat → Rat), vs = [.ref F] ∧ IsDf K H F js z ∧ js.Nodup ∧ (∀ j, j ∈ js ↔ j ∈ List.range n) ∧ n ≤ 8 ∧ ∀ H' v, Same H H' → IsFs K H' v ((List.range n).map z) → Q v H'
theorem ok_in_order (T : Txt K mg f__wall f_is_integer f_is_row f_is_fraction f_is_amount f_is_some f_are_amounts f_added f_negated f_lessened f_multiplied f_divided f_squared f_summed f_lies_below f_is_stall f_hold_of f_stalls_of f_kept_of f_held f_roots f_check_purse f_check_wish f_may_stay f_table_of f_strike_row f_are_some f_filled_back f_in_order f_struck_in_turn f_scales f_is_scales f_l_deck f_l_pick f_l_divisor f_l_made f_l_added f_l_taken f_l_product f_l_amount f_l_stall f_l_held f_l_pulls f_l_edge f_l_deep f_l_changed f_l_are_some f_l_due f_l_is_judged f_l_word f_law f_Web_init f_Table_init f_Table_wrong_sign f_Table_behind f_Table_ties_without c_BadPurse c_BadWish c_Table c_Web c_ONE c_ZERO d__wall d_is_integer d_is_row d_is_fraction d_is_amount d_is_some d_are_amounts d_added d_negated d_lessened d_multiplied d_divided d_squared d_summed d_lies_below d_is_stall d_hold_of d_stalls_of d_kept_of d_held d_roots d_check_purse d_check_wish d_may_stay d_table_of d_strike_row d_are_some d_filled_back d_in_order d_struck_in_turn d_scales d_is_scales d_l_deck d_l_pick d_l_divisor d_l_made d_l_added d_l_taken d_l_product d_l_amount d_l_stall d_l_held d_l_pulls d_l_edge d_l_deep d_l_changed d_l_are_some d_l_due d_l_is_judged d_l_word d_law d_Web_init d_Table_init d_Table_wrong_sign d_Table_behind d_Table_ties_without) : FnOk P w K mg base CX0 1 f_in_order d_in_order ["filled"] (sp_in_order K) := by
  refine T.F_in_order.ok sc_in_order (fun vs H Q E h => ?_) (fun cdv A outer s H vs Q E hr h => ?_)
  · obtain ⟨F, n, js, z, rfl, _⟩ := h
    rfl
  · obtain ⟨F, n, js, z, rfl, ⟨g, hF, hg⟩, nd, hj, n8, q⟩ := h
    have lj : js.length = n := by
      have a := List.Nodup.length_le_of_subset nd fun j h => (hj j).mp h
      have b := List.Nodup.length_le_of_subset (List.nodup_range (n := n)) fun j h => (hj j).mpr h
      rw [List.length_range] at a b
      omega
    refine ⟨_, (pss_one (ps_ret (pe_callTy call_tuple_of (by rfl) T.z_tuple (by decide +kernel) (pa_cons (pe_lc (own := [("ware", 1)]) (g := gName 1) rfl sc_in_order.nd (pi_range1 (by rfl) T.z_range (pa_cons (pe_callB call_lenD (by rfl) T.z_len (by decide +kernel) (pa_cons (pv 0) pa_nil)) pa_nil)) (blkOk_by (own := [("ware", 1)]) (N := N_in_order) (sc := defScope s_in_order) (by decide +kernel)) (fun _ _ _ _ _ => (pg_name (i := 1) sc_in_order.nd rfl (by first | exact Or.inl rfl | exact Or.inr rfl))) (fun _ _ _ _ _ => pts_nil) (fun _ _ _ _ _ => (pe_dget (My.room1 hr) (pv 0) (pv 1) (fun _ _ => rfl)))) pa_nil)))), ?_⟩
    walk_at "r"
    refine ⟨F, _, rfl, hF, ?_⟩
    walk_at "r"
    rw [dkv_len, lj]
    refine ⟨by omega, by omega, fun D nD => ?_⟩
    refine lc_rangeP (R := IsF K) (fun _ _ _ _ f h => h.ts f) (f := fun i => some (z i)) nD (by omega) (fun i hi H' Q' N s1 hy hn => ?_) fun H' hlst => ?_
    · have hi : i < n := hi
      have hm := (hj i).mpr (List.mem_range.mpr hi)
      rw [Int.zero_add]
      walk_at "r"
      refine ⟨rfl, ?_⟩
      walk_at "r"
      exact ⟨F, _, rfl, dget (s1 _ _ hF) hm, hy (z i) _ _ rfl (Same.refl _) ((hg i hm).same s1)⟩
    · obtain ⟨s1, ys, hD, hys⟩ := hlst
      rw [show ((n : Nat) : Int).toNat = n from rfl, upTo_map] at hys
      walk_at "r"
      refine ⟨_, _, rfl, .inl ⟨.of hD, fun l nl => ?_⟩⟩
      have sl := same_upd (o := .tup ys) nl
      exact q _ _ (s1.trans sl) ⟨l, ys, rfl, upd_same, Fs.same sl hys⟩
def sp_in_turn (K : PySem.W.Frag) (C CT : Addr) : Sp := fun vs H Q _ => ∃ (x p v : V) (n : Nat) (ss : List Stl) (pu wi : List Rat), vs = [x, p, v] ∧ IsWeb K C H x n ss ∧ IsRow K H p pu ∧ IsRow K H v wi ∧ OkT n ss pu wi ∧
  ∀ H' t L xs y, Same H H' → H' t = some (.tup [.ref L, y, wV (endW (stayM ss pu wi) (List.range n) (List.range n))]) → H L = none → H' L = some (.lst xs) → Paired (IsStp K H') xs (runS (stayM ss pu wi) (List.range n) (List.range n)) →
    IsTb K CT H' y (endL (stayM ss pu wi) (List.range n) (List.range n)) (endM (stayM ss pu wi) (List.range n) (List.range n)) → Q (.ref t) H'
theorem ok_struck_in_turn (T : Txt K mg f__wall f_is_integer f_is_row f_is_fraction f_is_amount f_is_some f_are_amounts f_added f_negated f_lessened f_multiplied f_divided f_squared f_summed f_lies_below f_is_stall f_hold_of f_stalls_of f_kept_of f_held f_roots f_check_purse f_check_wish f_may_stay f_table_of f_strike_row f_are_some f_filled_back f_in_order f_struck_in_turn f_scales f_is_scales f_l_deck f_l_pick f_l_divisor f_l_made f_l_added f_l_taken f_l_product f_l_amount f_l_stall f_l_held f_l_pulls f_l_edge f_l_deep f_l_changed f_l_are_some f_l_due f_l_is_judged f_l_word f_law f_Web_init f_Table_init f_Table_wrong_sign f_Table_behind f_Table_ties_without c_BadPurse c_BadWish c_Table c_Web c_ONE c_ZERO d__wall d_is_integer d_is_row d_is_fraction d_is_amount d_is_some d_are_amounts d_added d_negated d_lessened d_multiplied d_divided d_squared d_summed d_lies_below d_is_stall d_hold_of d_stalls_of d_kept_of d_held d_roots d_check_purse d_check_wish d_may_stay d_table_of d_strike_row d_are_some d_filled_back d_in_order d_struck_in_turn d_scales d_is_scales d_l_deck d_l_pick d_l_divisor d_l_made d_l_added d_l_taken d_l_product d_l_amount d_l_stall d_l_held d_l_pulls d_l_edge d_l_deep d_l_changed d_l_are_some d_l_due d_l_is_judged d_l_word d_law d_Web_init d_Table_init d_Table_wrong_sign d_Table_behind d_Table_ties_without) : FnOk P w K mg base CX0 7 f_struck_in_turn d_struck_in_turn ["web", "purse", "wish"] (sp_in_turn K c_Web c_Table) := by
  have G_check_purse : FnOk P w K mg base CX0 5 f_check_purse d_check_purse ["web", "purse"] (sp_check_purse K c_Web) := ok_check_purse T
  have G_check_wish : FnOk P w K mg base CX0 5 f_check_wish d_check_wish ["web", "wish"] (sp_check_wish K c_Web) := ok_check_wish T
  have G_table_of : FnOk P w K mg base CX0 6 f_table_of d_table_of ["web", "purse", "wish"] (sp_table_of K c_Web c_Table) := ok_table_of T
  have G_strike_row : FnOk P w K mg base CX0 4 f_strike_row d_strike_row ["table", "order"] (sp_strike_row K c_Table) := ok_strike_row T
  refine T.F_struck_in_turn.ok sc_struck_in_turn (fun vs H Q E h => ?_) (fun cdv A outer s H vs Q E hr h => ?_)
  · obtain ⟨x, p, v, n, ss, pu, wi, rfl, _⟩ := h
    rfl
  · obtain ⟨x, p, v, n, ss, pu, wi, rfl, hw, hp, hv, ok, q⟩ := h
    have n8 := ok.n8
    refine ⟨_, (pss_cons (ps_expr (pe_call G_check_purse (hr.mono (by decide)) (by rfl) T.g_check_purse T.k_check_purse T.b_check_purse .nil pass0 (pa_cons (pv 0) (pa_cons (pv 1) pa_nil))))
      (pss_cons (ps_expr (pe_call G_check_wish (hr.mono (by decide)) (by rfl) T.g_check_wish T.k_check_wish T.b_check_wish .nil pass0 (pa_cons (pv 0) (pa_cons (pv 2) pa_nil))))
      (pss_one (ps_ret (pe_call G_strike_row (hr.mono (by decide)) (by rfl) T.g_strike_row T.k_strike_row T.b_strike_row .nil pass0 (pa_cons (pe_call G_table_of (hr.mono (by decide)) (by rfl) T.g_table_of T.k_table_of T.b_table_of .nil pass0 (pa_cons (pv 0) (pa_cons (pv 1) (pa_cons (pv 2) pa_nil)))) (pa_cons (pe_listRg rfl (by rfl) T.z_list (prg_1 (by rfl) T.z_range (pe_fld (pv 0) rfl))) pa_nil))))))), ?_⟩
    walk_at "r"
    refine ⟨x, p, n, ss, pu, rfl, hw, hp, ok.lp, n8, ok.p0, fun H1 s1 => ?_⟩
    walk_at "r"
    refine ⟨x, v, n, ss, wi, rfl, hw.same s1, hv.same s1, ok.lw, n8, ok.w0, fun H2 s2 => ?_⟩
    have k2 := s1.trans s2
    walk_at "r"
    refine ⟨x, p, v, n, ss, pu, wi, rfl, hw.same k2, hp.same k2, hv.same k2, ok.toOkP, fun H3 y s3 hy => ?_⟩
    have k3 := k2.trans s3
    obtain ⟨pw, dx, t, xs, rfl, hpw, _⟩ := id (hw.same k3)
    walk_at "r"
    refine ⟨_, _, _, _, _, rfl, hpw, T.w_Web.it.cl, T.n_Web_wares, wF_wares _ _, ?_⟩
    refine ⟨n, rfl, .of_le (by decide) (by omega) (by decide) (by omega), fun W nW => ?_⟩
    rw [nvT_range]
    have s4 := same_upd (o := .lst (nvT (List.range n))) nW
    have hW : upd H3 W (.lst (nvT (List.range n))) W = some (.lst (nvT (List.range n))) := upd_same
    generalize upd H3 W (.lst (nvT (List.range n))) = H4 at *
    refine ⟨y, W, 256, List.range n, List.range n, stayM ss pu wi, rfl, hy.same s4, .l hW, ok.odr, by rw [List.length_range]; exact n8, (ok.cds ok.odr).1, by decide, fun H5 t5 L xs5 y5 s5 h5 nL hL hst htb => ?_⟩
    have k5 := (k3.trans s4).trans s5
    exact q _ t5 L xs5 y5 k5 h5 ((k3.trans s4).free nL) hL hst htb
/-- the amounts that are found -/
def foundZ (n : Nat) (ss : List Stl) (pu wi : List Rat) : Nat → Rat := fillB 1 (runS (stayM ss pu wi) (List.range n) (List.range n)) fun _ => 0
def metW (n : Nat) (ss : List Stl) (pu wi : List Rat) : Option Nat := endW (stayM ss pu wi) (List.range n) (List.range n)
def sp_scales (K : PySem.W.Frag) (C : Addr) : Sp := fun vs H Q _ => ∃ (x p v : V) (n : Nat) (ss : List Stl) (pu wi : List Rat), vs = [x, p, v] ∧ IsWeb K C H x n ss ∧ IsRow K H p pu ∧ IsRow K H v wi ∧ OkT n ss pu wi ∧
  ∀ H' u, Same H H' → (u = .non ∧ metW n ss pu wi ≠ none) ∨ (metW n ss pu wi = none ∧ IsFs K H' u ((List.range n).map (foundZ n ss pu wi))) → Q u H'
theorem ok_scales (T : Txt K mg f__wall f_is_integer f_is_row f_is_fraction f_is_amount f_is_some f_are_amounts f_added f_negated f_lessened f_multiplied f_divided f_squared f_summed f_lies_below f_is_stall f_hold_of f_stalls_of f_kept_of f_held f_roots f_check_purse f_check_wish f_may_stay f_table_of f_strike_row f_are_some f_filled_back f_in_order f_struck_in_turn f_scales f_is_scales f_l_deck f_l_pick f_l_divisor f_l_made f_l_added f_l_taken f_l_product f_l_amount f_l_stall f_l_held f_l_pulls f_l_edge f_l_deep f_l_changed f_l_are_some f_l_due f_l_is_judged f_l_word f_law f_Web_init f_Table_init f_Table_wrong_sign f_Table_behind f_Table_ties_without c_BadPurse c_BadWish c_Table c_Web c_ONE c_ZERO d__wall d_is_integer d_is_row d_is_fraction d_is_amount d_is_some d_are_amounts d_added d_negated d_lessened d_multiplied d_divided d_squared d_summed d_lies_below d_is_stall d_hold_of d_stalls_of d_kept_of d_held d_roots d_check_purse d_check_wish d_may_stay d_table_of d_strike_row d_are_some d_filled_back d_in_order d_struck_in_turn d_scales d_is_scales d_l_deck d_l_pick d_l_divisor d_l_made d_l_added d_l_taken d_l_product d_l_amount d_l_stall d_l_held d_l_pulls d_l_edge d_l_deep d_l_changed d_l_are_some d_l_due d_l_is_judged d_l_word d_law d_Web_init d_Table_init d_Table_wrong_sign d_Table_behind d_Table_ties_without) : FnOk P w K mg base CX0 8 f_scales d_scales ["web", "purse", "wish"] (sp_scales K c_Web) := by
  have G_struck_in_turn : FnOk P w K mg base CX0 7 f_struck_in_turn d_struck_in_turn ["web", "purse", "wish"] (sp_in_turn K c_Web c_Table) := ok_struck_in_turn T
  have G_filled_back : FnOk P w K mg base CX0 3 f_filled_back d_filled_back ["steps", "amounts", "alone"] (sp_filled K) := ok_filled_back T
  have G_in_order : FnOk P w K mg base CX0 1 f_in_order d_in_order ["filled"] (sp_in_order K) := ok_in_order T
  refine T.F_scales.ok sc_scales (fun vs H Q E h => ?_) (fun cdv A outer s H vs Q E hr h => ?_)
  · obtain ⟨x, p, v, n, ss, pu, wi, rfl, _⟩ := h
    rfl
  · obtain ⟨x, p, v, n, ss, pu, wi, rfl, hw, hp, hv, ok, q⟩ := h
    have od := ok.odr
    have eo := end_ok od
    refine ⟨_, (pss_cons (ps_asg (pe_call G_struck_in_turn (hr.mono (by decide)) (by rfl) T.g_struck_in_turn T.k_struck_in_turn T.b_struck_in_turn .nil pass0 (pa_cons (pv 0) (pa_cons (pv 1) (pa_cons (pv 2) pa_nil)))) (pg_tup rfl (pgs_cons (pg_name (i := 3) sc_scales.nd rfl (by first | exact Or.inl rfl | exact Or.inr rfl)) (pgs_cons (pg_name (i := 4) sc_scales.nd rfl (by first | exact Or.inl rfl | exact Or.inr rfl)) (pgs_cons (pg_name (i := 5) sc_scales.nd rfl (by first | exact Or.inl rfl | exact Or.inr rfl)) pgs_nil)))))
      (pss_cons (ps_if (pt_cmpR op_notN (pv 5) pe_non (nomark _))
        (pss_one (ps_ret pe_non))
        pss_nil)
      (pss_one (ps_ret (pe_call G_in_order (hr.mono (by decide)) (by rfl) T.g_in_order T.k_in_order T.b_in_order .nil pass0 (pa_cons (pe_call G_filled_back (hr.mono (by decide)) (by rfl) T.g_filled_back T.k_filled_back T.b_filled_back .nil pass0 (pa_cons (pv 3) (pa_cons pe_dnewK (pa_cons (pe_glob (v := .ref c_ONE) (by rfl) T.v_ONE rfl) pa_nil)))) pa_nil)))))), ?_⟩
    walk_at "r"
    refine ⟨x, p, v, n, ss, pu, wi, rfl, hw, hp, hv, ok, fun H1 t L xs y s1 ht nL hL hst htb => ?_⟩
    walk_at "r"
    cases e : endW (stayM ss pu wi) (List.range n) (List.range n) with
    | some k =>
      refine ⟨rfl, ?_⟩
      walk_at "r"
      exact q _ _ s1 (.inl ⟨rfl, by unfold metW; rw [e]; simp⟩)
    | none =>
      have le : endL (stayM ss pu wi) (List.range n) (List.range n) = [] := by
        refine List.eq_nil_iff_forall_not_mem.mpr fun j hj => ?_
        have := (eo.2.2.2.2.2 e j).mp hj
        exact this.2 this.1
      refine ⟨rfl, ?_⟩
      walk_at "r"
      intro Ad nA
      have s2 := same_upd (o := .dK []) nA
      have hA : upd H1 Ad (.dK []) Ad = some (.dK []) := upd_same
      generalize upd H1 Ad (.dK []) = H2 at *
      walk_at "r"
      refine ⟨L, Ad, _, xs, List.range n, List.range n, [], stayM ss pu wi, fun _ => 0, 1, 256, 1, rfl, s2 _ _ hL, steps_same s2 hst, IsDf.nil hA, .nil, fun j => by rw [le], ⟨_, rfl, .inr T.t_ONE⟩, .inr rfl, od, by rw [List.length_range]; exact ok.n8, (ok.cds od).1, by decide, ?_, by decide, fun H3 F js s3 nF hF njs ejs => ?_⟩
      · rw [le]
        exact ⟨1, by decide, by decide, by simp⟩
      · walk_at "r"
        exact ⟨F, n, js, _, rfl, hF, njs, ejs, ok.n8, fun H4 u s4 hu => q _ _ ((s1.trans s2).trans (s3.trans s4)) (.inr ⟨e, hu⟩)⟩
end
end My
namespace My
open PySem PySem.Spec PyProof.Rows L2
variable {K : PySem.W.Frag}
/-! ### scales and bars judged -/
theorem c2F {p : Addr} {H : Hp} (h : SqT K (fun _ => none) p [.int 2, .int 1]) : IsF K H (.ref p) 2 := ⟨p, rfl, .inr h⟩
theorem c1F {p : Addr} {H : Hp} (h : SqT K (fun _ => none) p [.int 1, .int 1]) : IsF K H (.ref p) 1 := ⟨p, rfl, .inr h⟩
theorem sub_nn {a b : Rat} (h : ¬ a < b) : 0 ≤ a - b := by grind
theorem sub_ng {a b : Rat} (h : a < b) (z : 0 ≤ a - b) : False := by grind
/-- a tuple of amounts -/
structure OkA (n : Nat) (ρ : List Rat) : Prop where
  len : ρ.length = n
  nn : ∀ r ∈ ρ, 0 ≤ r
  cd : CDv 2100 (fun i => ρ.getD i 0) (List.range n)
def xOf (ρ : List Rat) : Nat → Rat := fun i => ρ.getD i 0
theorem OkA.at {n : Nat} {ρ : List Rat} (h : OkA n ρ) {i : Nat} (hi : i < n) : 0 ≤ ρ.getD i 0 ∧ Bd 2100 (ρ.getD i 0) := by
  refine ⟨h.nn _ ?_, h.cd.bd (List.mem_range.mpr hi)⟩
  rw [List.getD_eq_getElem?_getD, List.getElem?_eq_getElem (by rw [h.len]; exact hi)]
  exact List.getElem_mem _
theorem getD_map {n i : Nat} (z : Nat → Rat) (hi : i < n) : ((List.range n).map z).getD i 0 = z i := by
  rw [List.getD_eq_getElem?_getD, List.getElem?_map, List.getElem?_range hi]
  rfl
theorem OkA.of {n c : Nat} {z : Nat → Rat} (h0 : ∀ j ∈ List.range n, 0 ≤ z j) (h : CDv c z (List.range n)) (hc : c ≤ 2100) : OkA n ((List.range n).map z) := by
  refine ⟨by simp, fun r hr => ?_, ?_⟩
  · obtain ⟨j, hj, rfl⟩ := List.mem_map.mp hr
    exact h0 j hj
  · obtain ⟨d, d0, d1, hd⟩ := h.mono hc
    exact ⟨d, d0, d1, fun j hj => by
      show Gr _ d (((List.range n).map z).getD j 0)
      rw [getD_map z (List.mem_range.mp hj)]
      exact hd j hj⟩
theorem fc_le2 {c m : Nat} (hm : m ≤ 8) : fc 256 c m ≤ c + 1813 := by
  cases m with
  | zero => exact Nat.le_add_right _ _
  | succ i =>
    show c + i * (256 + 3) ≤ _
    have := Nat.mul_le_mul_right 259 (show i ≤ 7 by omega)
    omega
theorem big_mul {N D e f k : Nat} (h1 : N ≤ 2 ^ e) (h2 : D ≤ 2 ^ f) (h : e + f ≤ k) : N * D ≤ 2 ^ k := by
  refine Nat.le_trans (Nat.mul_le_mul h1 h2) ?_
  rw [← Nat.pow_add]
  exact Nat.pow_le_pow_right (by decide) h
theorem lt89 {N e : Nat} (h : N ≤ 2 ^ e) (he : e < 8900) : N < 2 ^ 8900 := Nat.lt_of_le_of_lt h (Nat.pow_lt_pow_right (by decide) he)
/-- a bar where a slant is wrong, over one bottom -/
theorem barY_cd {M : Tbl} {ls : List Nat} {w o : Nat} (h : CD 256 M ls) (hw : w ∈ ls) (hc : M w w < 0 ∨ (M w w = 0 ∧ o ∈ ls ∧ o ≠ w ∧ M w o ≠ 0)) : CDv 258 (barY M w o) ls := by
  rcases hc with h1 | ⟨h1, ho, ow, hn⟩
  · refine ⟨1, by decide, by decide, fun j hj => ?_⟩
    unfold barY
    split
    · rw [if_neg (by grind)]
      exact (Gr.one 1).mono (by decide)
    · rw [if_neg (fun z => by have := z.2; grind)]
      exact (Gr.zero 1).mono (by decide)
  · obtain ⟨d, d0, d1, hd⟩ := h
    obtain ⟨n, hn1, en⟩ := hd o ho o ho
    obtain ⟨u, hu, eu⟩ := hd w hw o ho
    have dp : (0 : Rat) < (d : Rat) := by
      have : ((0 : Int) : Rat) < ((d : Int) : Rat) := Rat.intCast_lt_intCast.mpr (by omega)
      exact this
    have u0 : u ≠ 0 := fun z => by
      rw [z] at eu
      rcases Rat.mul_eq_zero.mp (show M w o * (d : Rat) = 0 from eu) with q | q
      · exact hn q
      · grind
    have pw : (2 : Nat) ^ 258 = 4 * 2 ^ 256 := by
      rw [show (258 : Nat) = 256 + 2 from rfl, Nat.pow_add, Nat.mul_comm]
    have e : (if M o o < 0 then -M o o else M o o) * (d : Rat) = ((n.natAbs : Nat) : Rat) := by
      show _ = (((n.natAbs : Nat) : Int) : Rat)
      split
      · rename_i c
        have : n < 0 := by
          have : (n : Rat) < ((0 : Int) : Rat) := by
            rw [← en]
            have := Rat.mul_pos (a := -M o o) (by grind) dp
            show M o o * d < 0
            grind
          exact Rat.intCast_lt_intCast.mp this
        rw [show ((n.natAbs : Nat) : Int) = -n by omega, Rat.intCast_neg, ← en]
        grind
      · rename_i c
        have : 0 ≤ n := by
          have : ((0 : Int) : Rat) ≤ (n : Rat) := by
            rw [← en]
            exact Rat.mul_nonneg (by grind) (Rat.le_of_lt dp)
          exact Rat.intCast_le_intCast.mp this
        rw [Int.natAbs_of_nonneg this, ← en]
    refine ⟨u.natAbs, by omega, by omega, fun j hj => ?_⟩
    unfold barY
    split
    · have key : (1 + (if M o o < 0 then -M o o else M o o)) / -M w o * (u : Rat) = -((d : Rat) + ((n.natAbs : Nat) : Rat)) := by
        rw [← eu, ← e]
        have := Rat.div_mul_cancel (a := 1 + (if M o o < 0 then -M o o else M o o)) (b := -M w o) (by grind)
        generalize (1 + (if M o o < 0 then -M o o else M o o)) / -M w o = t at *
        generalize (if M o o < 0 then -M o o else M o o) = v at *
        grind
      by_cases c : 0 ≤ u
      · refine ⟨-((d : Int) + (n.natAbs : Nat)), by omega, ?_⟩
        rw [show ((u.natAbs : Nat) : Rat) = (u : Rat) by
          show (((u.natAbs : Nat) : Int) : Rat) = (u : Rat)
          rw [Int.natAbs_of_nonneg c], key, Rat.intCast_neg, Rat.intCast_add]
        rfl
      · refine ⟨(d : Int) + (n.natAbs : Nat), by omega, ?_⟩
        rw [show ((u.natAbs : Nat) : Rat) = -(u : Rat) by
          show (((u.natAbs : Nat) : Int) : Rat) = -(u : Rat)
          rw [show ((u.natAbs : Nat) : Int) = -u by omega, Rat.intCast_neg], Rat.intCast_add]
        show _ = ((d : Rat) + ((n.natAbs : Nat) : Rat))
        grind
    · split
      · exact (Gr.one _).mono (by omega)
      · exact (Gr.zero _).mono (by omega)
end My
namespace My
open PySem PySem.Spec PyProof.Rows L2
variable {K : PySem.W.Frag}
section
variable {P : Program} {w : World} {K : PySem.W.Frag} {mg : Str → Option Value} {base : Heap} {f__wall f_is_integer f_is_row f_is_fraction f_is_amount f_is_some f_are_amounts f_added f_negated f_lessened f_multiplied f_divided f_squared f_summed f_lies_below f_is_stall f_hold_of f_stalls_of f_kept_of f_held f_roots f_check_purse f_check_wish f_may_stay f_table_of f_strike_row f_are_some f_filled_back f_in_order f_struck_in_turn f_scales f_is_scales f_l_deck f_l_pick f_l_divisor f_l_made f_l_added f_l_taken f_l_product f_l_amount f_l_stall f_l_held f_l_pulls f_l_edge f_l_deep f_l_changed f_l_are_some f_l_due f_l_is_judged f_l_word f_law f_Web_init f_Table_init f_Table_wrong_sign f_Table_behind f_Table_ties_without c_BadPurse c_BadWish c_Table c_Web c_ONE c_ZERO : Addr} {d__wall d_is_integer d_is_row d_is_fraction d_is_amount d_is_some d_are_amounts d_added d_negated d_lessened d_multiplied d_divided d_squared d_summed d_lies_below d_is_stall d_hold_of d_stalls_of d_kept_of d_held d_roots d_check_purse d_check_wish d_may_stay d_table_of d_strike_row d_are_some d_filled_back d_in_order d_struck_in_turn d_scales d_is_scales d_l_deck d_l_pick d_l_divisor d_l_made d_l_added d_l_taken d_l_product d_l_amount d_l_stall d_l_held d_l_pulls d_l_edge d_l_deep d_l_changed d_l_are_some d_l_due d_l_is_judged d_l_word d_law d_Web_init d_Table_init d_Table_wrong_sign d_Table_behind d_Table_ties_without : FuncData}
def sp_are_someA (K : PySem.W.Frag) : Sp := fun vs H Q _ => ∃ (x : V) (n : Nat) (ρ : List Rat), vs = [x, .int (n : Nat)] ∧ IsFs K H x ρ ∧ OkA n ρ ∧ n ≤ 8 ∧ ∀ H' b, Same H H' → (b = true ↔ ∀ r ∈ ρ, 0 < r) → Q (.bl b) H'
theorem ok_are_someA (T : Txt K mg f__wall f_is_integer f_is_row f_is_fraction f_is_amount f_is_some f_are_amounts f_added f_negated f_lessened f_multiplied f_divided f_squared f_summed f_lies_below f_is_stall f_hold_of f_stalls_of f_kept_of f_held f_roots f_check_purse f_check_wish f_may_stay f_table_of f_strike_row f_are_some f_filled_back f_in_order f_struck_in_turn f_scales f_is_scales f_l_deck f_l_pick f_l_divisor f_l_made f_l_added f_l_taken f_l_product f_l_amount f_l_stall f_l_held f_l_pulls f_l_edge f_l_deep f_l_changed f_l_are_some f_l_due f_l_is_judged f_l_word f_law f_Web_init f_Table_init f_Table_wrong_sign f_Table_behind f_Table_ties_without c_BadPurse c_BadWish c_Table c_Web c_ONE c_ZERO d__wall d_is_integer d_is_row d_is_fraction d_is_amount d_is_some d_are_amounts d_added d_negated d_lessened d_multiplied d_divided d_squared d_summed d_lies_below d_is_stall d_hold_of d_stalls_of d_kept_of d_held d_roots d_check_purse d_check_wish d_may_stay d_table_of d_strike_row d_are_some d_filled_back d_in_order d_struck_in_turn d_scales d_is_scales d_l_deck d_l_pick d_l_divisor d_l_made d_l_added d_l_taken d_l_product d_l_amount d_l_stall d_l_held d_l_pulls d_l_edge d_l_deep d_l_changed d_l_are_some d_l_due d_l_is_judged d_l_word d_law d_Web_init d_Table_init d_Table_wrong_sign d_Table_behind d_Table_ties_without) : FnOk P w K mg base CX0 5 f_are_some d_are_some ["things", "number"] (sp_are_someA K) := by
  have G_are_amounts : FnOk P w K mg base CX0 4 f_are_amounts d_are_amounts ["things", "number"] (sp_are_amounts K) := ok_are_amounts T
  refine T.F_are_some.ok sc_are_some (fun vs H Q E h => ?_) (fun cdv A outer sh H vs Q E hr h => ?_)
  · obtain ⟨x, n, ρ, rfl, _⟩ := h
    rfl
  · obtain ⟨x, n, ρ, rfl, ⟨t, ys, rfl, ht, hf⟩, hρ, n8, q⟩ := h
    have hl := hf.len
    have hn := hρ.len
    refine ⟨_, (pss_cons (ps_if (PW.pt (pw_or (pt_not (pt_val (pe_callB call_isi (by rfl) T.z_isinstance (by decide +kernel) (pa_cons (pv 0) (pa_cons (pe_bltn (v := .ty "tuple") (u := .type "tuple") (by rfl) T.z_tuple (by decide +kernel) rfl) pa_nil))))) (pw_or1 (pt_not (pt_val (pe_call G_are_amounts (hr.mono (by decide)) (by rfl) T.g_are_amounts T.k_are_amounts T.b_are_amounts .nil pass0 (pa_cons (pv 0) (pa_cons (pv 1) pa_nil))))))))
        (pss_one (ps_ret pe_bl))
        pss_nil)
      (pss_one (ps_ret (pe_callB (cr_all rfl) (by rfl) T.z_all (by decide +kernel) (pa_cons (pe_lc (own := [("thing", 2)]) (g := gName 2) rfl sc_are_some.nd (pi_tup (pv 0)) (blkOk_by (own := [("thing", 2)]) (N := N_are_some) (sc := defScope s_are_some) (by decide +kernel)) (fun _ _ _ _ _ => (pg_name (i := 2) sc_are_some.nd rfl (by first | exact Or.inl rfl | exact Or.inr rfl))) (fun _ _ _ _ _ => pts_nil) (fun _ _ _ _ _ => (pe_cmpR op_gt (pe_ix (My.ix_tupK (K := K) (by rfl)) (pv 2) pe_int (fun _ _ => rfl)) pe_int (nomark _)))) pa_nil))))), ?_⟩
    walk_at "r"
    refine ⟨t, ys, ρ, by rw [hn]; rfl, .inr (.of ht), hf, hρ.nn, by omega, fun H1 s1 => ?_⟩
    walk_at "r"
    refine ⟨⟨_, .of (s1 _ _ ht)⟩, fun D nD => ?_⟩
    refine lc_tupP (R := fun H v (b : Bool) => v = .bl b) (fun _ _ _ _ _ h => h) (f := fun i => (ρ[i]?).map fun r => decide (0 < r)) nD (by omega) (.of (s1 _ _ ht)) (fun i x hx H' Q' N' s3 hy _ => ?_) fun H3 hl3 => ?_
    · obtain ⟨r, hr1, hr2⟩ := Paired.at hf hx
      obtain ⟨p, rfl, hp⟩ := hr2.same (s1.trans s3)
      walk_at "r"
      refine ⟨rfl, ?_⟩
      walk_at "r"
      refine hy (decide (0 < r)) _ _ (by show (ρ[i]?).map _ = _; rw [hr1]; rfl) (Same.refl _) ?_
      congr 1
      have : 0 < r ↔ 0 < r.num := by
        rw [Rat.lt_iff]
        simp
      rw [decide_eq_decide]
      exact this.symm
    · obtain ⟨s3, bs, hD, hbs⟩ := hl3
      rw [hl, upTo_list] at hbs
      have e := bools_of hbs
      subst e
      walk_at "r"
      refine ⟨D, _, rfl, .of hD, ?_⟩
      refine q _ _ (s1.trans s3) ?_
      rw [List.all_eq_true]
      constructor
      · intro h r hr
        exact of_decide_eq_true (h (decide (0 < r)) (List.mem_map.mpr ⟨r, hr, rfl⟩))
      · intro h b hb
        obtain ⟨r, hr, rfl⟩ := List.mem_map.mp hb
        exact decide_eq_true (h r hr)
def sp_is_scales (K : PySem.W.Frag) (C : Addr) : Sp := fun vs H Q _ => ∃ (x p v y : V) (n : Nat) (ss : List Stl) (pu wi ρ : List Rat), vs = [x, p, v, y] ∧ IsWeb K C H x n ss ∧ IsRow K H p pu ∧ IsRow K H v wi ∧ OkT n ss pu wi ∧ IsFs K H y ρ ∧ OkA n ρ ∧
  ∀ H' b, Same H H' → (b = true ↔ ∀ i, i < n → 0 < xOf ρ i ∧ 0 ≤ row (stayM ss pu wi) (List.range n) (xOf ρ) i) → Q (.bl b) H'
theorem ok_is_scales (T : Txt K mg f__wall f_is_integer f_is_row f_is_fraction f_is_amount f_is_some f_are_amounts f_added f_negated f_lessened f_multiplied f_divided f_squared f_summed f_lies_below f_is_stall f_hold_of f_stalls_of f_kept_of f_held f_roots f_check_purse f_check_wish f_may_stay f_table_of f_strike_row f_are_some f_filled_back f_in_order f_struck_in_turn f_scales f_is_scales f_l_deck f_l_pick f_l_divisor f_l_made f_l_added f_l_taken f_l_product f_l_amount f_l_stall f_l_held f_l_pulls f_l_edge f_l_deep f_l_changed f_l_are_some f_l_due f_l_is_judged f_l_word f_law f_Web_init f_Table_init f_Table_wrong_sign f_Table_behind f_Table_ties_without c_BadPurse c_BadWish c_Table c_Web c_ONE c_ZERO d__wall d_is_integer d_is_row d_is_fraction d_is_amount d_is_some d_are_amounts d_added d_negated d_lessened d_multiplied d_divided d_squared d_summed d_lies_below d_is_stall d_hold_of d_stalls_of d_kept_of d_held d_roots d_check_purse d_check_wish d_may_stay d_table_of d_strike_row d_are_some d_filled_back d_in_order d_struck_in_turn d_scales d_is_scales d_l_deck d_l_pick d_l_divisor d_l_made d_l_added d_l_taken d_l_product d_l_amount d_l_stall d_l_held d_l_pulls d_l_edge d_l_deep d_l_changed d_l_are_some d_l_due d_l_is_judged d_l_word d_law d_Web_init d_Table_init d_Table_wrong_sign d_Table_behind d_Table_ties_without) : FnOk P w K mg base CX0 6 f_is_scales d_is_scales ["web", "purse", "wish", "thing"] (sp_is_scales K c_Web) := by
  have G_check_purse : FnOk P w K mg base CX0 5 f_check_purse d_check_purse ["web", "purse"] (sp_check_purse K c_Web) := ok_check_purse T
  have G_check_wish : FnOk P w K mg base CX0 5 f_check_wish d_check_wish ["web", "wish"] (sp_check_wish K c_Web) := ok_check_wish T
  have G_are_some : FnOk P w K mg base CX0 5 f_are_some d_are_some ["things", "number"] (sp_are_someA K) := ok_are_someA T
  have G_may_stay : FnOk P w K mg base CX0 5 f_may_stay d_may_stay ["web", "purse", "wish"] (sp_may_stay K c_Web) := ok_may_stay T
  have G_roots : FnOk P w K mg base CX0 2 f_roots d_roots ["web"] (sp_roots K c_Web) := ok_roots T
  have G_multiplied : FnOk P w K mg base CX0 1 f_multiplied d_multiplied ["one", "other"] (sp_multiplied K) := ok_multiplied T
  have G_summed : FnOk P w K mg base CX0 2 f_summed d_summed ["fractions"] (sp_summedG K) := ok_summedG T
  have G_lies_below : FnOk P w K mg base CX0 1 f_lies_below d_lies_below ["one", "other"] (sp_below K) := ok_lies_below T
  refine T.F_is_scales.ok sc_is_scales (fun vs H Q E h => ?_) (fun cdv A outer s H vs Q E hr h => ?_)
  · obtain ⟨x, p, v, y, n, ss, pu, wi, ρ, rfl, _⟩ := h
    rfl
  · obtain ⟨x, p, v, y, n, ss, pu, wi, ρ, rfl, hw, hp, hv, ok, hy, okA, q⟩ := h
    have n8 := ok.n8
    obtain ⟨d, d0, d1, hd, hdr⟩ := ok.gr
    obtain ⟨e, e0, e1, he⟩ := okA.cd
    have oks : ∀ s ∈ ss, OkSt n s := fun s hs => (ok.ok s hs).1
    have grR : ∀ i, i < n → ∀ j, j < n → Gr (2 ^ 27) d (rootM ss i j) := fun i hi j hj => by
      by_cases c : i = j
      · subst c
        rw [rootM_self oks]
        exact (Gr.zero d).mono (Nat.zero_le _)
      · have := (hd i hi j hj).neg
        unfold stayM at this
        rw [if_neg c] at this
        have e : - -rootM ss i j = rootM ss i j := by grind
        rw [e] at this
        exact this
    have grS : ∀ i, i < n → Gr (2 ^ 27) d (stayAt ss pu wi i) := fun i hi => by
      have := hd i hi i hi
      unfold stayM at this
      rw [if_pos rfl] at this
      exact this
    have D1 : d * e ≤ 2 ^ 2124 := big_mul (Nat.le_of_lt d1) (Nat.le_of_lt e1) (by decide)
    have N1 : 2 ^ 27 * (2 ^ 2100 - 1) ≤ 2 ^ 2127 := big_mul (Nat.le_refl _) (Nat.sub_le _ _) (by decide)
    generalize hN : 2 ^ 27 * (2 ^ 2100 - 1) = N at *
    have N2 : ∀ k, k ≤ 16 → k * N < 2 ^ 8900 := fun k hk => lt89 (big_mul (e := 4) (show k ≤ 2 ^ 4 by omega) N1 (Nat.le_refl _)) (by decide)
    have bdR : ∀ i, i < n → ∀ j, j < n → Bd 8900 (rootM ss i j) := fun i hi j hj => (grR i hi j hj).bd d0 (Nat.pow_lt_pow_right (by decide) (by decide)) (Nat.lt_of_lt_of_le d1 (pow_le (by decide)))
    refine ⟨_, (pss_cons (ps_expr (pe_call G_check_purse (hr.mono (by decide)) (by rfl) T.g_check_purse T.k_check_purse T.b_check_purse .nil pass0 (pa_cons (pv 0) (pa_cons (pv 1) pa_nil))))
      (pss_cons (ps_expr (pe_call G_check_wish (hr.mono (by decide)) (by rfl) T.g_check_wish T.k_check_wish T.b_check_wish .nil pass0 (pa_cons (pv 0) (pa_cons (pv 2) pa_nil))))
      (pss_cons (ps_if (pt_not (pt_val (pe_call G_are_some (hr.mono (by decide)) (by rfl) T.g_are_some T.k_are_some T.b_are_some .nil pass0 (pa_cons (pv 3) (pa_cons (pe_fld (pv 0) rfl) pa_nil)))))
        (pss_one (ps_ret pe_bl))
        pss_nil)
      (pss_cons (ps_set (i := 4) sc_is_scales.nd rfl (by first | exact Or.inl rfl | exact Or.inr rfl) (pe_call G_may_stay (hr.mono (by decide)) (by rfl) T.g_may_stay T.k_may_stay T.b_may_stay .nil pass0 (pa_cons (pv 0) (pa_cons (pv 1) (pa_cons (pv 2) pa_nil)))))
      (pss_cons (ps_set (i := 5) sc_is_scales.nd rfl (by first | exact Or.inl rfl | exact Or.inr rfl) (pe_call G_roots (hr.mono (by decide)) (by rfl) T.g_roots T.k_roots T.b_roots .nil pass0 (pa_cons (pv 0) pa_nil)))
      (pss_cons (ps_for PassesOwn.never rfl (pi_range1 (by rfl) T.z_range (pa_cons (pe_fld (pv 0) rfl) pa_nil)) (pg_name (i := 6) sc_is_scales.nd rfl (by first | exact Or.inl rfl | exact Or.inr rfl))
        (pss_cons (ps_setLc (i := 7) (own := [("other", 8)]) (g := gName 8) rfl sc_is_scales.nd rfl rfl (sw_true rfl rfl rfl (by decide +kernel)) (pi_range1 (by rfl) T.z_range (pa_cons (pe_fld (pv 0) rfl) pa_nil)) (blkOk_by (own := [("other", 8)]) (N := N_is_scales) (sc := defScope s_is_scales) (by decide +kernel)) (fun _ _ _ _ _ => (pg_name (i := 8) sc_is_scales.nd rfl (by first | exact Or.inl rfl | exact Or.inr rfl))) (fun _ _ _ _ _ => pts_nil) (fun _ _ _ _ _ => (pe_call G_multiplied (hr.mono (by decide)) (by rfl) T.g_multiplied T.k_multiplied T.b_multiplied .nil pass0 (pa_cons (pe_ix (My.ix_tupK (K := K) (by rfl)) (pe_ix (My.ix_tupK (K := K) (by rfl)) (pv 5) (pv 6) (fun _ _ => rfl)) (pv 8) (fun _ _ => rfl)) (pa_cons (pe_ix (My.ix_tupK (K := K) (by rfl)) (pv 3) (pv 8) (fun _ _ => rfl)) pa_nil)))))
          (pss_one (ps_if (pt_val (pe_call G_lies_below (hr.mono (by decide)) (by rfl) T.g_lies_below T.k_lies_below T.b_lies_below .nil pass0 (pa_cons (pe_call G_multiplied (hr.mono (by decide)) (by rfl) T.g_multiplied T.k_multiplied T.b_multiplied .nil pass0 (pa_cons (pe_ix ix_list (pv 4) (pv 6) (fun _ _ => rfl)) (pa_cons (pe_ix ix_tup (pv 3) (pv 6) (fun _ _ => rfl)) pa_nil))) (pa_cons (pe_call G_summed (hr.mono (by decide)) (by rfl) T.g_summed T.k_summed T.b_summed .nil pass0 (pa_cons (pv 7) pa_nil)) pa_nil))))
            (pss_one (ps_ret pe_bl))
            pss_nil))))
      (pss_one (ps_ret pe_bl)))))))), ?_⟩
    walk_at "r"
    refine ⟨x, p, n, ss, pu, rfl, hw, hp, ok.lp, n8, ok.p0, fun H1 s1 => ?_⟩
    walk_at "r"
    refine ⟨x, v, n, ss, wi, rfl, hw.same s1, hv.same s1, ok.lw, n8, ok.w0, fun H2 s2 => ?_⟩
    have k2 := s1.trans s2
    obtain ⟨pw, dx, t, xs, rfl, hpw, htw⟩ := id hw
    walk_at "r"
    refine ⟨_, _, _, _, _, rfl, k2 _ _ hpw, T.w_Web.it.cl, T.n_Web_wares, wF_wares _ _, ?_⟩
    walk_at "r"
    refine ⟨y, n, ρ, rfl, hy.same k2, okA, n8, fun H3 b3 s3 hb3 => ?_⟩
    have k3 := k2.trans s3
    have lρ := okA.len
    cases b3 with
    | false =>
      walk_at "r"
      refine q _ _ k3 ⟨fun z => (nomatch z), fun z => ?_⟩
      have : ∀ r ∈ ρ, 0 < r := fun r hr => by
        obtain ⟨i, hi⟩ := List.getElem?_of_mem hr
        have hil := (List.getElem?_eq_some_iff.mp hi).1
        have := (z i (by omega)).1
        unfold xOf at this
        rw [List.getD_eq_getElem?_getD, hi] at this
        exact this
      have := hb3.mpr this
      cases this
    | true =>
      have pos := hb3.mp rfl
      have posx : ∀ i, i < n → 0 < xOf ρ i := fun i hi => pos _ (by
        unfold xOf
        rw [List.getD_eq_getElem?_getD, List.getElem?_eq_getElem (by omega)]
        exact List.getElem_mem _)
      walk_at "r"
      refine ⟨_, p, v, n, ss, pu, wi, rfl, hw.same k3, hp.same k3, hv.same k3, ok.toOkP, fun H4 L ysL s4 nL hL hys => ?_⟩
      have k4 := k3.trans s4
      walk_at "r"
      refine ⟨_, n, 200, ss, rfl, hw.same k4, n8, ok.l16, fun s hs => ⟨(ok.ok s hs).1, (ok.ok s hs).2.r⟩, by decide, fun H5 rt s5 hrt => ?_⟩
      have k5 := k4.trans s5
      have hL5 := s5 _ _ hL
      have hys5 := hys.same s5
      obtain ⟨ty, yy, rfl, hty0, hfy0⟩ := id hy
      have hty := k5 _ _ hty0
      have hfy := hfy0.same k5
      walk_at "r"
      refine ⟨_, _, _, _, _, rfl, k5 _ _ hpw, T.w_Web.it.cl, T.n_Web_wares, wF_wares _ _, ?_⟩
      walk_at "r"
      refine ⟨by omega, by omega, ?_⟩
      refine for_range (lo := 0) (n := n) (fun i σ H' => ∃ t6 t7 t8 : Option V, σ = [some (.ref pw), some p, some v, some (.ref ty), some (.ref L), some rt, t6, t7, t8] ∧ Same H5 H' ∧ ∀ j, j < i → 0 ≤ row (stayM ss pu wi) (List.range n) (xOf ρ) j) ?_ ?_ ?_
      · exact ⟨_, _, _, rfl, Same.refl _, fun j hj => absurd hj (Nat.not_lt_zero _)⟩
      · rintro i σ H' hi ⟨t6, t7, t8, rfl, s6, hall⟩
        have hi : i < n := hi
        have hpw6 := s6 _ _ (k5 _ _ hpw)
        rw [Int.zero_add]
        walk_at "r"
        refine ⟨_, _, _, _, _, rfl, hpw6, T.w_Web.it.cl, T.n_Web_wares, wF_wares _ _, ?_⟩
        walk_at "r"
        refine ⟨by omega, by omega, fun D nD => ?_⟩
        refine lc_rangeP (R := IsF K) (fun _ _ _ _ f h => h.ts f) (f := fun j => some (rootM ss i j * xOf ρ j)) nD (by omega) (fun j hj H7 Q7 N7 s7 hq hn => ?_) fun H7 hlst => ?_
        · have hj : j < n := hj
          obtain ⟨tr, yr, rfl, htr, hpr⟩ := (hrt.same s6).same s7
          obtain ⟨vr, hvr, tq, yq, rfl, htq, hpq⟩ := Paired.get' hpr (i := i) (a := (List.range n).map (rootM ss i)) (by unfold rootsAt; rw [List.getElem?_map, List.getElem?_range hi]; rfl)
          obtain ⟨vf, hvf, ivf⟩ := Paired.get' hpq (i := j) (a := rootM ss i j) (by rw [List.getElem?_map, List.getElem?_range hj]; rfl)
          obtain ⟨vx, hvx, ivx⟩ := hfy.getD' (i := j) (by omega)
          rw [Int.zero_add]
          walk_at "r"
          refine ⟨rfl, ?_⟩
          walk_at "r"
          refine rd_ixT htr (at_some hvr) ?_
          walk_at "r"
          refine rd_ixT htq (at_some hvf) ?_
          walk_at "r"
          refine rd_ixT (s7 _ _ (s6 _ _ hty)) (at_some hvx) ?_
          walk_at "r"
          refine ⟨_, _, _, _, rfl, ivf, (ivx.same s6).same s7, bdR i hi j hj, (okA.at hj).2.mono (by decide), trivial, fun H8 v8 s8 h8 => ?_⟩
          exact hq _ _ _ rfl s8 h8
        · obtain ⟨s7, ys7, hD, hys7⟩ := hlst
          rw [show ((n : Nat) : Int).toNat = n from rfl, upTo_map] at hys7
          obtain ⟨vs', hvs', ivs⟩ := Paired.get' hys5 (i := i) (a := stayAt ss pu wi i) (by rw [List.getElem?_map, List.getElem?_range hi]; rfl)
          obtain ⟨vx, hvx, ivx⟩ := hfy.getD' (i := i) (by omega)
          have s67 := s6.trans s7
          have gs := grS i hi
          have bS : Bd 8900 (stayAt ss pu wi i) := gs.bd d0 (Nat.pow_lt_pow_right (by decide) (by decide)) (Nat.lt_of_lt_of_le d1 (pow_le (by decide)))
          have gp : Gr N (d * e) (stayAt ss pu wi i * xOf ρ i) := by
            have := gs.mul (he i (List.mem_range.mpr hi))
            rw [hN] at this
            exact this
          have gr1 : ∀ r ∈ (List.range n).map fun j => rootM ss i j * xOf ρ j, Gr N (d * e) r := fun r hr => by
            obtain ⟨j, hj, rfl⟩ := List.mem_map.mp hr
            have := (grR i hi j (List.mem_range.mp hj)).mul (he j hj)
            rw [hN] at this
            exact this
          walk_at "r"
          refine rd_ixL (s67 _ _ hL5) (at_some hvs') ?_
          walk_at "r"
          refine rd_ixT (s67 _ _ hty) (at_some hvx) ?_
          walk_at "r"
          refine ⟨_, _, _, _, rfl, ivs.same s67, ivx.same s67, bS, (okA.at hi).2.mono (by decide), trivial, fun H8 v8 s8 h8 => ?_⟩
          walk_at "r"
          refine ⟨D, ys7, _, N, d * e, rfl, s8 _ _ hD, Fs.same s8 hys7, gr1, Nat.mul_pos d0 e0, lt89 D1 (by decide), by rw [List.length_map, List.length_range]; exact N2 _ (by omega), fun H9 v9 s9 h9 => ?_⟩
          have b8 : Bd 8900 (stayAt ss pu wi i * xOf ρ i) := gp.bd (Nat.mul_pos d0 e0) (Nat.lt_of_le_of_lt (Nat.le_mul_of_pos_left N (show 0 < 1 by decide)) (N2 1 (by decide))) (lt89 D1 (by decide))
          have b9 : Bd 8900 (sumR ((List.range n).map fun j => rootM ss i j * xOf ρ j)) := by
            refine (sumR_gr gr1).bd (Nat.mul_pos d0 e0) ?_ (lt89 D1 (by decide))
            rw [List.length_map, List.length_range]
            exact N2 n (by omega)
          walk_at "r"
          refine ⟨_, _, _, _, rfl, h8.same s9, h9, b8, b9, ?_⟩
          have er : row (stayM ss pu wi) (List.range n) (xOf ρ) i = stayAt ss pu wi i * xOf ρ i - sumR ((List.range n).map fun j => rootM ss i j * xOf ρ j) := by
            rw [row_stay oks pu wi (xOf ρ) hi, sumR_Sx, Sg_Sx]
          walk_at "r"
          walk_at "if"
          · rename_i c
            walk_at "r"
            refine q _ _ (k5.trans (s67.trans (s8.trans s9))) ⟨fun z => (nomatch z), fun z => ?_⟩
            have := (z i hi).2
            rw [er] at this
            exact (sub_ng c this).elim
          · rename_i c
            walk_at "r"
            refine ⟨_, _, _, rfl, s67.trans (s8.trans s9), fun j hj => ?_⟩
            by_cases ej : j = i
            · rw [ej, er]
              exact sub_nn c
            · exact hall j (by omega)
      · rintro σ H' ⟨t6, t7, t8, rfl, s6, hall⟩
        walk_at "r"
        exact q _ _ (k5.trans s6) ⟨fun _ i hi => ⟨posx i hi, hall i hi⟩, fun _ => rfl⟩
end
end My
namespace My
open PySem PySem.Spec PyProof.Rows L2
variable {K : PySem.W.Frag}
theorem ten6e : (10 : Int) ^ (6 : Int).toNat = 1000000 := by decide
theorem rat_pos {r : Rat} (h : 0 < r.num) : 0 < r := by
  rw [Rat.lt_iff]
  simpa using h
theorem divInt_pos {t b : Int} (ht : 0 < t) (hb : 0 < b) : 0 < Rat.divInt t b := by
  have h := (rat_cross (n := t) (d := b) (r := Rat.divInt t b) (by omega)).mp rfl
  have hd := den_pos (Rat.divInt t b)
  have h2 : 0 < t * ((Rat.divInt t b).den : Int) := Int.mul_pos ht hd
  rw [h] at h2
  refine rat_pos ?_
  exact Int.pos_of_mul_pos_left h2 hb
theorem divInt_mul' (r t : Rat) : Rat.divInt (r.num * t.num) ((r.den : Int) * t.den) = r * t := by
  rw [← Rat.divInt_mul_divInt, Rat.num_divInt_den, Rat.num_divInt_den]
theorem mul_lt' {a b : Int} {k l : Nat} (h1 : a.natAbs < 2 ^ k) (h2 : b.natAbs < 2 ^ l) : (a * b).natAbs < 2 ^ (k + l) := by
  rw [Int.natAbs_mul]
  exact nat_mul_lt h1 h2
theorem back_root (r f : Rat) (hf : 0 < f) : r * f * Rat.divInt (r.num * f.den) (r.den * f.num) = r * r := by
  have h0 : f.num * f.den ≠ 0 := Int.ne_of_gt (Int.mul_pos (num_pos' hf) (den_pos f))
  rw [← divInt_mul' r f, ← divInt_mul' r r, Rat.divInt_mul_divInt]
  rw [show r.num * f.num * (r.num * f.den) = r.num * r.num * (f.num * f.den) by grind, show (r.den : Int) * f.den * (r.den * f.num) = (r.den : Int) * r.den * (f.num * f.den) by grind]
  exact Rat.divInt_mul_right h0
theorem add_divInt (r t : Rat) : Rat.divInt (r.num * t.den + t.num * r.den) ((r.den : Int) * t.den) = r + t := by
  have h1 := den_pos r
  have h2 := den_pos t
  rw [← Rat.divInt_add_divInt r.num t.num (by omega) (by omega), Rat.num_divInt_den, Rat.num_divInt_den]
theorem sub_divInt (r t : Rat) : Rat.divInt (r.num * t.den - t.num * r.den) ((r.den : Int) * t.den) = r - t := by
  have h1 := den_pos r
  have h2 := den_pos t
  rw [Rat.sub_eq_add_neg, ← add_divInt r (-t)]
  show _ = Rat.divInt (r.num * t.den + -t.num * r.den) _
  rw [Int.neg_mul, ← Int.sub_eq_add_neg]
  rfl
section
variable {P : Program} {w : World} {K : PySem.W.Frag} {mg : Str → Option Value} {base : Heap} {f__wall f_is_integer f_is_row f_is_fraction f_is_amount f_is_some f_are_amounts f_added f_negated f_lessened f_multiplied f_divided f_squared f_summed f_lies_below f_is_stall f_hold_of f_stalls_of f_kept_of f_held f_roots f_check_purse f_check_wish f_may_stay f_table_of f_strike_row f_are_some f_filled_back f_in_order f_struck_in_turn f_scales f_is_scales f_l_deck f_l_pick f_l_divisor f_l_made f_l_added f_l_taken f_l_product f_l_amount f_l_stall f_l_held f_l_pulls f_l_edge f_l_deep f_l_changed f_l_are_some f_l_due f_l_is_judged f_l_word f_law f_Web_init f_Table_init f_Table_wrong_sign f_Table_behind f_Table_ties_without c_BadPurse c_BadWish c_Table c_Web c_ONE c_ZERO : Addr} {d__wall d_is_integer d_is_row d_is_fraction d_is_amount d_is_some d_are_amounts d_added d_negated d_lessened d_multiplied d_divided d_squared d_summed d_lies_below d_is_stall d_hold_of d_stalls_of d_kept_of d_held d_roots d_check_purse d_check_wish d_may_stay d_table_of d_strike_row d_are_some d_filled_back d_in_order d_struck_in_turn d_scales d_is_scales d_l_deck d_l_pick d_l_divisor d_l_made d_l_added d_l_taken d_l_product d_l_amount d_l_stall d_l_held d_l_pulls d_l_edge d_l_deep d_l_changed d_l_are_some d_l_due d_l_is_judged d_l_word d_law d_Web_init d_Table_init d_Table_wrong_sign d_Table_behind d_Table_ties_without : FuncData}
def sp_made (K : PySem.W.Frag) : Sp := fun vs H Q _ => ∃ n d : Int, vs = [.int n, .int d] ∧ 0 < d ∧ d.natAbs < 2 ^ 8900 ∧ ∀ H' v, Same H H' → IsF K H' v (Rat.divInt n d) → Q v H'
theorem ok_l_made (T : Txt K mg f__wall f_is_integer f_is_row f_is_fraction f_is_amount f_is_some f_are_amounts f_added f_negated f_lessened f_multiplied f_divided f_squared f_summed f_lies_below f_is_stall f_hold_of f_stalls_of f_kept_of f_held f_roots f_check_purse f_check_wish f_may_stay f_table_of f_strike_row f_are_some f_filled_back f_in_order f_struck_in_turn f_scales f_is_scales f_l_deck f_l_pick f_l_divisor f_l_made f_l_added f_l_taken f_l_product f_l_amount f_l_stall f_l_held f_l_pulls f_l_edge f_l_deep f_l_changed f_l_are_some f_l_due f_l_is_judged f_l_word f_law f_Web_init f_Table_init f_Table_wrong_sign f_Table_behind f_Table_ties_without c_BadPurse c_BadWish c_Table c_Web c_ONE c_ZERO d__wall d_is_integer d_is_row d_is_fraction d_is_amount d_is_some d_are_amounts d_added d_negated d_lessened d_multiplied d_divided d_squared d_summed d_lies_below d_is_stall d_hold_of d_stalls_of d_kept_of d_held d_roots d_check_purse d_check_wish d_may_stay d_table_of d_strike_row d_are_some d_filled_back d_in_order d_struck_in_turn d_scales d_is_scales d_l_deck d_l_pick d_l_divisor d_l_made d_l_added d_l_taken d_l_product d_l_amount d_l_stall d_l_held d_l_pulls d_l_edge d_l_deep d_l_changed d_l_are_some d_l_due d_l_is_judged d_l_word d_law d_Web_init d_Table_init d_Table_wrong_sign d_Table_behind d_Table_ties_without) : FnOk P w K mg base CX0 2 f_l_made d_l_made ["_law_top", "_law_bottom"] (sp_made K) := by
  have G_l_divisor : FnOk P w K mg base CX0 1 f_l_divisor d_l_divisor ["_law_one", "_law_other"] sp_divisor := ok_l_divisor T
  refine T.F_l_made.ok sc_l_made (fun vs H Q E h => ?_) (fun cdv A outer s H vs Q E hr h => ?_)
  · obtain ⟨n, d, rfl, _⟩ := h
    rfl
  · obtain ⟨n, d, rfl, hd, hb, q⟩ := h
    refine ⟨_, (pss_cons (ps_set (i := 2) sc_l_made.nd rfl (by first | exact Or.inl rfl | exact Or.inr rfl) (pe_call G_l_divisor (hr.mono (by decide)) (by rfl) T.g_l_divisor T.k_l_divisor T.b_l_divisor .nil pass0 (pa_cons (pv 0) (pa_cons (pv 1) pa_nil))))
      (pss_one (ps_ret (pe_tup (pa_cons (pe_op op_fdivX (pv 0) (pv 2)) (pa_cons (pe_op op_fdivX (pv 1) (pv 2)) pa_nil)))))), ?_⟩
    walk_at "r"
    refine ⟨_, _, rfl, Nat.lt_of_lt_of_le hb (pow_le (by decide)), ?_⟩
    obtain ⟨m1, m2, m3⟩ := low_math (n := n) hd hb _ rfl
    walk_at "r"
    · intro p np
      exact q _ _ (same_upd np) (isF_new m2 m3)
    all_goals exact m1 _
theorem p20k {n : Nat} (h : n < 2 ^ 4400) : n < 2 ^ 20000 := Nat.lt_of_lt_of_le h (pow_le (by decide))
def sp_two9 (K : PySem.W.Frag) (f : Rat → Rat → Rat) : Sp := fun vs H Q _ => ∃ x y r s, vs = [x, y] ∧ IsF K H x r ∧ IsF K H y s ∧ Bd 4400 r ∧ Bd 4400 s ∧ ∀ H' v, Same H H' → IsF K H' v (f r s) → Q v H'
theorem ok_l_added (T : Txt K mg f__wall f_is_integer f_is_row f_is_fraction f_is_amount f_is_some f_are_amounts f_added f_negated f_lessened f_multiplied f_divided f_squared f_summed f_lies_below f_is_stall f_hold_of f_stalls_of f_kept_of f_held f_roots f_check_purse f_check_wish f_may_stay f_table_of f_strike_row f_are_some f_filled_back f_in_order f_struck_in_turn f_scales f_is_scales f_l_deck f_l_pick f_l_divisor f_l_made f_l_added f_l_taken f_l_product f_l_amount f_l_stall f_l_held f_l_pulls f_l_edge f_l_deep f_l_changed f_l_are_some f_l_due f_l_is_judged f_l_word f_law f_Web_init f_Table_init f_Table_wrong_sign f_Table_behind f_Table_ties_without c_BadPurse c_BadWish c_Table c_Web c_ONE c_ZERO d__wall d_is_integer d_is_row d_is_fraction d_is_amount d_is_some d_are_amounts d_added d_negated d_lessened d_multiplied d_divided d_squared d_summed d_lies_below d_is_stall d_hold_of d_stalls_of d_kept_of d_held d_roots d_check_purse d_check_wish d_may_stay d_table_of d_strike_row d_are_some d_filled_back d_in_order d_struck_in_turn d_scales d_is_scales d_l_deck d_l_pick d_l_divisor d_l_made d_l_added d_l_taken d_l_product d_l_amount d_l_stall d_l_held d_l_pulls d_l_edge d_l_deep d_l_changed d_l_are_some d_l_due d_l_is_judged d_l_word d_law d_Web_init d_Table_init d_Table_wrong_sign d_Table_behind d_Table_ties_without) : FnOk P w K mg base CX0 3 f_l_added d_l_added ["_law_one", "_law_other"] (sp_two9 K (· + ·)) := by
  have G_l_made : FnOk P w K mg base CX0 2 f_l_made d_l_made ["_law_top", "_law_bottom"] (sp_made K) := ok_l_made T
  refine T.F_l_added.ok sc_l_added (fun vs H Q E h => ?_) (fun cdv A outer s H vs Q E hr h => ?_)
  · obtain ⟨x, y, r, t, rfl, _⟩ := h
    rfl
  · obtain ⟨x, y, r, t, rfl, ⟨p1, rfl, hp1⟩, ⟨p2, rfl, hp2⟩, b1, b2, q⟩ := h
    have c1 : ((r.den : Int)).natAbs < 2 ^ 4400 := by rw [Int.natAbs_natCast]; exact b1.2
    have c2 : ((t.den : Int)).natAbs < 2 ^ 4400 := by rw [Int.natAbs_natCast]; exact b2.2
    refine ⟨_, (pss_one (ps_ret (pe_call G_l_made (hr.mono (by decide)) (by rfl) T.g_l_made T.k_l_made T.b_l_made .nil pass0 (pa_cons (pe_op op_add (pe_op op_mulX (pe_ix ix_tup (pv 0) pe_int (fun _ _ => rfl)) (pe_ix ix_tup (pv 1) pe_int (fun _ _ => rfl))) (pe_op op_mulX (pe_ix ix_tup (pv 1) pe_int (fun _ _ => rfl)) (pe_ix ix_tup (pv 0) pe_int (fun _ _ => rfl)))) (pa_cons (pe_op op_mulX (pe_ix ix_tup (pv 0) pe_int (fun _ _ => rfl)) (pe_ix ix_tup (pv 1) pe_int (fun _ _ => rfl))) pa_nil))))), ?_⟩
    walk_at "r"
    · refine ⟨_, _, rfl, Int.mul_pos (den_pos r) (den_pos t), Nat.lt_of_lt_of_le (mul_lt' c1 c2) (pow_le (by decide)), fun H1 v s1 hv => ?_⟩
      rw [add_divInt] at hv
      exact q _ _ s1 hv
    · exact cmx (p20k c1) (p20k c2)
    · exact cmx (p20k b2.1) (p20k c1)
    · exact cmx (p20k b1.1) (p20k c2)
theorem ok_l_taken (T : Txt K mg f__wall f_is_integer f_is_row f_is_fraction f_is_amount f_is_some f_are_amounts f_added f_negated f_lessened f_multiplied f_divided f_squared f_summed f_lies_below f_is_stall f_hold_of f_stalls_of f_kept_of f_held f_roots f_check_purse f_check_wish f_may_stay f_table_of f_strike_row f_are_some f_filled_back f_in_order f_struck_in_turn f_scales f_is_scales f_l_deck f_l_pick f_l_divisor f_l_made f_l_added f_l_taken f_l_product f_l_amount f_l_stall f_l_held f_l_pulls f_l_edge f_l_deep f_l_changed f_l_are_some f_l_due f_l_is_judged f_l_word f_law f_Web_init f_Table_init f_Table_wrong_sign f_Table_behind f_Table_ties_without c_BadPurse c_BadWish c_Table c_Web c_ONE c_ZERO d__wall d_is_integer d_is_row d_is_fraction d_is_amount d_is_some d_are_amounts d_added d_negated d_lessened d_multiplied d_divided d_squared d_summed d_lies_below d_is_stall d_hold_of d_stalls_of d_kept_of d_held d_roots d_check_purse d_check_wish d_may_stay d_table_of d_strike_row d_are_some d_filled_back d_in_order d_struck_in_turn d_scales d_is_scales d_l_deck d_l_pick d_l_divisor d_l_made d_l_added d_l_taken d_l_product d_l_amount d_l_stall d_l_held d_l_pulls d_l_edge d_l_deep d_l_changed d_l_are_some d_l_due d_l_is_judged d_l_word d_law d_Web_init d_Table_init d_Table_wrong_sign d_Table_behind d_Table_ties_without) : FnOk P w K mg base CX0 3 f_l_taken d_l_taken ["_law_one", "_law_other"] (sp_two9 K (· - ·)) := by
  have G_l_made : FnOk P w K mg base CX0 2 f_l_made d_l_made ["_law_top", "_law_bottom"] (sp_made K) := ok_l_made T
  refine T.F_l_taken.ok sc_l_taken (fun vs H Q E h => ?_) (fun cdv A outer s H vs Q E hr h => ?_)
  · obtain ⟨x, y, r, t, rfl, _⟩ := h
    rfl
  · obtain ⟨x, y, r, t, rfl, ⟨p1, rfl, hp1⟩, ⟨p2, rfl, hp2⟩, b1, b2, q⟩ := h
    have c1 : ((r.den : Int)).natAbs < 2 ^ 4400 := by rw [Int.natAbs_natCast]; exact b1.2
    have c2 : ((t.den : Int)).natAbs < 2 ^ 4400 := by rw [Int.natAbs_natCast]; exact b2.2
    refine ⟨_, (pss_one (ps_ret (pe_call G_l_made (hr.mono (by decide)) (by rfl) T.g_l_made T.k_l_made T.b_l_made .nil pass0 (pa_cons (pe_op op_sub (pe_op op_mulX (pe_ix ix_tup (pv 0) pe_int (fun _ _ => rfl)) (pe_ix ix_tup (pv 1) pe_int (fun _ _ => rfl))) (pe_op op_mulX (pe_ix ix_tup (pv 1) pe_int (fun _ _ => rfl)) (pe_ix ix_tup (pv 0) pe_int (fun _ _ => rfl)))) (pa_cons (pe_op op_mulX (pe_ix ix_tup (pv 0) pe_int (fun _ _ => rfl)) (pe_ix ix_tup (pv 1) pe_int (fun _ _ => rfl))) pa_nil))))), ?_⟩
    walk_at "r"
    · refine ⟨_, _, rfl, Int.mul_pos (den_pos r) (den_pos t), Nat.lt_of_lt_of_le (mul_lt' c1 c2) (pow_le (by decide)), fun H1 v s1 hv => ?_⟩
      rw [sub_divInt] at hv
      exact q _ _ s1 hv
    · exact cmx (p20k c1) (p20k c2)
    · exact cmx (p20k b2.1) (p20k c1)
    · exact cmx (p20k b1.1) (p20k c2)
theorem ok_l_product (T : Txt K mg f__wall f_is_integer f_is_row f_is_fraction f_is_amount f_is_some f_are_amounts f_added f_negated f_lessened f_multiplied f_divided f_squared f_summed f_lies_below f_is_stall f_hold_of f_stalls_of f_kept_of f_held f_roots f_check_purse f_check_wish f_may_stay f_table_of f_strike_row f_are_some f_filled_back f_in_order f_struck_in_turn f_scales f_is_scales f_l_deck f_l_pick f_l_divisor f_l_made f_l_added f_l_taken f_l_product f_l_amount f_l_stall f_l_held f_l_pulls f_l_edge f_l_deep f_l_changed f_l_are_some f_l_due f_l_is_judged f_l_word f_law f_Web_init f_Table_init f_Table_wrong_sign f_Table_behind f_Table_ties_without c_BadPurse c_BadWish c_Table c_Web c_ONE c_ZERO d__wall d_is_integer d_is_row d_is_fraction d_is_amount d_is_some d_are_amounts d_added d_negated d_lessened d_multiplied d_divided d_squared d_summed d_lies_below d_is_stall d_hold_of d_stalls_of d_kept_of d_held d_roots d_check_purse d_check_wish d_may_stay d_table_of d_strike_row d_are_some d_filled_back d_in_order d_struck_in_turn d_scales d_is_scales d_l_deck d_l_pick d_l_divisor d_l_made d_l_added d_l_taken d_l_product d_l_amount d_l_stall d_l_held d_l_pulls d_l_edge d_l_deep d_l_changed d_l_are_some d_l_due d_l_is_judged d_l_word d_law d_Web_init d_Table_init d_Table_wrong_sign d_Table_behind d_Table_ties_without) : FnOk P w K mg base CX0 3 f_l_product d_l_product ["_law_one", "_law_other"] (sp_two9 K (· * ·)) := by
  have G_l_made : FnOk P w K mg base CX0 2 f_l_made d_l_made ["_law_top", "_law_bottom"] (sp_made K) := ok_l_made T
  refine T.F_l_product.ok sc_l_product (fun vs H Q E h => ?_) (fun cdv A outer s H vs Q E hr h => ?_)
  · obtain ⟨x, y, r, t, rfl, _⟩ := h
    rfl
  · obtain ⟨x, y, r, t, rfl, ⟨p1, rfl, hp1⟩, ⟨p2, rfl, hp2⟩, b1, b2, q⟩ := h
    have c1 : ((r.den : Int)).natAbs < 2 ^ 4400 := by rw [Int.natAbs_natCast]; exact b1.2
    have c2 : ((t.den : Int)).natAbs < 2 ^ 4400 := by rw [Int.natAbs_natCast]; exact b2.2
    refine ⟨_, (pss_one (ps_ret (pe_call G_l_made (hr.mono (by decide)) (by rfl) T.g_l_made T.k_l_made T.b_l_made .nil pass0 (pa_cons (pe_op op_mulX (pe_ix ix_tup (pv 0) pe_int (fun _ _ => rfl)) (pe_ix ix_tup (pv 1) pe_int (fun _ _ => rfl))) (pa_cons (pe_op op_mulX (pe_ix ix_tup (pv 0) pe_int (fun _ _ => rfl)) (pe_ix ix_tup (pv 1) pe_int (fun _ _ => rfl))) pa_nil))))), ?_⟩
    walk_at "r"
    · refine ⟨_, _, rfl, Int.mul_pos (den_pos r) (den_pos t), Nat.lt_of_lt_of_le (mul_lt' c1 c2) (pow_le (by decide)), fun H1 v s1 hv => ?_⟩
      rw [divInt_mul'] at hv
      exact q _ _ s1 hv
    · exact cmx (p20k c1) (p20k c2)
    · exact cmx (p20k b1.1) (p20k b2.1)
end
end My
namespace My
open PySem PySem.Spec PyProof.Rows L2
variable {K : PySem.W.Frag}
theorem eq_div_of {h x k : Rat} (hz : h ≠ 0) (e : h * x = k) : x = k / h := by
  rw [← e, Rat.div_def, Rat.mul_comm h x, Rat.mul_assoc, Rat.mul_inv_cancel h hz, Rat.mul_one]
theorem rest_is (r h : Rat) (h0 : 0 < h) : Rat.divInt (r.num * r.num * h.den) ((r.den : Int) * r.den * h.num) = r * r / h := by
  refine eq_div_of (ne_of_pos h0) ?_
  have hn : h.num * h.den ≠ 0 := Int.ne_of_gt (Int.mul_pos (num_pos' h0) (den_pos h))
  have e : h * Rat.divInt (r.num * r.num * h.den) ((r.den : Int) * r.den * h.num) = Rat.divInt h.num h.den * Rat.divInt (r.num * r.num * h.den) ((r.den : Int) * r.den * h.num) := by rw [Rat.num_divInt_den]
  rw [e, Rat.divInt_mul_divInt, ← divInt_mul' r r]
  rw [show h.num * (r.num * r.num * h.den) = r.num * r.num * (h.num * h.den) by grind, show (h.den : Int) * ((r.den : Int) * r.den * h.num) = (r.den : Int) * r.den * (h.num * h.den) by grind]
  exact Rat.divInt_mul_right hn
theorem isi_web {K : PySem.W.Frag} {H : Hp} {Q : VK} {p C dx : Addr} {fs : List (Str × V)} (h : H p = some (.ins C dx fs)) (it : InsT K C) (q : Q (.bl true) H) : rIsi K [.ref p, .ref C] H Q :=
  ⟨_, _, _, _, _, rfl, .own _, .base (.ins h it.cl it.ha it.hn it.ht it.mo), kit_self, q⟩
theorem many_at (b : Bool) : ∃ z : Int, (z = 8 ∨ z = 16) ∧ atI [V.int 8, V.int 16] (if b = true then 1 else 0) = some (.int z) := by
  cases b
  · exact ⟨8, .inl rfl, rfl⟩
  · exact ⟨16, .inr rfl, rfl⟩
theorem sq_fw {K : PySem.W.Frag} {M c : Nat} {D C a : Addr} {H H' : Hp} {ns : List Int} (h : SqL K H a (ns.map V.int)) (d : Deck M D C H c) (f : Fw D H H') : SqL K H' a (ns.map V.int) := by
  obtain ⟨cells, pl, rest, cnt, h0, h1, h2⟩ := d
  rcases h with (h | ⟨o, h⟩) | h
  · exact .inl (.inl (f _ _ (ne_of h h1 (by
      intro z
      cases ns with
      | nil => cases z
      | cons x l => cases z)) h))
  · exact .inl (.inr ⟨o, f _ _ (ne_of h h1 (by intro z; cases z)) h⟩)
  · exact .inr h
/-- the script's list, beside a new list at S -/
def Kept (K : PySem.W.Frag) (S a : Addr) (ns : List Int) (H : Hp) : Prop := (a ≠ S ∧ SqL K H a (ns.map V.int)) ∨ SqL K (fun _ => none) a (ns.map V.int)
theorem Kept.sq {K : PySem.W.Frag} {S a : Addr} {ns : List Int} {H : Hp} (h : Kept K S a ns H) : SqL K H a (ns.map V.int) := by
  rcases h with h | h
  · exact h.2
  · exact Same.seq (fun _ _ h => by cases h) h
theorem kept_new {K : PySem.W.Frag} {S a : Addr} {ns : List Int} {H : Hp} {o : HO} (h : SqL K H a (ns.map V.int)) (n : H S = none) : Kept K S a ns (upd H S o) := by
  have h0 := (same_upd (o := o) n).seq h
  rcases h with (h | ⟨_, h⟩) | h
  · exact .inl ⟨ne_of_none h n, h0⟩
  · exact .inl ⟨ne_of_none h n, h0⟩
  · exact .inr (.inr h)
theorem Kept.fw {K : PySem.W.Frag} {M c : Nat} {D C S a : Addr} {ns : List Int} {H H' : Hp} (h : Kept K S a ns H) (d : Deck M D C H c) (f : Fw D H H') : Kept K S a ns H' :=
  h.imp (fun h => ⟨h.1, sq_fw h.2 d f⟩) id
theorem Kept.put {K : PySem.W.Frag} {S a : Addr} {ns : List Int} {H : Hp} {o : HO} (h : Kept K S a ns H) : Kept K S a ns (upd H S o) := by
  refine h.imp (fun ⟨n, h⟩ => ⟨n, ?_⟩) id
  rcases h with (h | ⟨_, h⟩) | h
  · exact .inl (.inl ((upd_ne n).trans h))
  · exact .inl (.inr ⟨_, (upd_ne n).trans h⟩)
  · exact .inr h
theorem Sts.snoc {H : Hp} {xs : List V} {ss : List Stl} {v : V} {s : Stl} (h : Sts K H xs ss) (hv : IsSt K H v s) : Sts K H (xs ++ [v]) (ss ++ [s]) := by
  unfold Sts at *
  induction h with
  | nil => exact .cons hv .nil
  | cons h t ih => exact .cons h ih
/-- tuples stand when only the deck changes -/
theorem Fw.ts {M c : Nat} {D C : Addr} {H H' : Hp} (f : Fw D H H') (d : Deck M D C H c) : Tps H H' := fun b xs h => by
  obtain ⟨cells, pl, rest, cnt, h0, h1, h2⟩ := d
  exact f _ _ (ne_of h h1 (by intro z; cases z)) h
theorem IsMv.fw {M c : Nat} {D C : Addr} {H H' : Hp} {v : V} {i wn : Nat} {y : Rat} (f : Fw D H H') (d : Deck M D C H c) (h : IsMv K H v i wn y) : IsMv K H' v i wn y := by
  obtain ⟨p, vx, e, h, a⟩ := h
  exact ⟨p, vx, e, f.ts d _ _ h, a.ts (f.ts d)⟩
theorem IsWeb.fw {M c n : Nat} {D C B : Addr} {H H' : Hp} {x : V} {ss : List Stl} (f : Fw D H H') (d : Deck M D C H c) (h : IsWeb K B H x n ss) : IsWeb K B H' x n ss := by
  obtain ⟨p, dx, t, xs, e, h1, h2, h3⟩ := h
  have d' := d
  obtain ⟨cells, pl, rest, cnt, g0, g1, g2⟩ := d'
  exact ⟨p, dx, t, xs, e, f _ _ (ne_of h1 g1 (by intro z; cases z)) h1, f.ts d _ _ h2, h3.ts (f.ts d)⟩
end My
namespace My
open PySem PySem.Spec PyProof.Rows L2
variable {K : PySem.W.Frag}
/-! ### things judged by the program -/
theorem fn_or {P : Program} {w : World} {mg : Str → Option Value} {base : Heap} {CX : CXT} {k : Nat} {f : Addr} {fd : FuncData} {ps : List Str} {sp sp' : Sp} (F : FnOk P w K mg base CX k f fd ps sp)
    (G : FnOk P w K mg base CX k f fd ps sp') : FnOk P w K mg base CX k f fd ps (fun vs H Q E => sp vs H Q E ∨ sp' vs H Q E) :=
  ⟨fun vs H Q E q => q.elim (F.len vs H Q E) (G.len vs H Q E), fun A outer s H args us vs Q E hr he hb hv hs => hs.elim (F.run A outer s H args us vs Q E hr he hb hv) (G.run A outer s H args us vs Q E hr he hb hv)⟩
/-- some amount -/
def sa (o : Option Rat) : Bool := match o with
  | some r => decide (0 < r)
  | none => false
def am (o : Option Rat) : Bool := match o with
  | some r => decide (0 ≤ r)
  | none => false
theorem sa_am {o : Option Rat} (h : sa o = true) : am o = true := by
  cases o with
  | none => exact h
  | some r => exact decide_eq_true (Rat.le_of_lt (of_decide_eq_true h))
theorem am_some {o : Option Rat} (h : am o = true) : ∃ r, o = some r ∧ 0 ≤ r := by
  match o, h with
  | some r, h => exact ⟨r, rfl, of_decide_eq_true h⟩
theorem JF.isF {D : Addr} {H : Hp} {v : V} {r : Rat} (j : JF K D H v (some r)) : IsF K H v r ∧ Bd 2200 r := by
  rcases j with ⟨r2, h, b, e⟩ | ⟨_, e⟩
  · cases e
    exact ⟨h, b⟩
  · cases e
theorem JF.same {D : Addr} {H H' : Hp} {v : V} {o : Option Rat} (j : JF K D H v o) (s : Same H H') : JF K D H' v o := by
  rcases j with ⟨r, h, b, e⟩ | ⟨h, e⟩
  · exact .inl ⟨r, h.same s, b, e⟩
  · exact .inr ⟨h.fw (Same.fw s), e⟩
theorem JF.fw {M c : Nat} {D C : Addr} {H H' : Hp} {v : V} {o : Option Rat} (j : JF K D H v o) (dk : Deck M D C H c) (f : Fw D H H') : JF K D H' v o := by
  rcases j with ⟨r, h, b, e⟩ | ⟨h, e⟩
  · exact .inl ⟨r, h.fw dk f, b, e⟩
  · exact .inr ⟨h.fw f, e⟩
theorem jf_pair {D p : Addr} {H : Hp} {i j : Int} (n : p ≠ D) (h : H p = some (.tup [.int i, .int j])) (hi : i.natAbs < 2 ^ 40) (hj : j.natAbs < 2 ^ 40) :
    JF K D H (.ref p) (if 0 < j ∧ Nat.gcd i.natAbs j.natAbs = 1 then some (Rat.divInt i j) else none) := by
  by_cases z : 0 < j ∧ Nat.gcd i.natAbs j.natAbs = 1
  · rw [if_pos z]
    obtain ⟨z1, z2⟩ := z
    have ej : ((j.natAbs : Nat) : Int) = j := by omega
    obtain ⟨r1, r2⟩ := rat_of (n := i) (d := j.natAbs) (r := Rat.divInt i j) (by omega) z2 (by rw [ej])
    refine .inl ⟨Rat.divInt i j, ⟨p, rfl, .inl ?_⟩, (Bd.divInt (by omega) hi hj).mono (by decide), rfl⟩
    show H p = some (.tup [.int (Rat.divInt i j).num, .int (Rat.divInt i j).den])
    rw [r1, r2, ej]
    exact h
  · rw [if_neg z]
    exact .inr ⟨.low n h z (Nat.lt_of_lt_of_le hj (pow_le (by decide))), rfl⟩
/-- a thing with the word whether it is a tuple of so many amounts above 0 -/
inductive JS (K : PySem.W.Frag) (D : Addr) (H : Hp) (n : Nat) : V → Bool → Prop where
  | int (i : Int) : JS K D H n (.int i) false
  | other {v : V} (o : Od K D H v) (h : ∀ p xs, v = .ref p → H p ≠ some (.tup xs)) : JS K D H n v false
  | tup {p : Addr} {xs : List V} {os : List (Option Rat)} (np : p ≠ D) (h : H p = some (.tup xs)) (j : Paired (JF K D H) xs os) (l : xs.length ≤ 20) : JS K D H n (.ref p) (decide (xs.length = n) && os.all sa)
theorem JS.same {D : Addr} {H H' : Hp} {n : Nat} {v : V} {b : Bool} (j : JS K D H n v b) (s : Same H H') : JS K D H' n v b := by
  cases j with
  | int i => exact .int i
  | other o h =>
    refine .other (o.fw (Same.fw s)) fun p xs e z => ?_
    subst e
    cases o with
    | lst n h3 =>
      rw [s _ _ h3] at z
      cases z
    | tup n h3 => exact h _ _ rfl h3
    | dK n h3 =>
      rw [s _ _ h3] at z
      cases z
    | ins n h3 c =>
      rw [s _ _ h3] at z
      cases z
  | tup np h j l => exact .tup np (s _ _ h) (Paired.mapP j fun _ _ h => h.same s) l
section
variable {P : Program} {w : World} {K : PySem.W.Frag} {mg : Str → Option Value} {base : Heap} {f__wall f_is_integer f_is_row f_is_fraction f_is_amount f_is_some f_are_amounts f_added f_negated f_lessened f_multiplied f_divided f_squared f_summed f_lies_below f_is_stall f_hold_of f_stalls_of f_kept_of f_held f_roots f_check_purse f_check_wish f_may_stay f_table_of f_strike_row f_are_some f_filled_back f_in_order f_struck_in_turn f_scales f_is_scales f_l_deck f_l_pick f_l_divisor f_l_made f_l_added f_l_taken f_l_product f_l_amount f_l_stall f_l_held f_l_pulls f_l_edge f_l_deep f_l_changed f_l_are_some f_l_due f_l_is_judged f_l_word f_law f_Web_init f_Table_init f_Table_wrong_sign f_Table_behind f_Table_ties_without c_BadPurse c_BadWish c_Table c_Web c_ONE c_ZERO : Addr} {d__wall d_is_integer d_is_row d_is_fraction d_is_amount d_is_some d_are_amounts d_added d_negated d_lessened d_multiplied d_divided d_squared d_summed d_lies_below d_is_stall d_hold_of d_stalls_of d_kept_of d_held d_roots d_check_purse d_check_wish d_may_stay d_table_of d_strike_row d_are_some d_filled_back d_in_order d_struck_in_turn d_scales d_is_scales d_l_deck d_l_pick d_l_divisor d_l_made d_l_added d_l_taken d_l_product d_l_amount d_l_stall d_l_held d_l_pulls d_l_edge d_l_deep d_l_changed d_l_are_some d_l_due d_l_is_judged d_l_word d_law d_Web_init d_Table_init d_Table_wrong_sign d_Table_behind d_Table_ties_without : FuncData}
def sp_isiJ (K : PySem.W.Frag) : Sp := fun vs H Q _ => ∃ v b, vs = [v] ∧ ((∃ i : Int, v = .int i) ∧ b = true ∨ (∃ D, Od K D H v) ∧ b = false) ∧ Q (.bl b) H
theorem ok_is_integerJ (T : Txt K mg f__wall f_is_integer f_is_row f_is_fraction f_is_amount f_is_some f_are_amounts f_added f_negated f_lessened f_multiplied f_divided f_squared f_summed f_lies_below f_is_stall f_hold_of f_stalls_of f_kept_of f_held f_roots f_check_purse f_check_wish f_may_stay f_table_of f_strike_row f_are_some f_filled_back f_in_order f_struck_in_turn f_scales f_is_scales f_l_deck f_l_pick f_l_divisor f_l_made f_l_added f_l_taken f_l_product f_l_amount f_l_stall f_l_held f_l_pulls f_l_edge f_l_deep f_l_changed f_l_are_some f_l_due f_l_is_judged f_l_word f_law f_Web_init f_Table_init f_Table_wrong_sign f_Table_behind f_Table_ties_without c_BadPurse c_BadWish c_Table c_Web c_ONE c_ZERO d__wall d_is_integer d_is_row d_is_fraction d_is_amount d_is_some d_are_amounts d_added d_negated d_lessened d_multiplied d_divided d_squared d_summed d_lies_below d_is_stall d_hold_of d_stalls_of d_kept_of d_held d_roots d_check_purse d_check_wish d_may_stay d_table_of d_strike_row d_are_some d_filled_back d_in_order d_struck_in_turn d_scales d_is_scales d_l_deck d_l_pick d_l_divisor d_l_made d_l_added d_l_taken d_l_product d_l_amount d_l_stall d_l_held d_l_pulls d_l_edge d_l_deep d_l_changed d_l_are_some d_l_due d_l_is_judged d_l_word d_law d_Web_init d_Table_init d_Table_wrong_sign d_Table_behind d_Table_ties_without) : FnOk P w K mg base CX0 1 f_is_integer d_is_integer ["thing"] (sp_isiJ K) := by
  refine T.F_is_integer.ok sc_is_integer (fun vs H Q E h => ?_) (fun cdv A outer s H vs Q E hr h => ?_)
  · obtain ⟨v, b, rfl, _⟩ := h
    rfl
  · obtain ⟨v, b, rfl, h, q⟩ := h
    refine ⟨_, (pss_one (ps_ret (pe_and (pe_callB call_isi (by rfl) T.z_isinstance (by decide +kernel) (pa_cons (pv 0) (pa_cons (pe_bltn (v := .ty "int") (u := .type "int") (by rfl) T.z_int (by decide +kernel) rfl) pa_nil))) (pe_one (pe_not (pe_callB call_isi (by rfl) T.z_isinstance (by decide +kernel) (pa_cons (pv 0) (pa_cons (pe_bltn (v := .ty "bool") (u := .type "bool") (by rfl) T.z_bool (by decide +kernel) rfl) pa_nil)))))))), ?_⟩
    rcases h with ⟨⟨i, rfl⟩, rfl⟩ | ⟨⟨D, o⟩, rfl⟩
    · walk_at "r"
      exact q
    · obtain ⟨b1, b2, b3, hb, h1, h2, -⟩ := o.isi
      walk_at "r"
      refine h1 _ ?_
      cases b1 with
      | false =>
        walk_at "r"
        exact q
      | true =>
        have e : b2 = true := by
          cases b2
          · cases hb
          · rfl
        subst e
        walk_at "r"
        refine h2 _ ?_
        walk_at "r"
        exact q
def sp_isfJ (K : PySem.W.Frag) : Sp := fun vs H Q _ => ∃ v D o, vs = [v] ∧ JF K D H v o ∧ Q (.bl o.isSome) H
theorem ok_is_fractionJ (T : Txt K mg f__wall f_is_integer f_is_row f_is_fraction f_is_amount f_is_some f_are_amounts f_added f_negated f_lessened f_multiplied f_divided f_squared f_summed f_lies_below f_is_stall f_hold_of f_stalls_of f_kept_of f_held f_roots f_check_purse f_check_wish f_may_stay f_table_of f_strike_row f_are_some f_filled_back f_in_order f_struck_in_turn f_scales f_is_scales f_l_deck f_l_pick f_l_divisor f_l_made f_l_added f_l_taken f_l_product f_l_amount f_l_stall f_l_held f_l_pulls f_l_edge f_l_deep f_l_changed f_l_are_some f_l_due f_l_is_judged f_l_word f_law f_Web_init f_Table_init f_Table_wrong_sign f_Table_behind f_Table_ties_without c_BadPurse c_BadWish c_Table c_Web c_ONE c_ZERO d__wall d_is_integer d_is_row d_is_fraction d_is_amount d_is_some d_are_amounts d_added d_negated d_lessened d_multiplied d_divided d_squared d_summed d_lies_below d_is_stall d_hold_of d_stalls_of d_kept_of d_held d_roots d_check_purse d_check_wish d_may_stay d_table_of d_strike_row d_are_some d_filled_back d_in_order d_struck_in_turn d_scales d_is_scales d_l_deck d_l_pick d_l_divisor d_l_made d_l_added d_l_taken d_l_product d_l_amount d_l_stall d_l_held d_l_pulls d_l_edge d_l_deep d_l_changed d_l_are_some d_l_due d_l_is_judged d_l_word d_law d_Web_init d_Table_init d_Table_wrong_sign d_Table_behind d_Table_ties_without) : FnOk P w K mg base CX0 2 f_is_fraction d_is_fraction ["thing"] (sp_isfJ K) := by
  have G_is_integer : FnOk P w K mg base CX0 1 f_is_integer d_is_integer ["thing"] (sp_isiJ K) := ok_is_integerJ T
  refine T.F_is_fraction.ok sc_is_fraction (fun vs H Q E h => ?_) (fun cdv A outer s H vs Q E hr h => ?_)
  · obtain ⟨v, D, o, rfl, _⟩ := h
    rfl
  · obtain ⟨v, D, o, rfl, j, q⟩ := h
    refine ⟨_, (pss_cons (ps_if (PW.pt (pw_or (pt_not (pt_val (pe_callB call_isi (by rfl) T.z_isinstance (by decide +kernel) (pa_cons (pv 0) (pa_cons (pe_bltn (v := .ty "tuple") (u := .type "tuple") (by rfl) T.z_tuple (by decide +kernel) rfl) pa_nil))))) (pw_or1 (pt_cmpR op_ne (pe_callB call_lenN (by rfl) T.z_len (by decide +kernel) (pa_cons (pv 0) pa_nil)) pe_int (nomark _)))))
        (pss_one (ps_ret pe_bl))
        pss_nil)
      (pss_cons (ps_asg (pv 0) (pg_tup rfl (pgs_cons (pg_name (i := 1) sc_is_fraction.nd rfl (by first | exact Or.inl rfl | exact Or.inr rfl)) (pgs_cons (pg_name (i := 2) sc_is_fraction.nd rfl (by first | exact Or.inl rfl | exact Or.inr rfl)) pgs_nil))))
      (pss_cons (ps_if (PW.pt (pw_or (pt_not (pt_val (pe_call G_is_integer (hr.mono (by decide)) (by rfl) T.g_is_integer T.k_is_integer T.b_is_integer .nil pass0 (pa_cons (pv 1) pa_nil)))) (pw_or1 (pt_not (pt_val (pe_call G_is_integer (hr.mono (by decide)) (by rfl) T.g_is_integer T.k_is_integer T.b_is_integer .nil pass0 (pa_cons (pv 2) pa_nil)))))))
        (pss_one (ps_ret pe_bl))
        pss_nil)
      (pss_one (ps_ret (pe_and (pe_cmpR op_ge (pv 2) pe_int (nomark _)) (pe_one (pe_cmpR op_eq (pe_callBfun cr_gcd (by rfl) T.m_gcd (pa_cons (pv 1) (pa_cons (pv 2) pa_nil))) pe_int (nomark _))))))))), ?_⟩
    rcases j with ⟨r, ⟨p, rfl, hp⟩, bd, rfl⟩ | ⟨nf, rfl⟩
    · walk_at "r"
      refine ⟨_, _, rfl, .inl ⟨⟨_, rfl⟩, rfl⟩, ?_⟩
      walk_at "r"
      refine ⟨_, _, rfl, .inl ⟨⟨_, rfl⟩, rfl⟩, ?_⟩
      walk_at "r"
      have h1 := den_pos r
      have h2 := gcd_den r
      walk_at "r"
      rw [Int.natAbs_natCast, h2]
      exact q
    · cases nf with
      | int i =>
        walk_at "r"
        exact q
      | not o h =>
        obtain ⟨b1, b2, b3, hb, -, -, h3, ht⟩ := o.isi
        walk_at "r"
        refine h3 _ ?_
        cases b3 with
        | false =>
          walk_at "r"
          exact q
        | true =>
          obtain ⟨p, xs, rfl, np, hp⟩ := ht rfl
          have hl : ¬ ((xs.length : Int) = 2) := by
            have := h p xs rfl hp
            omega
          walk_at "r"
          exact q
      | fst n h o o2 =>
        walk_at "r"
        refine ⟨_, _, rfl, .inr ⟨⟨_, o⟩, rfl⟩, ?_⟩
        walk_at "r"
        exact q
      | snd n h o =>
        walk_at "r"
        refine ⟨_, _, rfl, .inl ⟨⟨_, rfl⟩, rfl⟩, ?_⟩
        walk_at "r"
        refine ⟨_, _, rfl, .inr ⟨⟨_, o⟩, rfl⟩, ?_⟩
        walk_at "r"
        exact q
      | @low p i j n h z b =>
        walk_at "r"
        refine ⟨_, _, rfl, .inl ⟨⟨_, rfl⟩, rfl⟩, ?_⟩
        walk_at "r"
        refine ⟨_, _, rfl, .inl ⟨⟨_, rfl⟩, rfl⟩, ?_⟩
        walk_at "r"
        walk_at "if"
        · rename_i h0
          walk_at "r"
          have h1 : ¬ (((Nat.gcd i.natAbs j.natAbs : Nat) : Int) = 1) := fun e => z ⟨by omega, by omega⟩
          rw [decide_eq_false h1]
          exact q
        · walk_at "r"
          exact q
def sp_isaJ (K : PySem.W.Frag) : Sp := fun vs H Q _ => ∃ v D o, vs = [v] ∧ JF K D H v o ∧ Q (.bl (am o)) H
theorem ok_is_amountJ (T : Txt K mg f__wall f_is_integer f_is_row f_is_fraction f_is_amount f_is_some f_are_amounts f_added f_negated f_lessened f_multiplied f_divided f_squared f_summed f_lies_below f_is_stall f_hold_of f_stalls_of f_kept_of f_held f_roots f_check_purse f_check_wish f_may_stay f_table_of f_strike_row f_are_some f_filled_back f_in_order f_struck_in_turn f_scales f_is_scales f_l_deck f_l_pick f_l_divisor f_l_made f_l_added f_l_taken f_l_product f_l_amount f_l_stall f_l_held f_l_pulls f_l_edge f_l_deep f_l_changed f_l_are_some f_l_due f_l_is_judged f_l_word f_law f_Web_init f_Table_init f_Table_wrong_sign f_Table_behind f_Table_ties_without c_BadPurse c_BadWish c_Table c_Web c_ONE c_ZERO d__wall d_is_integer d_is_row d_is_fraction d_is_amount d_is_some d_are_amounts d_added d_negated d_lessened d_multiplied d_divided d_squared d_summed d_lies_below d_is_stall d_hold_of d_stalls_of d_kept_of d_held d_roots d_check_purse d_check_wish d_may_stay d_table_of d_strike_row d_are_some d_filled_back d_in_order d_struck_in_turn d_scales d_is_scales d_l_deck d_l_pick d_l_divisor d_l_made d_l_added d_l_taken d_l_product d_l_amount d_l_stall d_l_held d_l_pulls d_l_edge d_l_deep d_l_changed d_l_are_some d_l_due d_l_is_judged d_l_word d_law d_Web_init d_Table_init d_Table_wrong_sign d_Table_behind d_Table_ties_without) : FnOk P w K mg base CX0 3 f_is_amount d_is_amount ["thing"] (sp_isaJ K) := by
  have G_is_fraction : FnOk P w K mg base CX0 2 f_is_fraction d_is_fraction ["thing"] (sp_isfJ K) := ok_is_fractionJ T
  refine T.F_is_amount.ok sc_is_amount (fun vs H Q E h => ?_) (fun cdv A outer s H vs Q E hr h => ?_)
  · obtain ⟨v, D, o, rfl, _⟩ := h
    rfl
  · obtain ⟨v, D, o, rfl, j, q⟩ := h
    refine ⟨_, (pss_one (ps_ret (pe_and (pe_call G_is_fraction (hr.mono (by decide)) (by rfl) T.g_is_fraction T.k_is_fraction T.b_is_fraction .nil pass0 (pa_cons (pv 0) pa_nil)) (pe_one (pe_cmpR op_ge (pe_ix ix_tup (pv 0) pe_int (fun _ _ => rfl)) pe_int (nomark _)))))), ?_⟩
    walk_at "r"
    refine ⟨_, _, _, rfl, j, ?_⟩
    cases o with
    | none =>
      rw [Option.isSome_none]
      walk_at "r"
      exact q
    | some r =>
      rw [Option.isSome_some]
      obtain ⟨h, b⟩ := j.isF
      obtain ⟨p, rfl, hp⟩ := id h
      walk_at "r"
      rw [show decide (r.num ≥ 0) = am (some r) from ?_]
      · exact q
      · show decide (r.num ≥ 0) = decide (0 ≤ r)
        rw [Bool.eq_iff_iff, decide_eq_true_eq, decide_eq_true_eq]
        exact Rat.num_nonneg
def sp_are_amountsJ (K : PySem.W.Frag) : Sp := fun vs H Q _ => ∃ (p D : Addr) (n : Nat) (xs : List V) (os : List (Option Rat)), vs = [.ref p, .int (n : Nat)] ∧ Sq K H p xs ∧ Paired (JF K D H) xs os ∧ xs.length ≤ 20 ∧ ∀ H', Same H H' → Q (.bl (decide (xs.length = n) && os.all am)) H'
theorem ok_are_amountsJ (T : Txt K mg f__wall f_is_integer f_is_row f_is_fraction f_is_amount f_is_some f_are_amounts f_added f_negated f_lessened f_multiplied f_divided f_squared f_summed f_lies_below f_is_stall f_hold_of f_stalls_of f_kept_of f_held f_roots f_check_purse f_check_wish f_may_stay f_table_of f_strike_row f_are_some f_filled_back f_in_order f_struck_in_turn f_scales f_is_scales f_l_deck f_l_pick f_l_divisor f_l_made f_l_added f_l_taken f_l_product f_l_amount f_l_stall f_l_held f_l_pulls f_l_edge f_l_deep f_l_changed f_l_are_some f_l_due f_l_is_judged f_l_word f_law f_Web_init f_Table_init f_Table_wrong_sign f_Table_behind f_Table_ties_without c_BadPurse c_BadWish c_Table c_Web c_ONE c_ZERO d__wall d_is_integer d_is_row d_is_fraction d_is_amount d_is_some d_are_amounts d_added d_negated d_lessened d_multiplied d_divided d_squared d_summed d_lies_below d_is_stall d_hold_of d_stalls_of d_kept_of d_held d_roots d_check_purse d_check_wish d_may_stay d_table_of d_strike_row d_are_some d_filled_back d_in_order d_struck_in_turn d_scales d_is_scales d_l_deck d_l_pick d_l_divisor d_l_made d_l_added d_l_taken d_l_product d_l_amount d_l_stall d_l_held d_l_pulls d_l_edge d_l_deep d_l_changed d_l_are_some d_l_due d_l_is_judged d_l_word d_law d_Web_init d_Table_init d_Table_wrong_sign d_Table_behind d_Table_ties_without) : FnOk P w K mg base CX0 4 f_are_amounts d_are_amounts ["things", "number"] (sp_are_amountsJ K) := by
  have G_is_amount : FnOk P w K mg base CX0 3 f_is_amount d_is_amount ["thing"] (sp_isaJ K) := ok_is_amountJ T
  refine T.F_are_amounts.ok sc_are_amounts (fun vs H Q E h => ?_) (fun cdv A outer s H vs Q E hr h => ?_)
  · obtain ⟨p, D, n, xs, os, rfl, _⟩ := h
    rfl
  · obtain ⟨p, D, n, xs, os, rfl, hp, hj, l20, q⟩ := h
    have hl := Paired.length hj
    refine ⟨_, (pss_one (ps_ret (pe_and (pe_cmpR op_eq (pe_callB call_lenN (by rfl) T.z_len (by decide +kernel) (pa_cons (pv 0) pa_nil)) (pv 1) (nomark _)) (pe_one (pe_callB (cr_all rfl) (by rfl) T.z_all (by decide +kernel) (pa_cons (pe_lc (own := [("thing", 2)]) (g := gName 2) rfl sc_are_amounts.nd (My.pi_seqA (pv 0)) (blkOk_by (own := [("thing", 2)]) (N := N_are_amounts) (sc := defScope s_are_amounts) (by decide +kernel)) (fun _ _ _ _ _ => (pg_name (i := 2) sc_are_amounts.nd rfl (by first | exact Or.inl rfl | exact Or.inr rfl))) (fun _ _ _ _ _ => pts_nil) (fun _ _ _ _ _ => (pe_call G_is_amount (hr.mono (by decide)) (by rfl) T.g_is_amount T.k_is_amount T.b_is_amount .nil pass0 (pa_cons (pv 2) pa_nil)))) pa_nil)))))), ?_⟩
    walk_at "r"
    refine ⟨p, xs, rfl, hp, ?_⟩
    by_cases c : xs.length = n
    · have c' : (xs.length : Int) = (n : Nat) := by omega
      walk_at "r"
      refine rd_seqA ?_
      walk_at "r"
      refine lc_seqA (R := fun H v (b : Bool) => v = .bl b) (fun _ _ _ _ _ h => h) (f := fun i => (os[i]?).map am) (by omega) hp (fun i x hx H' Q' N s1 hy hn => ?_) (fun D' H' hlst => ?_) rfl
      · obtain ⟨o, ho, jo⟩ := Paired.at hj hx
        walk_at "r"
        refine ⟨rfl, ?_⟩
        walk_at "r"
        exact ⟨_, _, o, rfl, jo.same s1, hy (am o) _ _ (by simp [ho]) (Same.refl _) rfl⟩
      · obtain ⟨s1, bs, hD, hbs⟩ := hlst
        rw [hl, upTo_list] at hbs
        have e := bools_of hbs
        subst e
        walk_at "r"
        refine ⟨D', _, rfl, .of hD, ?_⟩
        have q := q _ s1
        rw [decide_eq_true c, Bool.true_and] at q
        rw [List.all_map]
        exact q
    · have c' : ¬ (xs.length : Int) = (n : Nat) := by omega
      walk_at "r"
      have q := q _ (Same.refl _)
      rw [decide_eq_false c] at q
      exact q
def sp_are_someJ (K : PySem.W.Frag) : Sp := fun vs H Q _ => ∃ (x : V) (D : Addr) (n : Nat) (b : Bool), vs = [x, .int (n : Nat)] ∧ JS K D H n x b ∧ ∀ H', Same H H' → Q (.bl b) H'
theorem ok_are_someJ (T : Txt K mg f__wall f_is_integer f_is_row f_is_fraction f_is_amount f_is_some f_are_amounts f_added f_negated f_lessened f_multiplied f_divided f_squared f_summed f_lies_below f_is_stall f_hold_of f_stalls_of f_kept_of f_held f_roots f_check_purse f_check_wish f_may_stay f_table_of f_strike_row f_are_some f_filled_back f_in_order f_struck_in_turn f_scales f_is_scales f_l_deck f_l_pick f_l_divisor f_l_made f_l_added f_l_taken f_l_product f_l_amount f_l_stall f_l_held f_l_pulls f_l_edge f_l_deep f_l_changed f_l_are_some f_l_due f_l_is_judged f_l_word f_law f_Web_init f_Table_init f_Table_wrong_sign f_Table_behind f_Table_ties_without c_BadPurse c_BadWish c_Table c_Web c_ONE c_ZERO d__wall d_is_integer d_is_row d_is_fraction d_is_amount d_is_some d_are_amounts d_added d_negated d_lessened d_multiplied d_divided d_squared d_summed d_lies_below d_is_stall d_hold_of d_stalls_of d_kept_of d_held d_roots d_check_purse d_check_wish d_may_stay d_table_of d_strike_row d_are_some d_filled_back d_in_order d_struck_in_turn d_scales d_is_scales d_l_deck d_l_pick d_l_divisor d_l_made d_l_added d_l_taken d_l_product d_l_amount d_l_stall d_l_held d_l_pulls d_l_edge d_l_deep d_l_changed d_l_are_some d_l_due d_l_is_judged d_l_word d_law d_Web_init d_Table_init d_Table_wrong_sign d_Table_behind d_Table_ties_without) : FnOk P w K mg base CX0 5 f_are_some d_are_some ["things", "number"] (sp_are_someJ K) := by
  have G_are_amounts : FnOk P w K mg base CX0 4 f_are_amounts d_are_amounts ["things", "number"] (sp_are_amountsJ K) := ok_are_amountsJ T
  refine T.F_are_some.ok sc_are_some (fun vs H Q E h => ?_) (fun cdv A outer sh H vs Q E hr h => ?_)
  · obtain ⟨x, D, n, b, rfl, _⟩ := h
    rfl
  · obtain ⟨x, D, n, b, rfl, j, q⟩ := h
    refine ⟨_, (pss_cons (ps_if (PW.pt (pw_or (pt_not (pt_val (pe_callB call_isi (by rfl) T.z_isinstance (by decide +kernel) (pa_cons (pv 0) (pa_cons (pe_bltn (v := .ty "tuple") (u := .type "tuple") (by rfl) T.z_tuple (by decide +kernel) rfl) pa_nil))))) (pw_or1 (pt_not (pt_val (pe_call G_are_amounts (hr.mono (by decide)) (by rfl) T.g_are_amounts T.k_are_amounts T.b_are_amounts .nil pass0 (pa_cons (pv 0) (pa_cons (pv 1) pa_nil))))))))
        (pss_one (ps_ret pe_bl))
        pss_nil)
      (pss_one (ps_ret (pe_callB (cr_all rfl) (by rfl) T.z_all (by decide +kernel) (pa_cons (pe_lc (own := [("thing", 2)]) (g := gName 2) rfl sc_are_some.nd (pi_tup (pv 0)) (blkOk_by (own := [("thing", 2)]) (N := N_are_some) (sc := defScope s_are_some) (by decide +kernel)) (fun _ _ _ _ _ => (pg_name (i := 2) sc_are_some.nd rfl (by first | exact Or.inl rfl | exact Or.inr rfl))) (fun _ _ _ _ _ => pts_nil) (fun _ _ _ _ _ => (pe_cmpR op_gt (pe_ix (My.ix_tupK (K := K) (by rfl)) (pv 2) pe_int (fun _ _ => rfl)) pe_int (nomark _)))) pa_nil))))), ?_⟩
    cases j with
    | int i =>
      walk_at "r"
      exact q _ (Same.refl _)
    | other o h =>
      obtain ⟨b1, b2, b3, hb, -, -, h3, ht⟩ := o.isi
      walk_at "r"
      refine h3 _ ?_
      cases b3 with
      | false =>
        walk_at "r"
        exact q _ (Same.refl _)
      | true =>
        obtain ⟨p, xs, rfl, np, hp⟩ := ht rfl
        exact (h p xs rfl hp).elim
    | @tup p xs os np hp hj l20 =>
      have hl := Paired.length hj
      walk_at "r"
      refine ⟨p, D, n, xs, os, rfl, .inr (.of hp), hj, l20, fun H1 s1 => ?_⟩
      by_cases c : xs.length = n
      · rw [decide_eq_true c, Bool.true_and] at q ⊢
        cases ca : os.all am with
        | false =>
          have e : os.all sa = false := by
            rw [Bool.eq_false_iff] at ca ⊢
            intro z
            refine ca ?_
            rw [List.all_eq_true] at z ⊢
            exact fun o ho => sa_am (z o ho)
          rw [e] at q
          walk_at "r"
          exact q _ s1
        | true =>
          walk_at "r"
          refine ⟨⟨_, .of (s1 _ _ hp)⟩, fun L nL => ?_⟩
          refine lc_tupP (R := fun H v (b : Bool) => v = .bl b) (fun _ _ _ _ _ h => h) (f := fun i => (os[i]?).map sa) nL (by omega) (.of (s1 _ _ hp)) (fun i x hx H' Q' N' s3 hy _ => ?_) fun H3 hl3 => ?_
          · obtain ⟨o, ho, jo⟩ := Paired.at hj hx
            obtain ⟨r, rfl, r0⟩ := am_some (List.all_eq_true.mp ca o (List.mem_of_getElem? ho))
            obtain ⟨pr, rfl, hpr⟩ := (jo.isF.1.same s1).same s3
            walk_at "r"
            refine ⟨rfl, ?_⟩
            walk_at "r"
            refine hy (sa (some r)) _ _ (by simp [ho]) (Same.refl _) ?_
            show V.bl (decide (r.num > 0)) = V.bl (decide (0 < r))
            congr 1
            rw [Bool.eq_iff_iff, decide_eq_true_eq, decide_eq_true_eq, Rat.lt_iff]
            simp
          · obtain ⟨s3, bs, hD, hbs⟩ := hl3
            rw [hl, upTo_list] at hbs
            have e := bools_of hbs
            subst e
            walk_at "r"
            refine ⟨L, _, rfl, .of hD, ?_⟩
            rw [List.all_map]
            exact q _ (s1.trans s3)
      · rw [decide_eq_false c, Bool.false_and] at q ⊢
        walk_at "r"
        exact q _ s1
end
end My
namespace My
open PySem PySem.Spec PyProof.Rows L2
variable {K : PySem.W.Frag}
/-- a fraction turned over -/
theorem turn_num {r : Rat} (h : 0 < r) : r⁻¹.num = r.den ∧ (r⁻¹.den : Int) = r.num := by
  have hn : 0 < r.num := num_pos' h
  rw [Rat.inv_def]
  have c : Nat.gcd (r.den : Int).natAbs r.num.natAbs = 1 := by
    rw [Int.natAbs_natCast, Nat.gcd_comm]
    exact r.reduced
  have ej : ((r.num.natAbs : Nat) : Int) = r.num := by omega
  obtain ⟨r1, r2⟩ := rat_of (n := (r.den : Int)) (d := r.num.natAbs) (r := Rat.divInt (r.den : Int) r.num) (by omega) c (by rw [ej])
  exact ⟨r1, by rw [r2, ej]⟩
theorem turned {H : Hp} {p : Addr} {r : Rat} (h : 0 < r) : IsF K (upd H p (.tup (frV r).reverse)) (.ref p) r⁻¹ := by
  obtain ⟨e1, e2⟩ := turn_num h
  exact isF_new (a := (r.den : Int)) (b := r.num) e1 e2
end My
namespace My
open PySem PySem.Spec PyProof.Rows L2
variable {K : PySem.W.Frag}
/-! ### what the law draws, over common bottoms -/
theorem gr_divInt {a b : Int} {N D : Nat} (hb : 0 < b) (c : Int) (hc : (D : Int) = c * b) (hn : (a * c).natAbs ≤ N) : Gr N D (Rat.divInt a b) := by
  refine ⟨a * c, hn, ?_⟩
  rw [Rat.divInt_eq_div, show ((D : Nat) : Rat) = ((D : Int) : Rat) from rfl, hc, Rat.intCast_mul, Rat.intCast_mul]
  have b0 : (b : Rat) ≠ 0 := fun z => by
    have : b = 0 := Rat.intCast_inj.mp z
    omega
  have := Rat.div_mul_cancel (a := (a : Rat)) (b := (b : Rat)) b0
  grind
theorem inv_divInt {a b : Int} (ha : 0 < a) (hb : 0 < b) : (Rat.divInt a b)⁻¹ = Rat.divInt b a := by
  have h : Rat.divInt a b * Rat.divInt b a = 1 := by
    rw [Rat.divInt_mul_divInt, Int.mul_comm b a]
    have := Rat.divInt_mul_right (n := 1) (d := 1) (a := a * b) (Int.ne_of_gt (Int.mul_pos ha hb))
    rw [Int.one_mul] at this
    rw [this]
    rfl
  exact Rat.inv_eq_of_mul_eq_one h
/-- the parts that a small bottom divides -/
theorem part12 {b : Int} (h0 : 1 ≤ b) (h1 : b ≤ 4) : ∃ c : Int, (12 : Int) = c * b ∧ 0 ≤ c ∧ c ≤ 12 := by
  rcases (show b = 1 ∨ b = 2 ∨ b = 3 ∨ b = 4 by omega) with rfl | rfl | rfl | rfl
  · exact ⟨12, by decide⟩
  · exact ⟨6, by decide⟩
  · exact ⟨4, by decide⟩
  · exact ⟨3, by decide⟩
theorem part60 {b : Int} (h0 : 1 ≤ b) (h1 : b ≤ 6) : ∃ c : Int, (60 : Int) = c * b ∧ 0 ≤ c ∧ c ≤ 60 := by
  rcases (show b = 1 ∨ b = 2 ∨ b = 3 ∨ b = 4 ∨ b = 5 ∨ b = 6 by omega) with rfl | rfl | rfl | rfl | rfl | rfl
  · exact ⟨60, by decide⟩
  · exact ⟨30, by decide⟩
  · exact ⟨20, by decide⟩
  · exact ⟨15, by decide⟩
  · exact ⟨12, by decide⟩
  · exact ⟨10, by decide⟩
theorem natAbs_le_mul {a c : Int} {A B : Nat} (h1 : a.natAbs ≤ A) (h2 : c.natAbs ≤ B) : (a * c).natAbs ≤ A * B := by
  rw [Int.natAbs_mul]
  exact Nat.mul_le_mul h1 h2
/-- an amount that is drawn -/
structure Amt (r : Rat) : Prop where
  p : 0 < r
  g : Gr 72 12 r
  i : Gr 240 60 r⁻¹
  b : Bd 3 r
theorem Amt.of {a b : Int} (a0 : 1 ≤ a) (a1 : a ≤ 6) (b0 : 1 ≤ b) (b1 : b ≤ 4) : Amt (Rat.divInt a b) := by
  refine ⟨divInt_pos (by omega) (by omega), ?_, ?_, ?_⟩
  · obtain ⟨c, e, c0, c1⟩ := part12 b0 b1
    exact gr_divInt (by omega) c e (natAbs_le_mul (A := 6) (B := 12) (by omega) (by omega))
  · rw [inv_divInt (by omega) (by omega)]
    obtain ⟨c, e, c0, c1⟩ := part60 a0 a1
    exact gr_divInt (by omega) c e (natAbs_le_mul (A := 4) (B := 60) (by omega) (by omega))
  · exact Bd.divInt (by omega) (show a.natAbs < 2 ^ 3 by omega) (show b.natAbs < 2 ^ 3 by omega)
/-- a stall that is drawn -/
structure Ok16 (n : Nat) (s : Stl) : Prop extends OkSt n s where
  bd : BdSt 200 s
  ga : Gr 25920 720 s.a
  gb : Gr 25920 720 s.b
  gr : Gr 72 12 s.r
theorem gr_up {N D : Nat} {r : Rat} (h : Gr N D r) (c N' D' : Nat) (hD : D * c = D') (hN : N * c ≤ N') : Gr N' D' r := by
  have := h.scale c
  rw [hD] at this
  exact this.mono hN
theorem inv_root2 {r f : Rat} (f0 : 0 < f) : r * f * (r * f⁻¹) = r * r := by
  rw [show r * f * (r * f⁻¹) = r * r * (f * f⁻¹) by grind, Rat.mul_inv_cancel f (ne_of_pos f0), Rat.mul_one]
section
variable {P : Program} {w : World} {K : PySem.W.Frag} {mg : Str → Option Value} {base : Heap} {f__wall f_is_integer f_is_row f_is_fraction f_is_amount f_is_some f_are_amounts f_added f_negated f_lessened f_multiplied f_divided f_squared f_summed f_lies_below f_is_stall f_hold_of f_stalls_of f_kept_of f_held f_roots f_check_purse f_check_wish f_may_stay f_table_of f_strike_row f_are_some f_filled_back f_in_order f_struck_in_turn f_scales f_is_scales f_l_deck f_l_pick f_l_divisor f_l_made f_l_added f_l_taken f_l_product f_l_amount f_l_stall f_l_held f_l_pulls f_l_edge f_l_deep f_l_changed f_l_are_some f_l_due f_l_is_judged f_l_word f_law f_Web_init f_Table_init f_Table_wrong_sign f_Table_behind f_Table_ties_without c_BadPurse c_BadWish c_Table c_Web c_ONE c_ZERO : Addr} {d__wall d_is_integer d_is_row d_is_fraction d_is_amount d_is_some d_are_amounts d_added d_negated d_lessened d_multiplied d_divided d_squared d_summed d_lies_below d_is_stall d_hold_of d_stalls_of d_kept_of d_held d_roots d_check_purse d_check_wish d_may_stay d_table_of d_strike_row d_are_some d_filled_back d_in_order d_struck_in_turn d_scales d_is_scales d_l_deck d_l_pick d_l_divisor d_l_made d_l_added d_l_taken d_l_product d_l_amount d_l_stall d_l_held d_l_pulls d_l_edge d_l_deep d_l_changed d_l_are_some d_l_due d_l_is_judged d_l_word d_law d_Web_init d_Table_init d_Table_wrong_sign d_Table_behind d_Table_ties_without : FuncData}
def sp_am16 (K : PySem.W.Frag) (M : Nat) : Sp := fun vs H Q _ => ∃ (D C : Addr) (c : Nat), vs = [.ref D] ∧ Deck M D C H c ∧ c ≤ 2 ^ 39 ∧ ∀ H' v r, Fw D H H' → Deck M D C H' (c + 2) → IsF K H' v r → Amt r → Q v H'
theorem ok_l_amount {M : Nat} (hM : 64 ≤ M) (hM2 : M ≤ 1048576) (T : Txt K mg f__wall f_is_integer f_is_row f_is_fraction f_is_amount f_is_some f_are_amounts f_added f_negated f_lessened f_multiplied f_divided f_squared f_summed f_lies_below f_is_stall f_hold_of f_stalls_of f_kept_of f_held f_roots f_check_purse f_check_wish f_may_stay f_table_of f_strike_row f_are_some f_filled_back f_in_order f_struck_in_turn f_scales f_is_scales f_l_deck f_l_pick f_l_divisor f_l_made f_l_added f_l_taken f_l_product f_l_amount f_l_stall f_l_held f_l_pulls f_l_edge f_l_deep f_l_changed f_l_are_some f_l_due f_l_is_judged f_l_word f_law f_Web_init f_Table_init f_Table_wrong_sign f_Table_behind f_Table_ties_without c_BadPurse c_BadWish c_Table c_Web c_ONE c_ZERO d__wall d_is_integer d_is_row d_is_fraction d_is_amount d_is_some d_are_amounts d_added d_negated d_lessened d_multiplied d_divided d_squared d_summed d_lies_below d_is_stall d_hold_of d_stalls_of d_kept_of d_held d_roots d_check_purse d_check_wish d_may_stay d_table_of d_strike_row d_are_some d_filled_back d_in_order d_struck_in_turn d_scales d_is_scales d_l_deck d_l_pick d_l_divisor d_l_made d_l_added d_l_taken d_l_product d_l_amount d_l_stall d_l_held d_l_pulls d_l_edge d_l_deep d_l_changed d_l_are_some d_l_due d_l_is_judged d_l_word d_law d_Web_init d_Table_init d_Table_wrong_sign d_Table_behind d_Table_ties_without) : FnOk P w K mg base CX0 3 f_l_amount d_l_amount ["_law_deck_here"] (sp_am16 K M) := by
  have G_l_pick : FnOk P w K mg base CX0 1 f_l_pick d_l_pick ["_law_deck_here", "_law_many"] (sp_pick M) := ok_pick hM hM2 T
  have G_l_made : FnOk P w K mg base CX0 2 f_l_made d_l_made ["_law_top", "_law_bottom"] (sp_made K) := ok_l_made T
  refine T.F_l_amount.ok sc_l_amount (fun vs H Q E h => ?_) (fun cdv A outer s H vs Q E hr h => ?_)
  · obtain ⟨D, C, c, rfl, _⟩ := h
    rfl
  · obtain ⟨D, C, c, rfl, dk, hc, q⟩ := h
    refine ⟨_, (pss_one (ps_ret (pe_call G_l_made (hr.mono (by decide)) (by rfl) T.g_l_made T.k_l_made T.b_l_made .nil pass0 (pa_cons (pe_op op_add pe_int (pe_call G_l_pick (hr.mono (by decide)) (by rfl) T.g_l_pick T.k_l_pick T.b_l_pick .nil pass0 (pa_cons (pv 0) (pa_cons pe_int pa_nil)))) (pa_cons (pe_op op_add pe_int (pe_call G_l_pick (hr.mono (by decide)) (by rfl) T.g_l_pick T.k_l_pick T.b_l_pick .nil pass0 (pa_cons (pv 0) (pa_cons pe_int pa_nil)))) pa_nil))))), ?_⟩
    walk_at "r"
    refine ⟨_, _, _, _, rfl, ⟨by decide, by decide⟩, dk, by omega, fun H1 r1 w1 k1 a1 b1 => ?_⟩
    walk_at "r"
    refine ⟨_, _, _, _, rfl, ⟨by decide, by decide⟩, k1, by omega, fun H2 r2 w2 k2 a2 b2 => ?_⟩
    walk_at "r"
    have hb : (1 + r2).natAbs < 2 ^ 3 := by omega
    refine ⟨_, _, rfl, by omega, Nat.lt_of_lt_of_le hb (pow_le (by decide)), fun H3 v s3 hv => ?_⟩
    exact q _ _ _ ((w1.trans w2).trans (Same.fw s3)) (k2.same s3) hv (Amt.of (by omega) (by omega) (by omega) (by omega))
def sp_lstall16 (K : PySem.W.Frag) (M : Nat) : Sp := fun vs H Q _ => ∃ (D C : Addr) (c n : Nat), vs = [.ref D, .int (n : Nat)] ∧ 2 ≤ n ∧ n ≤ 8 ∧ Deck M D C H c ∧ c ≤ 2 ^ 38 ∧ ∀ H' v s, Fw D H H' → Deck M D C H' (c + 6) → IsSt K H' v s → Ok16 n s → Q v H'
theorem ok_l_stall {M : Nat} (hM : 64 ≤ M) (hM2 : M ≤ 1048576) (T : Txt K mg f__wall f_is_integer f_is_row f_is_fraction f_is_amount f_is_some f_are_amounts f_added f_negated f_lessened f_multiplied f_divided f_squared f_summed f_lies_below f_is_stall f_hold_of f_stalls_of f_kept_of f_held f_roots f_check_purse f_check_wish f_may_stay f_table_of f_strike_row f_are_some f_filled_back f_in_order f_struck_in_turn f_scales f_is_scales f_l_deck f_l_pick f_l_divisor f_l_made f_l_added f_l_taken f_l_product f_l_amount f_l_stall f_l_held f_l_pulls f_l_edge f_l_deep f_l_changed f_l_are_some f_l_due f_l_is_judged f_l_word f_law f_Web_init f_Table_init f_Table_wrong_sign f_Table_behind f_Table_ties_without c_BadPurse c_BadWish c_Table c_Web c_ONE c_ZERO d__wall d_is_integer d_is_row d_is_fraction d_is_amount d_is_some d_are_amounts d_added d_negated d_lessened d_multiplied d_divided d_squared d_summed d_lies_below d_is_stall d_hold_of d_stalls_of d_kept_of d_held d_roots d_check_purse d_check_wish d_may_stay d_table_of d_strike_row d_are_some d_filled_back d_in_order d_struck_in_turn d_scales d_is_scales d_l_deck d_l_pick d_l_divisor d_l_made d_l_added d_l_taken d_l_product d_l_amount d_l_stall d_l_held d_l_pulls d_l_edge d_l_deep d_l_changed d_l_are_some d_l_due d_l_is_judged d_l_word d_law d_Web_init d_Table_init d_Table_wrong_sign d_Table_behind d_Table_ties_without) : FnOk P w K mg base CX0 4 f_l_stall d_l_stall ["_law_deck_here", "_law_wares"] (sp_lstall16 K M) := by
  have G_l_pick : FnOk P w K mg base CX0 1 f_l_pick d_l_pick ["_law_deck_here", "_law_many"] (sp_pick M) := ok_pick hM hM2 T
  have G_l_amount : FnOk P w K mg base CX0 3 f_l_amount d_l_amount ["_law_deck_here"] (sp_am16 K M) := ok_l_amount hM hM2 T
  have G_l_product : FnOk P w K mg base CX0 3 f_l_product d_l_product ["_law_one", "_law_other"] (sp_two9 K (· * ·)) := ok_l_product T
  refine T.F_l_stall.ok sc_l_stall (fun vs H Q E h => ?_) (fun cdv A outer s H vs Q E hr h => ?_)
  · obtain ⟨D, C, c, n, rfl, _⟩ := h
    rfl
  · obtain ⟨D, C, c, n, rfl, hn2, hn8, dk, hc, q⟩ := h
    refine ⟨_, (pss_cons (ps_set (i := 2) sc_l_stall.nd rfl (by first | exact Or.inl rfl | exact Or.inr rfl) (pe_call G_l_pick (hr.mono (by decide)) (by rfl) T.g_l_pick T.k_l_pick T.b_l_pick .nil pass0 (pa_cons (pv 0) (pa_cons (pv 1) pa_nil))))
      (pss_cons (ps_set (i := 3) sc_l_stall.nd rfl (by first | exact Or.inl rfl | exact Or.inr rfl) (pe_call G_l_pick (hr.mono (by decide)) (by rfl) T.g_l_pick T.k_l_pick T.b_l_pick .nil pass0 (pa_cons (pv 0) (pa_cons (pe_op op_sub (pv 1) pe_int) pa_nil))))
      (C8.pss_cut (ps_if (pt_cmpR op_ge (pv 3) (pv 2) (nomark _))
        (pss_one (ps_set (i := 3) sc_l_stall.nd rfl (by first | exact Or.inl rfl | exact Or.inr rfl) (pe_op op_add (pv 3) pe_int)))
        pss_nil)
      (pss_cons (ps_set (i := 4) sc_l_stall.nd rfl (by first | exact Or.inl rfl | exact Or.inr rfl) (pe_call G_l_amount (hr.mono (by decide)) (by rfl) T.g_l_amount T.k_l_amount T.b_l_amount .nil pass0 (pa_cons (pv 0) pa_nil)))
      (pss_cons (ps_set (i := 5) sc_l_stall.nd rfl (by first | exact Or.inl rfl | exact Or.inr rfl) (pe_call G_l_amount (hr.mono (by decide)) (by rfl) T.g_l_amount T.k_l_amount T.b_l_amount .nil pass0 (pa_cons (pv 0) pa_nil)))
      (pss_one (ps_ret (pe_tup (pa_cons (pv 2) (pa_cons (pv 3) (pa_cons (pe_call G_l_product (hr.mono (by decide)) (by rfl) T.g_l_product T.k_l_product T.b_l_product .nil pass0 (pa_cons (pv 4) (pa_cons (pv 5) pa_nil))) (pa_cons (pe_call G_l_product (hr.mono (by decide)) (by rfl) T.g_l_product T.k_l_product T.b_l_product .nil pass0 (pa_cons (pv 4) (pa_cons (My.pe_revT (pv 5)) pa_nil))) (pa_cons (pv 4) pa_nil))))))))))))), ?_⟩
    walk_at "r"
    refine ⟨_, _, _, _, rfl, ⟨by omega, by omega⟩, dk, by omega, fun H1 r1 w1 k1 a1 b1 => ?_⟩
    walk_at "r"
    refine ⟨_, _, _, _, rfl, ⟨by omega, by omega⟩, k1, by omega, fun H2 r2 w2 k2 a2 b2 => ?_⟩
    have w2 := w1.trans w2
    walk_at "r"
    refine ⟨fun σ H' => ∃ (u v : Nat) (t5 t6 : Option V), σ = [some (.ref D), some (.int (n : Nat)), some (.int (u : Nat)), some (.int (v : Nat)), t5, t6] ∧ H' = H2 ∧ u < n ∧ v < n ∧ u ≠ v, ?_, ?_⟩
    · walk_at "r"
      walk_at "if"
      · rename_i h
        walk_at "r"
        refine ⟨r1.toNat, (r2 + 1).toNat, none, none, ?_, rfl, by omega, by omega, by omega⟩
        rw [show ((r1.toNat : Nat) : Int) = r1 by omega, show (((r2 + 1).toNat : Nat) : Int) = r2 + 1 by omega]
        rfl
      · rename_i h
        walk_at "r"
        refine ⟨r1.toNat, r2.toNat, none, none, ?_, rfl, by omega, by omega, by omega⟩
        rw [show ((r1.toNat : Nat) : Int) = r1 by omega, show ((r2.toNat : Nat) : Int) = r2 by omega]
        rfl
    rintro σ H' ⟨u, v, t5, t6, rfl, rfl, hu, hv, huv⟩
    walk_at "r"
    refine ⟨_, _, _, rfl, k2, by omega, fun H3 root r w3 k3 fr ar => ?_⟩
    walk_at "r"
    refine ⟨_, _, _, rfl, k3, by omega, fun H4 fac g w4 k4 fg ag => ?_⟩
    have fr := fr.fw k3 w4
    have w5 := (w2.trans w3).trans w4
    walk_at "r"
    refine ⟨_, _, _, _, rfl, fr, fg, ar.b.mono (by decide), ag.b.mono (by decide), fun H6 v6 s6 h6 => ?_⟩
    walk_at "r"
    refine rd_revT ?_
    walk_at "r"
    obtain ⟨qb, rfl, hqb⟩ := id (fg.same s6)
    refine ⟨_, _, rfl, hqb.sq, fun p7 n7 => ?_⟩
    have s7 := same_upd (o := .tup (frV (g)).reverse) n7
    have h7 : IsF K (upd H6 p7 (.tup (frV (g)).reverse)) (.ref p7) (g)⁻¹ := turned ag.p
    generalize upd H6 p7 (.tup (frV (g)).reverse) = H7 at *
    walk_at "r"
    refine ⟨_, _, _, _, rfl, (fr.same s6).same s7, h7, ar.b.mono (by decide), (ag.b.inv (ne_of_pos ag.p)).mono (by decide), fun H8 v8 s8 h8 => ?_⟩
    have k8 := (s6.trans s7).trans s8
    walk_at "r"
    intro p9 n9
    have sm := same_upd (o := .tup [V.int (u : Nat), .int (v : Nat), v6, v8, root]) n9
    have ig := Rat.inv_pos.mpr ag.p
    refine q _ _ ⟨u, v, r * g, r * g⁻¹, r⟩ (w5.trans (Same.fw (k8.trans sm))) (k4.same (k8.trans sm)) ⟨p9, v6, v8, root, rfl, upd_same, ((h6.same s7).same s8).same sm, h8.same sm, (fr.same k8).same sm⟩ ⟨⟨hu, hv, huv, Rat.mul_pos ar.p ag.p, Rat.mul_pos ar.p ig, ar.p, inv_root2 ag.p⟩, ?_, ?_, ?_, ar.g⟩
    · exact ⟨(ar.b.mul ag.b).mono (by decide), (ar.b.mul (ag.b.inv (ne_of_pos ag.p))).mono (by decide), ar.b.mono (by decide)⟩
    · exact gr_up (ar.g.mul ag.g) 5 _ _ (by decide) (by decide)
    · exact gr_up (ar.g.mul ag.i) 1 _ _ (by decide) (by decide)
def sp_lstalls16 (K : PySem.W.Frag) (M : Nat) : Sp := fun vs H Q _ => ∃ (D C : Addr) (c n : Nat) (b : Bool), vs = [.ref D, .int (n : Nat), .bl b] ∧ 1 ≤ n ∧ n ≤ 8 ∧ Deck M D C H c ∧ c ≤ 2 ^ 37 ∧
  ∀ H' S xs ss, Fw D H H' → Deck M D C H' (c + 200) → S ≠ D → H' S = some (.lst xs) → Sts K H' xs ss → ss.length ≤ 16 → (∀ s ∈ ss, Ok16 n s) → Q (.ref S) H'
end
end My
namespace My
open PySem PySem.Spec PyProof.Rows L2
variable {K : PySem.W.Frag}
/-! ### the law's own sums by wares -/
def FsL (K : PySem.W.Frag) (H : Hp) (L : Addr) (n : Nat) (f : Nat → Rat) : Prop := ∃ ys, H L = some (.lst ys) ∧ Fs K H ys ((List.range n).map f)
theorem FsL.same {H H' : Hp} {L : Addr} {n : Nat} {f : Nat → Rat} (s : Same H H') (h : FsL K H L n f) : FsL K H' L n f := by
  obtain ⟨ys, a, b⟩ := h
  exact ⟨ys, s _ _ a, Fs.same s b⟩
theorem FsL.put {H : Hp} {L : Addr} {n : Nat} {f : Nat → Rat} {ys : List V} (h1 : H L = some (.lst ys)) (h2 : Fs K H ys ((List.range n).map f)) {v : V} {x : Rat} (hv : IsF K H v x) (j : Nat) :
    FsL K (upd H L (.lst (ys.set j v))) L n (setR f j x) := by
  have tp := tps_put (H1 := H) (o := .lst (ys.set j v)) h1
  refine ⟨_, upd_same, ?_⟩
  have e : (List.range n).map (setR f j x) = ((List.range n).map f).set j x := (row_set f x).symm
  rw [e]
  exact (Fs.ts tp h2).set (hv.ts tp) j
theorem FsL.at {H : Hp} {n : Nat} {f : Nat → Rat} {ys : List V} (h2 : Fs K H ys ((List.range n).map f)) {i : Nat} (hi : i < n) : ∃ v, ys[i]? = some v ∧ IsF K H v (f i) := Paired.get' h2 (i := i) (a := f i) (by rw [List.getElem?_map, List.getElem?_range hi]; rfl)
def pullS (x : Nat → Rat) (s : Stl) (w : Nat) : Rat := (if s.u = w then s.r * x s.v else 0) + (if s.v = w then s.r * x s.u else 0)
def pullAt (ss : List Stl) (x : Nat → Rat) (w : Nat) : Rat := Sx (fun s => pullS x s w) ss
theorem pull_root {n : Nat} {ss : List Stl} (h : ∀ s ∈ ss, OkSt n s) (x : Nat → Rat) (w : Nat) : Sg (fun j => rootM ss w j * x j) (List.range n) = pullAt ss x w := by
  have nd := List.nodup_range (n := n)
  have e3 : ∀ j, rootM ss w j * x j = Sx (fun s => tieS s w j * x j) ss := fun j => by
    rw [rootM_sum fun s hs => (h s hs).ne, sumR_Sx, Rat.mul_comm, ← Sx_mul]
    exact Sx_congr fun s _ => by grind
  rw [Sg_congr fun j _ => e3 j, Sg_Sx_swap (fun j s => tieS s w j * x j) ss (List.range n)]
  refine Sx_congr fun s hs => ?_
  have o := h s hs
  have e1 : Sg (fun j => tieS s w j * x j) (List.range n) = Sg (fun j => (if s.v = j then (if s.u = w then s.r * x j else 0) else 0) + (if s.u = j then (if s.v = w then s.r * x j else 0) else 0)) (List.range n) := Sg_congr fun j _ => by
    unfold tieS
    by_cases a : s.u = w <;> by_cases b : s.v = j <;> by_cases c : s.v = w <;> by_cases d : s.u = j <;> simp [a, b, c, d] <;> grind
  rw [e1, Sg_add, Sg_delta (f := fun j => if s.u = w then s.r * x j else 0) nd (List.mem_range.mpr o.v), Sg_delta (f := fun j => if s.v = w then s.r * x j else 0) nd (List.mem_range.mpr o.u)]
  rfl
theorem Sx_take {f : Stl → Rat} {ss : List Stl} {i : Nat} {s : Stl} (h : ss[i]? = some s) : Sx f (ss.take (i + 1)) = Sx f (ss.take i) + f s := by
  rw [take_at h, ← sumR_Sx, ← sumR_Sx, List.map_append, List.map_singleton, sumR_snoc]
theorem hold_gr {n : Nat} {s : Stl} (o : Ok16 n s) (w : Nat) : Gr 25920 720 (holdS s w) := by
  unfold holdS Stl.hold
  split
  · split
    · exact o.ga
    · exact o.gb
  · exact (Gr.zero 720).mono (Nat.zero_le _)
theorem held_gr {n : Nat} {ss : List Stl} (h : ∀ s ∈ ss, Ok16 n s) (w : Nat) : Gr (ss.length * 25920) 720 (heldAt ss w) := by
  rw [heldAt_Sx]
  exact Sx_gr fun s hs => hold_gr (h s hs) w
theorem held_step {ss : List Stl} {i : Nat} {s : Stl} (h : ss[i]? = some s) (hne : s.u ≠ s.v) : setR (setR (heldAt (ss.take i)) s.u (heldAt (ss.take i) s.u + s.a)) s.v (setR (heldAt (ss.take i)) s.u (heldAt (ss.take i) s.u + s.a) s.v + s.b) = heldAt (ss.take (i + 1)) := by
  funext w
  have e : heldAt (ss.take (i + 1)) w = heldAt (ss.take i) w + holdS s w := by
    rw [heldAt_Sx, heldAt_Sx, Sx_take h]
  rw [e]
  unfold holdS Stl.hold Stl.at
  by_cases c : w = s.v
  · subst c
    rw [setR_same, setR_ne (Ne.symm hne)]
    have : ¬ s.v = s.u := Ne.symm hne
    simp [this]
  · rw [setR_ne c]
    by_cases d : w = s.u
    · subst d
      rw [setR_same]
      simp
    · rw [setR_ne d]
      simp [c, d, Ne.symm c, Ne.symm d]
      grind
theorem pull_step {x : Nat → Rat} {ss : List Stl} {i : Nat} {s : Stl} (h : ss[i]? = some s) (hne : s.u ≠ s.v) : setR (setR (pullAt (ss.take i) x) s.u (pullAt (ss.take i) x s.u + s.r * x s.v)) s.v (setR (pullAt (ss.take i) x) s.u (pullAt (ss.take i) x s.u + s.r * x s.v) s.v + s.r * x s.u) = pullAt (ss.take (i + 1)) x := by
  funext w
  have e : pullAt (ss.take (i + 1)) x w = pullAt (ss.take i) x w + pullS x s w := by
    unfold pullAt
    rw [Sx_take h]
  rw [e]
  unfold pullS
  by_cases c : w = s.v
  · subst c
    rw [setR_same, setR_ne (Ne.symm hne), if_neg hne, if_pos rfl]
    grind
  · rw [setR_ne c, if_neg (Ne.symm c)]
    by_cases d : w = s.u
    · subst d
      rw [setR_same, if_pos rfl]
      grind
    · rw [setR_ne d, if_neg (Ne.symm d)]
      grind
theorem gr_bd {N D k : Nat} {r : Rat} (h : Gr N D r) (d0 : 0 < D) (a b : Nat) (h1 : N ≤ 2 ^ a) (h2 : D ≤ 2 ^ b) (ha : a < k) (hb : b < k) : Bd k r :=
  h.bd d0 (Nat.lt_of_le_of_lt h1 (Nat.pow_lt_pow_right (by decide) ha)) (Nat.lt_of_le_of_lt h2 (Nat.pow_lt_pow_right (by decide) hb))
end My
namespace My
open PySem PySem.Spec PyProof.Rows L2
variable {K : PySem.W.Frag}
/-! ### edges -/
theorem held_sum {n : Nat} {s : Stl} (h : OkSt n s) (x : Nat → Rat) : Sg (fun i => holdS s i * (x i * x i)) (List.range n) = s.a * (x s.u * x s.u) + s.b * (x s.v * x s.v) := by
  have nd := List.nodup_range (n := n)
  have e : Sg (fun i => holdS s i * (x i * x i)) (List.range n) = Sg (fun i => (if s.u = i then s.a * (x i * x i) else 0) + (if s.v = i then s.b * (x i * x i) else 0)) (List.range n) := Sg_congr fun i _ => by
    have hne := h.ne
    unfold holdS Stl.hold Stl.at
    by_cases c : s.u = i
    · have d : ¬ s.v = i := fun z => hne (c.trans z.symm)
      simp [c, d]
      grind
    · by_cases d : s.v = i
      · simp [c, d, Ne.symm c]
        grind
      · simp [c, d, Ne.symm c, Ne.symm d]
        grind
  rw [e, Sg_add, Sg_delta (f := fun i => s.a * (x i * x i)) nd (List.mem_range.mpr h.u), Sg_delta (f := fun i => s.b * (x i * x i)) nd (List.mem_range.mpr h.v)]
theorem stall_form {n : Nat} {s : Stl} (h : OkSt n s) (p q : Rat) : 0 ≤ s.a * (p * p) + s.b * (q * q) - 2 * s.r * (p * q) := by
  have e : s.a * (s.a * (p * p) + s.b * (q * q) - 2 * s.r * (p * q)) = (s.a * p - s.r * q) * (s.a * p - s.r * q) := by
    have := h.e
    grind
  have h0 := sq_nonneg (s.a * p - s.r * q)
  rw [← e] at h0
  exact Classical.byContradiction fun c => by
    have : s.a * (s.a * (p * p) + s.b * (q * q) - 2 * s.r * (p * q)) < 0 := by
      have c : s.a * (p * p) + s.b * (q * q) - 2 * s.r * (p * q) < 0 := by grind
      have := Rat.mul_pos h.a (show 0 < -(s.a * (p * p) + s.b * (q * q) - 2 * s.r * (p * q)) by grind)
      grind
    grind
/-- nothing is short where no wish is greater than the purse -/
theorem nn_le {n : Nat} {ss : List Stl} (h : ∀ s ∈ ss, OkSt n s) {pu wi : List Rat} (hle : ∀ i, i < n → wi.getD i 0 ≤ pu.getD i 0) (x : Nat → Rat) : 0 ≤ Qf (stayM ss pu wi) (List.range n) x := by
  rw [Qf_stay h]
  have e1 : Sg (fun i => stayAt ss pu wi i * (x i * x i)) (List.range n) = Sx (fun s => s.a * (x s.u * x s.u) + s.b * (x s.v * x s.v)) ss + Sg (fun i => (pu.getD i 0 - wi.getD i 0) * (x i * x i)) (List.range n) := by
    have e2 : Sx (fun s => s.a * (x s.u * x s.u) + s.b * (x s.v * x s.v)) ss = Sg (fun i => heldAt ss i * (x i * x i)) (List.range n) := by
      rw [← Sx_congr fun s hs => held_sum (h s hs) x, ← Sg_Sx_swap (fun i s => holdS s i * (x i * x i))]
      exact Sg_congr fun i _ => by
        rw [heldAt_Sx, Rat.mul_comm (Sx _ _) (x i * x i), ← Sx_mul]
        exact Sx_congr fun s _ => by grind
    rw [e2, ← Sg_add]
    exact Sg_congr fun i _ => by
      unfold stayAt
      grind
  have e3 : 0 ≤ Sg (fun i => (pu.getD i 0 - wi.getD i 0) * (x i * x i)) (List.range n) := by
    have : ∀ l : List Nat, (∀ i ∈ l, i < n) → 0 ≤ Sg (fun i => (pu.getD i 0 - wi.getD i 0) * (x i * x i)) l := fun l hl => by
      induction l with
      | nil => exact Rat.le_refl
      | cons a l ih =>
        have h1 := Rat.mul_nonneg (a := pu.getD a 0 - wi.getD a 0) (b := x a * x a) (by
          have := hle a (hl a (List.mem_cons_self ..))
          grind) (sq_nonneg _)
        have h2 := ih fun i hi => hl i (List.mem_cons_of_mem _ hi)
        rw [Sg_cons]
        grind
    exact this _ fun i hi => List.mem_range.mp hi
  have e4 : 0 ≤ Sx (fun s => s.a * (x s.u * x s.u) + s.b * (x s.v * x s.v)) ss - Sx (fun s => 2 * s.r * (x s.u * x s.v)) ss := by
    have : ∀ l : List Stl, (∀ s ∈ l, OkSt n s) → 0 ≤ Sx (fun s => s.a * (x s.u * x s.u) + s.b * (x s.v * x s.v)) l - Sx (fun s => 2 * s.r * (x s.u * x s.v)) l := fun l hl => by
      induction l with
      | nil =>
        show (0 : Rat) ≤ 0 - 0
        grind
      | cons a l ih =>
        have h1 := stall_form (hl a (List.mem_cons_self ..)) (x a.u) (x a.v)
        have h2 := ih fun s hs => hl s (List.mem_cons_of_mem _ hs)
        show 0 ≤ (a.a * (x a.u * x a.u) + a.b * (x a.v * x a.v) + Sx _ l) - (2 * a.r * (x a.u * x a.v) + Sx _ l)
        grind
    exact this ss h
  rw [e1]
  grind
/-- nothing is short where scales meet a row -/
theorem nn_sc {n : Nat} {ss : List Stl} (h : ∀ s ∈ ss, OkSt n s) {pu wi : List Rat} {x : Nat → Rat} (x0 : ∀ i, i < n → 0 < x i) (hx : ∀ i, i < n → stayAt ss pu wi i = pullAt ss x i * (x i)⁻¹) (y : Nat → Rat) : 0 ≤ Qf (stayM ss pu wi) (List.range n) y := by
  refine Qf_scales (p := x) (stayM_symm (fun s hs => (h s hs).ne) pu wi) (stayM_op h pu wi _) (fun i hi => x0 i (List.mem_range.mp hi)) (fun i hi => ?_) y
  have hi := List.mem_range.mp hi
  rw [row_stay h pu wi x hi, pull_root h, hx i hi, Rat.mul_assoc, Rat.inv_mul_cancel _ (ne_of_pos (x0 i hi)), Rat.mul_one]
  grind
/-- rows that are drawn, and those of an edge -/
structure Rw16 (n : Nat) (N D : Nat) (rs : List Rat) : Prop where
  len : rs.length = n
  nn : ∀ r ∈ rs, 0 ≤ r
  gr : ∀ r ∈ rs, Gr N D r
theorem OkT.of16 {n k N : Nat} {ss : List Stl} {pu wi : List Rat} (n1 : 1 ≤ n) (n8 : n ≤ 8) (l16 : ss.length ≤ 16) (ok : ∀ s ∈ ss, Ok16 n s) (k0 : 0 < k) (k1 : k ≤ 100) {Np Nw Dp Dw : Nat} (hp : Rw16 n Np Dp pu) (hw : Rw16 n Nw Dw wi)
    (dp0 : 0 < Dp) (dw0 : 0 < Dw) (dp1 : Dp ≤ 2 ^ 100) (dw1 : Dw ≤ 2 ^ 100) (np1 : Np ≤ 2 ^ 100) (nw1 : Nw ≤ 2 ^ 100) (hN : N ≤ 2 ^ 27) (hs : ∀ i, i < n → Gr N (720 * k) (stayAt ss pu wi i)) : OkT n ss pu wi := by
  have up : (2 : Nat) ^ 100 < 2 ^ 2000 := Nat.pow_lt_pow_right (by decide) (by decide)
  refine ⟨⟨n1, n8, l16, fun s hs => ⟨(ok s hs).toOkSt, (ok s hs).bd⟩, hp.len, hw.len, hp.nn, hw.nn, fun r hr => (hp.gr r hr).bd dp0 (Nat.lt_of_le_of_lt np1 up) (Nat.lt_of_le_of_lt dp1 up), fun r hr => (hw.gr r hr).bd dw0 (Nat.lt_of_le_of_lt nw1 up) (Nat.lt_of_le_of_lt dw1 up)⟩, 720 * k, by omega, by omega, fun i hi j hj => ?_, fun s hs => ?_⟩
  · unfold stayM
    split
    · exact (hs i hi).mono hN
    · rw [rootM_sum fun s hs => (ok s hs).ne, sumR_Sx]
      refine Gr.neg ?_
      have : Gr (ss.length * (4320 * 2 * k)) (720 * k) (Sx (fun s => tieS s i j) ss) := Sx_gr fun s hs => by
        have g : Gr (4320 * k) (720 * k) s.r := gr_up (ok s hs).gr (60 * k) _ _ (by omega) (by omega)
        unfold tieS
        have e : 4320 * 2 * k = 4320 * k + 4320 * k := by omega
        rw [e]
        refine Gr.add ?_ ?_
        · split
          · exact g
          · exact (Gr.zero _).mono (Nat.zero_le _)
        · split
          · exact g
          · exact (Gr.zero _).mono (Nat.zero_le _)
      refine this.mono ?_
      refine Nat.le_trans (Nat.mul_le_mul l16 (Nat.mul_le_mul_left _ k1)) (by decide)
  · exact (gr_up (ok s hs).gr (60 * k) (4320 * k) (720 * k) (by omega) (by omega)).mono (Nat.le_trans (Nat.mul_le_mul_left _ k1) (by decide))
end My
namespace My
open PySem PySem.Spec PyProof.Rows L2
variable {K : PySem.W.Frag}
/-- what is drawn of an edge -/
structure Edg (n : Nat) (ss : List Stl) (mo wi : List Rat) : Prop where
  m : Rw16 n (2 ^ 21) 720 mo
  w : Rw16 n (2 ^ 21) 720 wi
  st : ∀ i, i < n → Gr 829440 720 (stayAt ss mo wi i)
  nn : ∀ x, 0 ≤ Qf (stayM ss mo wi) (List.range n) x
/-- one ware of an edge -/
def EdP (h p : Rat) (m v : Rat) : Prop := 0 ≤ m ∧ 0 ≤ v ∧ Gr (2 ^ 21) 720 m ∧ Gr (2 ^ 21) 720 v ∧ m - v = p - h
theorem EdP.neg {h p u : Rat} (g : Gr 414720 720 h) (gp : Gr 829440 720 p) (u0 : 0 ≤ u) (gu : Gr 2880 720 u) (c : h + u - p < 0) : EdP h p (u - (h + u - p)) 0 :=
  ⟨by grind, Rat.le_refl, ((gu.sub ((g.add gu).sub gp))).mono (by decide), (Gr.zero _).mono (Nat.zero_le _), by grind⟩
theorem EdP.pos {h p u : Rat} (g : Gr 414720 720 h) (gp : Gr 829440 720 p) (u0 : 0 ≤ u) (gu : Gr 2880 720 u) (c : ¬ h + u - p < 0) : EdP h p u (h + u - p) :=
  ⟨u0, by grind, gu.mono (by decide), ((g.add gu).sub gp).mono (by decide), by grind⟩
theorem Edg.of {n : Nat} {ss : List Stl} (ok : ∀ s ∈ ss, OkSt n s) {x fm fw : Nat → Rat} (x0 : ∀ i, i < n → 0 < x i) (gp : ∀ i, i < n → Gr 829440 720 (pullAt ss x i * (x i)⁻¹)) (h : ∀ i, i < n → EdP (heldAt ss i) (pullAt ss x i * (x i)⁻¹) (fm i) (fw i)) : Edg n ss ((List.range n).map fm) ((List.range n).map fw) := by
  have st : ∀ i, i < n → stayAt ss ((List.range n).map fm) ((List.range n).map fw) i = pullAt ss x i * (x i)⁻¹ := fun i hi => by
    unfold stayAt
    rw [getD_map _ hi, getD_map _ hi]
    have := (h i hi).2.2.2.2
    grind
  refine ⟨⟨by simp, fun r hr => ?_, fun r hr => ?_⟩, ⟨by simp, fun r hr => ?_, fun r hr => ?_⟩, fun i hi => ?_, nn_sc ok x0 st⟩
  · obtain ⟨j, hj, rfl⟩ := List.mem_map.mp hr
    exact (h j (List.mem_range.mp hj)).1
  · obtain ⟨j, hj, rfl⟩ := List.mem_map.mp hr
    exact (h j (List.mem_range.mp hj)).2.2.1
  · obtain ⟨j, hj, rfl⟩ := List.mem_map.mp hr
    exact (h j (List.mem_range.mp hj)).2.1
  · obtain ⟨j, hj, rfl⟩ := List.mem_map.mp hr
    exact (h j (List.mem_range.mp hj)).2.2.2.1
  · rw [st i hi]
    exact gp i hi
/-- a scale that is drawn -/
structure Sca (r : Rat) : Prop where
  p : 0 < r
  g : Gr 6 2 r
  i : Gr 12 6 r⁻¹
  b : Bd 3 r
theorem part2 {b : Int} (h0 : 1 ≤ b) (h1 : b ≤ 2) : ∃ c : Int, (2 : Int) = c * b ∧ 0 ≤ c ∧ c ≤ 2 := by
  rcases (show b = 1 ∨ b = 2 by omega) with rfl | rfl
  · exact ⟨2, by decide⟩
  · exact ⟨1, by decide⟩
theorem part6 {b : Int} (h0 : 1 ≤ b) (h1 : b ≤ 3) : ∃ c : Int, (6 : Int) = c * b ∧ 0 ≤ c ∧ c ≤ 6 := by
  rcases (show b = 1 ∨ b = 2 ∨ b = 3 by omega) with rfl | rfl | rfl
  · exact ⟨6, by decide⟩
  · exact ⟨3, by decide⟩
  · exact ⟨2, by decide⟩
theorem Sca.of {a b : Int} (a0 : 1 ≤ a) (a1 : a ≤ 3) (b0 : 1 ≤ b) (b1 : b ≤ 2) : Sca (Rat.divInt a b) := by
  refine ⟨divInt_pos (by omega) (by omega), ?_, ?_, ?_⟩
  · obtain ⟨c, e, c0, c1⟩ := part2 b0 b1
    exact gr_divInt (by omega) c e (natAbs_le_mul (A := 3) (B := 2) (by omega) (by omega))
  · rw [inv_divInt (by omega) (by omega)]
    obtain ⟨c, e, c0, c1⟩ := part6 a0 a1
    exact gr_divInt (by omega) c e (natAbs_le_mul (A := 2) (B := 6) (by omega) (by omega))
  · exact Bd.divInt (by omega) (show a.natAbs < 2 ^ 3 by omega) (show b.natAbs < 2 ^ 3 by omega)
theorem row_of {a b k : Int} (a0 : 0 ≤ a) (a1 : a ≤ k) (b0 : 1 ≤ b) (b1 : b ≤ 3) (N : Nat) (hN : k * 720 ≤ N) : 0 ≤ Rat.divInt a b ∧ Gr N 720 (Rat.divInt a b) := by
  obtain ⟨c, e, c0, c1⟩ := part6 b0 b1
  refine ⟨?_, ?_⟩
  · rw [Rat.divInt_nonneg_iff_of_pos_right (by omega)]
    exact a0
  · refine gr_divInt (by omega) (c * 120) (by
      have : (720 : Int) = 6 * 120 := by decide
      rw [show ((720 : Nat) : Int) = 720 from rfl, this, e]
      grind) ?_
    have h1 := natAbs_le_mul (a := a) (c := c * 120) (A := k.toNat) (B := 720) (by omega) (by omega)
    refine Nat.le_trans h1 ?_
    omega
theorem pull_gr {n : Nat} {ss : List Stl} (l16 : ss.length ≤ 16) (ok : ∀ s ∈ ss, Ok16 n s) {x : Nat → Rat} (hx : ∀ i, i < n → Sca (x i)) {i : Nat} (hi : i < n) : Gr 13824 24 (pullAt ss x i) ∧ Gr 829440 720 (pullAt ss x i * (x i)⁻¹) := by
  have h1 : Gr (ss.length * 864) 24 (pullAt ss x i) := Sx_gr fun s hs => by
    have o := ok s hs
    unfold pullS
    refine Gr.add (N := 432) (N' := 432) ?_ ?_
    · split
      · exact o.gr.mul (hx _ o.v).g
      · exact (Gr.zero _).mono (Nat.zero_le _)
    · split
      · exact o.gr.mul (hx _ o.u).g
      · exact (Gr.zero _).mono (Nat.zero_le _)
  have h2 : Gr 13824 24 (pullAt ss x i) := h1.mono (by omega)
  exact ⟨h2, gr_up (h2.mul (hx i hi).i) 5 _ _ (by decide) (by decide)⟩
end My
namespace My
open PySem PySem.Spec PyProof.Rows L2
variable {K : PySem.W.Frag}
theorem Rw16.at {n N D : Nat} {rs : List Rat} (h : Rw16 n N D rs) {i : Nat} (hi : i < n) : 0 ≤ rs.getD i 0 ∧ Gr N D (rs.getD i 0) := by
  have : rs.getD i 0 ∈ rs := by
    rw [List.getD_eq_getElem?_getD, List.getElem?_eq_getElem (by rw [h.len]; exact hi)]
    exact List.getElem_mem _
  exact ⟨h.nn _ this, h.gr _ this⟩
theorem row_map {n : Nat} {rs : List Rat} (h : rs.length = n) : (List.range n).map (fun j => rs.getD j 0) = rs := by
  refine List.ext_getElem (by simp [h]) fun j h1 h2 => ?_
  simp [h2]
theorem stay_gr {n Np Nw : Nat} {ss : List Stl} (l16 : ss.length ≤ 16) (ok : ∀ s ∈ ss, Ok16 n s) {pu wi : List Rat} (hp : Rw16 n Np 720 pu) (hw : Rw16 n Nw 720 wi) {i : Nat} (hi : i < n) : Gr (414720 + Np + Nw) 720 (stayAt ss pu wi i) :=
  (((held_gr ok i).mono (by omega : ss.length * 25920 ≤ 414720)).add (hp.at hi).2).sub (hw.at hi).2
theorem none16 (n : Nat) : Rw16 n 0 720 ((List.range n).map fun _ => (0 : Rat)) := ⟨by simp, fun r hr => by
  obtain ⟨_, _, rfl⟩ := List.mem_map.mp hr
  exact Rat.le_refl, fun r hr => by
  obtain ⟨_, _, rfl⟩ := List.mem_map.mp hr
  exact Gr.zero _⟩
/-- a wish, one ware raised by a step -/
def abv (wi : List Rat) (n at_ : Nat) (k : Int) : List Rat := (List.range n).map (setR (fun j => wi.getD j 0) at_ (wi.getD at_ 0 + Rat.divInt 1 k))
theorem step_gr {k : Nat} (k0 : 0 < k) : 0 ≤ Rat.divInt 1 (k : Int) ∧ Gr 720 (720 * k) (Rat.divInt 1 (k : Int)) := by
  refine ⟨?_, gr_divInt (by omega) 720 (by omega) (by decide)⟩
  rw [Rat.divInt_nonneg_iff_of_pos_right (by omega)]
  decide
theorem abv_at {wi : List Rat} {n at_ : Nat} {k : Int} {i : Nat} (hi : i < n) : (abv wi n at_ k).getD i 0 = wi.getD i 0 + (if i = at_ then Rat.divInt 1 k else 0) := by
  unfold abv
  rw [getD_map _ hi]
  unfold setR
  split
  · rename_i e
    rw [e]
  · rw [Rat.add_zero]
theorem abv16 {n at_ k : Nat} {wi : List Rat} (hw : Rw16 n (2 ^ 21) 720 wi) (k0 : 0 < k) (k1 : k ≤ 100) : Rw16 n (2 ^ 28) (720 * k) (abv wi n at_ (k : Int)) := by
  have st := step_gr k0
  have key : ∀ i, i < n → 0 ≤ wi.getD i 0 + (if i = at_ then Rat.divInt 1 (k : Int) else 0) ∧ Gr (2 ^ 28) (720 * k) (wi.getD i 0 + (if i = at_ then Rat.divInt 1 (k : Int) else 0)) := fun i hi => by
    have h := hw.at hi
    have g1 : Gr (2 ^ 21 * k) (720 * k) (wi.getD i 0) := h.2.scale k
    have b : 2 ^ 21 * k + 720 ≤ 2 ^ 28 := by omega
    split
    · exact ⟨by have := h.1; have := st.1; grind, (g1.add st.2).mono b⟩
    · rw [Rat.add_zero]
      exact ⟨h.1, g1.mono (by omega)⟩
  refine ⟨by simp [abv], fun r hr => ?_, fun r hr => ?_⟩
  · obtain ⟨j, hj, rfl⟩ := List.getElem_of_mem hr
    have hj' : j < n := by simpa [abv] using hj
    have e := abv_at (wi := wi) (at_ := at_) (k := (k : Int)) hj'
    rw [List.getD_eq_getElem?_getD, List.getElem?_eq_getElem hj] at e
    have e : (abv wi n at_ (k : Int))[j] = _ := e
    rw [e]
    exact (key j hj').1
  · obtain ⟨j, hj, rfl⟩ := List.getElem_of_mem hr
    have hj' : j < n := by simpa [abv] using hj
    have e := abv_at (wi := wi) (at_ := at_) (k := (k : Int)) hj'
    rw [List.getD_eq_getElem?_getD, List.getElem?_eq_getElem hj] at e
    have e : (abv wi n at_ (k : Int))[j] = _ := e
    rw [e]
    exact (key j hj').2
theorem step_new {H : Hp} {p : Addr} {k : Nat} (k0 : 0 < k) (k1 : k ≤ 100) : IsF K (upd H p (.tup [.int 1, .int (k : Int)])) (.ref p) (Rat.divInt 1 (k : Int)) := by
  obtain ⟨_, m2, m3⟩ := low_math (n := 1) (b := (k : Int)) (by omega) (by rw [Int.natAbs_natCast]; exact Nat.lt_of_le_of_lt k1 (Nat.lt_of_lt_of_le (show 100 < 2 ^ 7 by decide) (pow_le (by decide)))) 1 (by simp)
  exact isF_new (by rw [m2]; simp) (by rw [m3]; simp)
theorem ints_some {xs : List V} {us : List Unit} (h : Paired (fun v (_ : Unit) => ∃ m : Int, v = V.int m) xs us) : ∃ ns : List Int, xs = ns.map V.int ∧ ns.length = us.length := by
  induction h with
  | nil => exact ⟨[], rfl, rfl⟩
  | cons h t ih =>
    obtain ⟨m, rfl⟩ := h
    obtain ⟨ns, rfl, e⟩ := ih
    exact ⟨m :: ns, rfl, by simp [e]⟩
theorem paired_app {α β : Type} {F : α → β → Prop} {xs xs' : List α} {ys ys' : List β} (h : Paired F xs ys) (h' : Paired F xs' ys') : Paired F (xs ++ xs') (ys ++ ys') := by
  induction h with
  | nil => exact h'
  | cons h t ih => exact .cons h ih
end My
namespace My
open PySem PySem.Spec PyProof.Rows L2
variable {K : PySem.W.Frag}
/-! ### an edge, stall by stall -/
def gT (ss : List Stl) (pu : List Rat) (x : Nat → Rat) (i : Nat) : Nat → Rat := fun w => heldAt (ss.take i) w + pu.getD w 0 - pullAt (ss.take i) x w * (x w)⁻¹
def eJ (f : Nat → Rat) (s : Stl) (x : Nat → Rat) : Nat → Nat → Rat
  | 0 => f
  | 1 => setR f s.u (f s.u + (s.a - s.r * (x s.v * (x s.u)⁻¹)))
  | _ => setR (setR f s.u (f s.u + (s.a - s.r * (x s.v * (x s.u)⁻¹)))) s.v (f s.v + (s.b - s.r * (x s.u * (x s.v)⁻¹)))
theorem ej1 {f : Nat → Rat} {s : Stl} {x : Nat → Rat} (h : s.u ≠ s.v) : eJ f s x 1 s.v = f s.v := setR_ne (Ne.symm h)
theorem gT_step {ss : List Stl} {pu : List Rat} {x : Nat → Rat} {i : Nat} {s : Stl} (h : ss[i]? = some s) (hne : s.u ≠ s.v) : eJ (gT ss pu x i) s x 2 = gT ss pu x (i + 1) := by
  funext w
  have e : heldAt (ss.take (i + 1)) w = heldAt (ss.take i) w + holdS s w := by
    rw [heldAt_Sx, heldAt_Sx, Sx_take h]
  have e2 : pullAt (ss.take (i + 1)) x w = pullAt (ss.take i) x w + pullS x s w := by
    unfold pullAt
    rw [Sx_take h]
  show setR (setR (gT ss pu x i) s.u (gT ss pu x i s.u + (s.a - s.r * (x s.v * (x s.u)⁻¹)))) s.v (gT ss pu x i s.v + (s.b - s.r * (x s.u * (x s.v)⁻¹))) w = heldAt (ss.take (i + 1)) w + pu.getD w 0 - pullAt (ss.take (i + 1)) x w * (x w)⁻¹
  rw [e, e2]
  unfold holdS Stl.hold Stl.at pullS
  by_cases c : w = s.v
  · subst c
    rw [setR_same]
    have : ¬ s.v = s.u := Ne.symm hne
    rw [if_neg hne, if_pos rfl]
    unfold gT
    simp [this]
    grind
  · rw [setR_ne c, if_neg (Ne.symm c)]
    by_cases d : w = s.u
    · subst d
      rw [setR_same, if_pos rfl]
      unfold gT
      simp
      grind
    · rw [setR_ne d, if_neg (Ne.symm d)]
      unfold gT
      simp [c, d, Ne.symm c, Ne.symm d]
      grind
def fmE (pu : List Rat) (f : Nat → Rat) (i : Nat) : Nat → Rat := fun w => if w < i ∧ f w < 0 then pu.getD w 0 - f w else pu.getD w 0
def fwE (f : Nat → Rat) (i : Nat) : Nat → Rat := fun w => if w < i ∧ f w < 0 then 0 else f w
theorem fmE_step {pu : List Rat} {f : Nat → Rat} {i : Nat} (c : f i < 0) : setR (fmE pu f i) i (pu.getD i 0 - f i) = fmE pu f (i + 1) := by
  funext w
  unfold setR fmE
  by_cases e : w = i
  · subst e
    rw [if_pos rfl, if_pos ⟨by omega, c⟩]
  · rw [if_neg e]
    by_cases d : w < i ∧ f w < 0
    · rw [if_pos d, if_pos ⟨by omega, d.2⟩]
    · rw [if_neg d, if_neg fun z => d ⟨by omega, z.2⟩]
theorem fwE_step {f : Nat → Rat} {i : Nat} (c : f i < 0) : setR (fwE f i) i 0 = fwE f (i + 1) := by
  funext w
  unfold setR fwE
  by_cases e : w = i
  · subst e
    rw [if_pos rfl, if_pos ⟨by omega, c⟩]
  · rw [if_neg e]
    by_cases d : w < i ∧ f w < 0
    · rw [if_pos d, if_pos ⟨by omega, d.2⟩]
    · rw [if_neg d, if_neg fun z => d ⟨by omega, z.2⟩]
theorem fE_skip {pu : List Rat} {f : Nat → Rat} {i : Nat} (c : ¬ f i < 0) : fmE pu f i = fmE pu f (i + 1) ∧ fwE f i = fwE f (i + 1) := by
  refine ⟨funext fun w => ?_, funext fun w => ?_⟩
  · unfold fmE
    by_cases d : w < i ∧ f w < 0
    · rw [if_pos d, if_pos ⟨by omega, d.2⟩]
    · rw [if_neg d, if_neg fun z => by
        by_cases e : w = i
        · subst e
          exact c z.2
        · exact d ⟨by omega, z.2⟩]
  · unfold fwE
    by_cases d : w < i ∧ f w < 0
    · rw [if_pos d, if_pos ⟨by omega, d.2⟩]
    · rw [if_neg d, if_neg fun z => by
        by_cases e : w = i
        · subst e
          exact c z.2
        · exact d ⟨by omega, z.2⟩]
end My
namespace My
open PySem PySem.Spec PyProof.Rows L2
variable {K : PySem.W.Frag}
theorem num_neg {r : Rat} : r.num < 0 ↔ r < 0 := by
  rw [Rat.lt_iff]
  simp
theorem FsL.off {H : Hp} {L E : Addr} {n : Nat} {f : Nat → Rat} {zs : List V} {o : HO} (h : FsL K H L n f) (hE : H E = some (.lst zs)) (h1 : L ≠ E) : FsL K (upd H E o) L n f := by
  have tp : Tps H (upd H E o) := tps_put (H1 := H) hE
  obtain ⟨ys, a, b⟩ := h
  exact ⟨ys, (upd_ne h1).trans a, Fs.ts tp b⟩
section
variable {P : Program} {w : World} {K : PySem.W.Frag} {mg : Str → Option Value} {base : Heap} {f__wall f_is_integer f_is_row f_is_fraction f_is_amount f_is_some f_are_amounts f_added f_negated f_lessened f_multiplied f_divided f_squared f_summed f_lies_below f_is_stall f_hold_of f_stalls_of f_kept_of f_held f_roots f_check_purse f_check_wish f_may_stay f_table_of f_strike_row f_are_some f_filled_back f_in_order f_struck_in_turn f_scales f_is_scales f_l_deck f_l_pick f_l_divisor f_l_made f_l_added f_l_taken f_l_product f_l_amount f_l_stall f_l_held f_l_pulls f_l_edge f_l_deep f_l_changed f_l_are_some f_l_due f_l_is_judged f_l_word f_law f_Web_init f_Table_init f_Table_wrong_sign f_Table_behind f_Table_ties_without c_BadPurse c_BadWish c_Table c_Web c_ONE c_ZERO : Addr} {d__wall d_is_integer d_is_row d_is_fraction d_is_amount d_is_some d_are_amounts d_added d_negated d_lessened d_multiplied d_divided d_squared d_summed d_lies_below d_is_stall d_hold_of d_stalls_of d_kept_of d_held d_roots d_check_purse d_check_wish d_may_stay d_table_of d_strike_row d_are_some d_filled_back d_in_order d_struck_in_turn d_scales d_is_scales d_l_deck d_l_pick d_l_divisor d_l_made d_l_added d_l_taken d_l_product d_l_amount d_l_stall d_l_held d_l_pulls d_l_edge d_l_deep d_l_changed d_l_are_some d_l_due d_l_is_judged d_l_word d_law d_Web_init d_Table_init d_Table_wrong_sign d_Table_behind d_Table_ties_without : FuncData}
def sp_lheld16 (K : PySem.W.Frag) : Sp := fun vs H Q _ => ∃ (S : Addr) (n : Nat) (xs : List V) (ss : List Stl), vs = [.int (n : Nat), .ref S] ∧ Sq K H S xs ∧ Sts K H xs ss ∧ n ≤ 8 ∧ ss.length ≤ 16 ∧ (∀ s ∈ ss, Ok16 n s) ∧
  ∀ H' L, Same H H' → H L = none → FsL K H' L n (heldAt ss) → Q (.ref L) H'
theorem ok_l_held (T : Txt K mg f__wall f_is_integer f_is_row f_is_fraction f_is_amount f_is_some f_are_amounts f_added f_negated f_lessened f_multiplied f_divided f_squared f_summed f_lies_below f_is_stall f_hold_of f_stalls_of f_kept_of f_held f_roots f_check_purse f_check_wish f_may_stay f_table_of f_strike_row f_are_some f_filled_back f_in_order f_struck_in_turn f_scales f_is_scales f_l_deck f_l_pick f_l_divisor f_l_made f_l_added f_l_taken f_l_product f_l_amount f_l_stall f_l_held f_l_pulls f_l_edge f_l_deep f_l_changed f_l_are_some f_l_due f_l_is_judged f_l_word f_law f_Web_init f_Table_init f_Table_wrong_sign f_Table_behind f_Table_ties_without c_BadPurse c_BadWish c_Table c_Web c_ONE c_ZERO d__wall d_is_integer d_is_row d_is_fraction d_is_amount d_is_some d_are_amounts d_added d_negated d_lessened d_multiplied d_divided d_squared d_summed d_lies_below d_is_stall d_hold_of d_stalls_of d_kept_of d_held d_roots d_check_purse d_check_wish d_may_stay d_table_of d_strike_row d_are_some d_filled_back d_in_order d_struck_in_turn d_scales d_is_scales d_l_deck d_l_pick d_l_divisor d_l_made d_l_added d_l_taken d_l_product d_l_amount d_l_stall d_l_held d_l_pulls d_l_edge d_l_deep d_l_changed d_l_are_some d_l_due d_l_is_judged d_l_word d_law d_Web_init d_Table_init d_Table_wrong_sign d_Table_behind d_Table_ties_without) : FnOk P w K mg base CX0 4 f_l_held d_l_held ["_law_wares", "_law_stalls"] (sp_lheld16 K) := by
  have G_l_added : FnOk P w K mg base CX0 3 f_l_added d_l_added ["_law_one", "_law_other"] (sp_two9 K (· + ·)) := ok_l_added T
  refine T.F_l_held.ok sc_l_held (fun vs H Q E h => ?_) (fun cdv A outer s H vs Q E hr h => ?_)
  · obtain ⟨S, n, xs, ss, rfl, _⟩ := h
    rfl
  · obtain ⟨S, n, xs, ss, rfl, hS, hst, n8, l16, ok, q⟩ := h
    have hlx := hst.len
    refine ⟨_, (pss_cons (ps_setLc (i := 2) (own := [("_law_ware", 3)]) (g := gName 3) rfl sc_l_held.nd rfl rfl (sw_true rfl rfl rfl (by decide +kernel)) (pi_range1 (by rfl) T.z_range (pa_cons (pv 0) pa_nil)) (blkOk_by (own := [("_law_ware", 3)]) (N := N_l_held) (sc := defScope s_l_held) (by decide +kernel)) (fun _ _ _ _ _ => (pg_name (i := 3) sc_l_held.nd rfl (by first | exact Or.inl rfl | exact Or.inr rfl))) (fun _ _ _ _ _ => pts_nil) (fun _ _ _ _ _ => (pe_tup (pa_cons pe_int (pa_cons pe_int pa_nil)))))
      (pss_cons (ps_for PassesOwn.never rfl (My.pi_seqA (pv 1)) (pg_name (i := 4) sc_l_held.nd rfl (by first | exact Or.inl rfl | exact Or.inr rfl))
        (pss_cons (ps_asg (pe_call G_l_added (hr.mono (by decide)) (by rfl) T.g_l_added T.k_l_added T.b_l_added .nil pass0 (pa_cons (pe_ix ix_list (pv 2) (pe_ix ix_tup (pv 4) pe_int (fun _ _ => rfl)) (fun _ _ => rfl)) (pa_cons (pe_ix ix_tup (pv 4) pe_int (fun _ _ => rfl)) pa_nil))) (pg_sub (pv 2) (pe_ix ix_tup (pv 4) pe_int (fun _ _ => rfl)) set_list))
          (pss_one (ps_asg (pe_call G_l_added (hr.mono (by decide)) (by rfl) T.g_l_added T.k_l_added T.b_l_added .nil pass0 (pa_cons (pe_ix ix_list (pv 2) (pe_ix ix_tup (pv 4) pe_int (fun _ _ => rfl)) (fun _ _ => rfl)) (pa_cons (pe_ix ix_tup (pv 4) pe_int (fun _ _ => rfl)) pa_nil))) (pg_sub (pv 2) (pe_ix ix_tup (pv 4) pe_int (fun _ _ => rfl)) set_list)))))
      (pss_one (ps_ret (pv 2))))), ?_⟩
    walk_at "r"
    refine ⟨by omega, by omega, fun L nL => ?_⟩
    refine lc_rangeP (R := IsF K) (fun _ _ _ _ f h => h.ts f) (f := fun i => some (0 : Rat)) nL (by omega) (fun i hi H' Q' N s1 hy hn => ?_) fun H1 hlst => ?_
    · walk_at "r"
      refine ⟨rfl, ?_⟩
      walk_at "r"
      intro t0 n0
      exact hy _ _ _ rfl (same_upd n0) (isF_new rfl rfl)
    · obtain ⟨s1, ys, hL, hys⟩ := hlst
      rw [show ((n : Nat) : Int).toNat = n from rfl, upTo_map] at hys
      walk_at "r"
      refine rd_seqA ?_
      walk_at "r"
      refine for_seqA (H0 := H) (xs := xs) (fun i σ H' => ∃ (t3 t4 : Option V), σ = [some (.int (n : Nat)), some (.ref S), some (.ref L), t3, t4] ∧ Same H H' ∧ FsL K H' L n (heldAt (ss.take i))) hS ?_ ?_ ?_ ?_ rfl
      · exact ⟨_, _, rfl, s1, ys, hL, hys⟩
      · rintro i σ H' ⟨t3, t4, rfl, s2, _⟩
        exact s2
      · rintro i x σ H' hx ⟨t3, t4, rfl, s2, zs, hL2, hz⟩
        obtain ⟨s, hs, hst2⟩ := hst.at hx
        obtain ⟨p, va, vb, vr, rfl, hp, iva, ivb, ivr⟩ := hst2.same s2
        have o := ok s (List.mem_of_getElem? hs)
        have hil := (List.getElem?_eq_some_iff.mp hs).1
        have hlz := hz.len
        rw [List.length_map, List.length_range] at hlz
        have gt : ∀ w, Gr (16 * 25920) 720 (heldAt (ss.take i) w) := fun w => (held_gr (fun s hs => ok s (List.mem_of_mem_take hs)) w).mono (Nat.mul_le_mul_right _ (by rw [List.length_take]; omega))
        obtain ⟨vu, hvu, iu⟩ := FsL.at hz o.u
        walk_at "r"
        refine rd_ixL hL2 (at_some hvu) ?_
        walk_at "r"
        refine ⟨_, _, _, _, rfl, iu, iva, gr_bd (gt _) (by decide) 20 20 (by decide) (by decide) (by decide) (by decide), o.bd.a.mono (by decide), fun H3 v3 s3 h3 => ?_⟩
        have hL3 := s3 _ _ hL2
        walk_at "r"
        refine rd_setL hL3 (ixN_at (by rw [hlz]; exact o.u)) ?_
        have f4 := FsL.put hL3 (Fs.same s3 hz) h3 s.u
        have s4 : Same H (upd H3 L (.lst (zs.set s.u v3))) := same_put nL (s2.trans s3)
        have tp := tps_put (H1 := H3) (o := .lst (zs.set s.u v3)) hL3
        have hp4 := tp _ _ (s3 _ _ hp)
        have ivb4 := (ivb.same s3).ts tp
        clear tp
        generalize upd H3 L (.lst (zs.set s.u v3)) = H4 at *
        obtain ⟨ws, hL4, hw⟩ := f4
        have hlw := hw.len
        rw [List.length_map, List.length_range] at hlw
        obtain ⟨vv, hvv, iv⟩ := FsL.at hw o.v
        walk_at "r"
        refine rd_ixL hL4 (at_some hvv) ?_
        walk_at "r"
        have b4 : Bd 4400 (setR (heldAt (ss.take i)) s.u (heldAt (ss.take i) s.u + s.a) s.v) := by
          rw [setR_ne (Ne.symm o.ne)]
          exact gr_bd (gt _) (by decide) 20 20 (by decide) (by decide) (by decide) (by decide)
        refine ⟨_, _, _, _, rfl, iv, ivb4, b4, o.bd.b.mono (by decide), fun H5 v5 s5 h5 => ?_⟩
        have hL5 := s5 _ _ hL4
        walk_at "r"
        refine rd_setL hL5 (ixN_at (by rw [hlw]; exact o.v)) ?_
        have f6 := FsL.put hL5 (Fs.same s5 hw) h5 s.v
        have h6 := held_step hs o.ne
        refine ⟨_, _, rfl, same_put nL (s4.trans s5), ?_⟩
        rw [← h6]
        exact f6
      · rintro σ H' ⟨t3, t4, rfl, s2, f2⟩
        rw [hlx, List.take_length] at f2
        walk_at "r"
        exact q _ L s2 nL f2
def sp_lpulls16 (K : PySem.W.Frag) : Sp := fun vs H Q _ => ∃ (S : Addr) (x : V) (n NX DX : Nat) (xs : List V) (ss : List Stl) (ρ : List Rat), vs = [.int (n : Nat), .ref S, x] ∧ Sq K H S xs ∧ Sts K H xs ss ∧ n ≤ 8 ∧ ss.length ≤ 16 ∧ (∀ s ∈ ss, Ok16 n s) ∧
  IsRow K H x ρ ∧ ρ.length = n ∧ (∀ i, i < n → Gr NX DX (xOf ρ i)) ∧ 0 < DX ∧ NX ≤ 2 ^ 4300 ∧ DX ≤ 2 ^ 4300 ∧ ∀ H' L, Same H H' → H L = none → FsL K H' L n (pullAt ss (xOf ρ)) → Q (.ref L) H'
theorem ok_l_pulls (T : Txt K mg f__wall f_is_integer f_is_row f_is_fraction f_is_amount f_is_some f_are_amounts f_added f_negated f_lessened f_multiplied f_divided f_squared f_summed f_lies_below f_is_stall f_hold_of f_stalls_of f_kept_of f_held f_roots f_check_purse f_check_wish f_may_stay f_table_of f_strike_row f_are_some f_filled_back f_in_order f_struck_in_turn f_scales f_is_scales f_l_deck f_l_pick f_l_divisor f_l_made f_l_added f_l_taken f_l_product f_l_amount f_l_stall f_l_held f_l_pulls f_l_edge f_l_deep f_l_changed f_l_are_some f_l_due f_l_is_judged f_l_word f_law f_Web_init f_Table_init f_Table_wrong_sign f_Table_behind f_Table_ties_without c_BadPurse c_BadWish c_Table c_Web c_ONE c_ZERO d__wall d_is_integer d_is_row d_is_fraction d_is_amount d_is_some d_are_amounts d_added d_negated d_lessened d_multiplied d_divided d_squared d_summed d_lies_below d_is_stall d_hold_of d_stalls_of d_kept_of d_held d_roots d_check_purse d_check_wish d_may_stay d_table_of d_strike_row d_are_some d_filled_back d_in_order d_struck_in_turn d_scales d_is_scales d_l_deck d_l_pick d_l_divisor d_l_made d_l_added d_l_taken d_l_product d_l_amount d_l_stall d_l_held d_l_pulls d_l_edge d_l_deep d_l_changed d_l_are_some d_l_due d_l_is_judged d_l_word d_law d_Web_init d_Table_init d_Table_wrong_sign d_Table_behind d_Table_ties_without) : FnOk P w K mg base CX0 4 f_l_pulls d_l_pulls ["_law_wares", "_law_stalls", "_law_scale"] (sp_lpulls16 K) := by
  have G_l_added : FnOk P w K mg base CX0 3 f_l_added d_l_added ["_law_one", "_law_other"] (sp_two9 K (· + ·)) := ok_l_added T
  have G_l_product : FnOk P w K mg base CX0 3 f_l_product d_l_product ["_law_one", "_law_other"] (sp_two9 K (· * ·)) := ok_l_product T
  refine T.F_l_pulls.ok sc_l_pulls (fun vs H Q E h => ?_) (fun cdv A outer s H vs Q E hr h => ?_)
  · obtain ⟨S, x, n, NX, DX, xs, ss, ρ, rfl, _⟩ := h
    rfl
  · obtain ⟨S, x, n, NX, DX, xs, ss, ρ, rfl, hS, hst, n8, l16, ok, ⟨X, yx, rfl, hX, hfx⟩, lρ, gx, dx0, nx1, dx1, q⟩ := h
    have hlx := hst.len
    have ly := hfx.len
    have D1 : 12 * DX ≤ 2 ^ 4304 := big_mul (e := 4) (f := 4300) (by decide) dx1 (by decide)
    have N1 : 16 * (2 * (72 * NX)) ≤ 2 ^ 4312 := big_mul (e := 4) (f := 4308) (by decide) (big_mul (e := 1) (f := 4307) (by decide) (big_mul (e := 7) (f := 4300) (by decide) nx1 (by decide)) (by decide)) (by decide)
    have D0 : 0 < 12 * DX := Nat.mul_pos (by decide) dx0
    have gp : ∀ s ∈ ss, ∀ j, j < n → Gr (72 * NX) (12 * DX) (s.r * xOf ρ j) := fun s hs j hj => (ok s hs).gr.mul (gx j hj)
    have gS : ∀ s ∈ ss, ∀ w, Gr (2 * (72 * NX)) (12 * DX) (pullS (xOf ρ) s w) := fun s hs w => by
      have o := ok s hs
      rw [Nat.two_mul]
      refine Gr.add ?_ ?_
      · split
        · exact gp s hs _ o.v
        · exact (Gr.zero _).mono (Nat.zero_le _)
      · split
        · exact gp s hs _ o.u
        · exact (Gr.zero _).mono (Nat.zero_le _)
    have gt : ∀ i w, Gr (16 * (2 * (72 * NX))) (12 * DX) (pullAt (ss.take i) (xOf ρ) w) := fun i w => (Sx_gr (f := fun s => pullS (xOf ρ) s w) fun s hs => gS s (List.mem_of_mem_take hs) w).mono (Nat.mul_le_mul_right _ (by rw [List.length_take]; omega))
    have bt : ∀ i w, Bd 4400 (pullAt (ss.take i) (xOf ρ) w) := fun i w => gr_bd (gt i w) D0 4312 4304 N1 D1 (by decide) (by decide)
    have bp : ∀ s ∈ ss, ∀ j, j < n → Bd 4400 (s.r * xOf ρ j) := fun s hs j hj => gr_bd (gp s hs j hj) D0 4312 4304 (Nat.le_trans (by omega) N1) D1 (by decide) (by decide)
    have bx : ∀ j, j < n → Bd 4400 (xOf ρ j) := fun j hj => gr_bd (gx j hj) dx0 4300 4300 nx1 dx1 (by decide) (by decide)
    have fx : ∀ {H' : Hp}, (H X = some (.lst yx) ∨ H X = some (.tup yx)) → Same H H' → (H' X = some (.lst yx) ∨ H' X = some (.tup yx)) := fun h s => h.imp (s _ _) (s _ _)
    refine ⟨_, (pss_cons (ps_setLc (i := 3) (own := [("_law_ware", 4)]) (g := gName 4) rfl sc_l_pulls.nd rfl rfl (sw_true rfl rfl rfl (by decide +kernel)) (pi_range1 (by rfl) T.z_range (pa_cons (pv 0) pa_nil)) (blkOk_by (own := [("_law_ware", 4)]) (N := N_l_pulls) (sc := defScope s_l_pulls) (by decide +kernel)) (fun _ _ _ _ _ => (pg_name (i := 4) sc_l_pulls.nd rfl (by first | exact Or.inl rfl | exact Or.inr rfl))) (fun _ _ _ _ _ => pts_nil) (fun _ _ _ _ _ => (pe_tup (pa_cons pe_int (pa_cons pe_int pa_nil)))))
      (pss_cons (ps_for PassesOwn.never rfl (My.pi_seqA (pv 1)) (pg_name (i := 5) sc_l_pulls.nd rfl (by first | exact Or.inl rfl | exact Or.inr rfl))
        (pss_cons (ps_asg (pe_call G_l_added (hr.mono (by decide)) (by rfl) T.g_l_added T.k_l_added T.b_l_added .nil pass0 (pa_cons (pe_ix ix_list (pv 3) (pe_ix ix_tup (pv 5) pe_int (fun _ _ => rfl)) (fun _ _ => rfl)) (pa_cons (pe_call G_l_product (hr.mono (by decide)) (by rfl) T.g_l_product T.k_l_product T.b_l_product .nil pass0 (pa_cons (pe_ix ix_tup (pv 5) pe_int (fun _ _ => rfl)) (pa_cons (pe_ix My.ix_any (pv 2) (pe_ix ix_tup (pv 5) pe_int (fun _ _ => rfl)) (fun _ _ => rfl)) pa_nil))) pa_nil))) (pg_sub (pv 3) (pe_ix ix_tup (pv 5) pe_int (fun _ _ => rfl)) set_list))
          (pss_one (ps_asg (pe_call G_l_added (hr.mono (by decide)) (by rfl) T.g_l_added T.k_l_added T.b_l_added .nil pass0 (pa_cons (pe_ix ix_list (pv 3) (pe_ix ix_tup (pv 5) pe_int (fun _ _ => rfl)) (fun _ _ => rfl)) (pa_cons (pe_call G_l_product (hr.mono (by decide)) (by rfl) T.g_l_product T.k_l_product T.b_l_product .nil pass0 (pa_cons (pe_ix ix_tup (pv 5) pe_int (fun _ _ => rfl)) (pa_cons (pe_ix My.ix_any (pv 2) (pe_ix ix_tup (pv 5) pe_int (fun _ _ => rfl)) (fun _ _ => rfl)) pa_nil))) pa_nil))) (pg_sub (pv 3) (pe_ix ix_tup (pv 5) pe_int (fun _ _ => rfl)) set_list)))))
      (pss_one (ps_ret (pv 3))))), ?_⟩
    walk_at "r"
    refine ⟨by omega, by omega, fun L nL => ?_⟩
    refine lc_rangeP (R := IsF K) (fun _ _ _ _ f h => h.ts f) (f := fun i => some (0 : Rat)) nL (by omega) (fun i hi H' Q' N s1 hy hn => ?_) fun H1 hlst => ?_
    · walk_at "r"
      refine ⟨rfl, ?_⟩
      walk_at "r"
      intro t0 n0
      exact hy _ _ _ rfl (same_upd n0) (isF_new rfl rfl)
    · obtain ⟨s1, ys, hL, hys⟩ := hlst
      rw [show ((n : Nat) : Int).toNat = n from rfl, upTo_map] at hys
      walk_at "r"
      refine rd_seqA ?_
      walk_at "r"
      refine for_seqA (H0 := H) (xs := xs) (fun i σ H' => ∃ (t4 t5 : Option V), σ = [some (.int (n : Nat)), some (.ref S), some (.ref X), some (.ref L), t4, t5] ∧ Same H H' ∧ FsL K H' L n (pullAt (ss.take i) (xOf ρ))) hS ?_ ?_ ?_ ?_ rfl
      · exact ⟨_, _, rfl, s1, ys, hL, hys⟩
      · rintro i σ H' ⟨t3, t4, rfl, s2, _⟩
        exact s2
      · rintro i x σ H' hx ⟨t3, t4, rfl, s2, zs, hL2, hz⟩
        obtain ⟨s, hs, hst2⟩ := hst.at hx
        obtain ⟨p, va, vb, vr, rfl, hp, iva, ivb, ivr⟩ := hst2.same s2
        have sm := List.mem_of_getElem? hs
        have o := ok s sm
        have hlz := hz.len
        rw [List.length_map, List.length_range] at hlz
        obtain ⟨vu, hvu, iu⟩ := FsL.at hz o.u
        obtain ⟨xv, hxv, ixv⟩ := hfx.getD' (i := s.v) (by have := o.v; omega)
        obtain ⟨xu, hxu, ixu⟩ := hfx.getD' (i := s.u) (by have := o.u; omega)
        walk_at "r"
        refine rd_ixL hL2 (at_some hvu) ?_
        walk_at "r"
        refine rd_ixAny (fx hX s2) (at_some hxv) ?_
        walk_at "r"
        refine ⟨_, _, _, _, rfl, ivr, ixv.same s2, o.bd.r.mono (by decide), bx _ o.v, fun H3 v3 s3 h3 => ?_⟩
        walk_at "r"
        refine ⟨_, _, _, _, rfl, iu.same s3, h3, bt i _, bp s sm _ o.v, fun H4 v4 s4 h4 => ?_⟩
        have s34 := s3.trans s4
        have hL4 := s34 _ _ hL2
        walk_at "r"
        refine rd_setL hL4 (ixN_at (by rw [hlz]; exact o.u)) ?_
        have f5 := FsL.put hL4 (Fs.same s34 hz) h4 s.u
        have s5 : Same H (upd H4 L (.lst (zs.set s.u v4))) := same_put nL (s2.trans s34)
        have tp := tps_put (H1 := H4) (o := .lst (zs.set s.u v4)) hL4
        have hp5 := tp _ _ (s34 _ _ hp)
        have ivr5 := (ivr.same s34).ts tp
        clear tp
        generalize upd H4 L (.lst (zs.set s.u v4)) = H5 at *
        obtain ⟨ws, hL5, hw⟩ := f5
        have hlw := hw.len
        rw [List.length_map, List.length_range] at hlw
        obtain ⟨vv, hvv, iv⟩ := FsL.at hw o.v
        walk_at "r"
        refine rd_ixL hL5 (at_some hvv) ?_
        walk_at "r"
        refine rd_ixAny (fx hX s5) (at_some hxu) ?_
        walk_at "r"
        refine ⟨_, _, _, _, rfl, ivr5, ixu.same s5, o.bd.r.mono (by decide), bx _ o.u, fun H6 v6 s6 h6 => ?_⟩
        walk_at "r"
        have b4 : Bd 4400 (setR (pullAt (ss.take i) (xOf ρ)) s.u (pullAt (ss.take i) (xOf ρ) s.u + s.r * xOf ρ s.v) s.v) := by
          rw [setR_ne (Ne.symm o.ne)]
          exact bt i _
        refine ⟨_, _, _, _, rfl, iv.same s6, h6, b4, bp s sm _ o.u, fun H7 v7 s7 h7 => ?_⟩
        have s67 := s6.trans s7
        have hL7 := s67 _ _ hL5
        walk_at "r"
        refine rd_setL hL7 (ixN_at (by rw [hlw]; exact o.v)) ?_
        have f8 := FsL.put hL7 (Fs.same s67 hw) h7 s.v
        have h8 := pull_step (x := xOf ρ) hs o.ne
        refine ⟨_, _, rfl, same_put nL (s5.trans s67), ?_⟩
        rw [← h8]
        exact f8
      · rintro σ H' ⟨t3, t4, rfl, s2, f2⟩
        rw [hlx, List.take_length] at f2
        walk_at "r"
        exact q _ L s2 nL f2
def sp_ledge17 (K : PySem.W.Frag) : Sp := fun vs H Q _ => ∃ (S Lp X : Addr) (n : Nat) (xs : List V) (ss : List Stl) (pu ρ : List Rat) (yp yx : List V), vs = [.int (n : Nat), .ref S, .ref Lp, .ref X] ∧ H S = some (.lst xs) ∧ Sts K H xs ss ∧ n ≤ 8 ∧ ss.length ≤ 16 ∧ (∀ s ∈ ss, Ok16 n s) ∧ H Lp = some (.lst yp) ∧ Fs K H yp pu ∧ Rw16 n 2880 720 pu ∧
  H X = some (.tup yx) ∧ Fs K H yx ρ ∧ ρ.length = n ∧ (∀ i, i < n → Sca (xOf ρ i)) ∧
  ∀ H' R Lm Le ym ye mo ed, Same H H' → H' R = some (.lst [.ref Lm, .ref Le]) → H Lm = none → H Le = none → H' Lm = some (.lst ym) → Fs K H' ym mo → H' Le = some (.lst ye) → Fs K H' ye ed → Edg n ss mo ed → (∀ i, i < n → stayAt ss mo ed i = pullAt ss (xOf ρ) i * (xOf ρ i)⁻¹) → Q (.ref R) H'
theorem edge_st {n : Nat} {ss : List Stl} {x fm fw : Nat → Rat} (h : ∀ i, i < n → EdP (heldAt ss i) (pullAt ss x i * (x i)⁻¹) (fm i) (fw i)) : ∀ i, i < n → stayAt ss ((List.range n).map fm) ((List.range n).map fw) i = pullAt ss x i * (x i)⁻¹ := fun i hi => by
  unfold stayAt
  rw [getD_map _ hi, getD_map _ hi]
  have := (h i hi).2.2.2.2
  grind
theorem ok_l_edge (T : Txt K mg f__wall f_is_integer f_is_row f_is_fraction f_is_amount f_is_some f_are_amounts f_added f_negated f_lessened f_multiplied f_divided f_squared f_summed f_lies_below f_is_stall f_hold_of f_stalls_of f_kept_of f_held f_roots f_check_purse f_check_wish f_may_stay f_table_of f_strike_row f_are_some f_filled_back f_in_order f_struck_in_turn f_scales f_is_scales f_l_deck f_l_pick f_l_divisor f_l_made f_l_added f_l_taken f_l_product f_l_amount f_l_stall f_l_held f_l_pulls f_l_edge f_l_deep f_l_changed f_l_are_some f_l_due f_l_is_judged f_l_word f_law f_Web_init f_Table_init f_Table_wrong_sign f_Table_behind f_Table_ties_without c_BadPurse c_BadWish c_Table c_Web c_ONE c_ZERO d__wall d_is_integer d_is_row d_is_fraction d_is_amount d_is_some d_are_amounts d_added d_negated d_lessened d_multiplied d_divided d_squared d_summed d_lies_below d_is_stall d_hold_of d_stalls_of d_kept_of d_held d_roots d_check_purse d_check_wish d_may_stay d_table_of d_strike_row d_are_some d_filled_back d_in_order d_struck_in_turn d_scales d_is_scales d_l_deck d_l_pick d_l_divisor d_l_made d_l_added d_l_taken d_l_product d_l_amount d_l_stall d_l_held d_l_pulls d_l_edge d_l_deep d_l_changed d_l_are_some d_l_due d_l_is_judged d_l_word d_law d_Web_init d_Table_init d_Table_wrong_sign d_Table_behind d_Table_ties_without) : FnOk P w K mg base CX0 5 f_l_edge d_l_edge ["_law_wares", "_law_stalls", "_law_purse", "_law_scale"] (sp_ledge17 K) := by
  have G_l_held : FnOk P w K mg base CX0 4 f_l_held d_l_held ["_law_wares", "_law_stalls"] (sp_lheld16 K) := ok_l_held T
  have G_l_pulls : FnOk P w K mg base CX0 4 f_l_pulls d_l_pulls ["_law_wares", "_law_stalls", "_law_scale"] (sp_lpulls16 K) := ok_l_pulls T
  have G_l_added : FnOk P w K mg base CX0 3 f_l_added d_l_added ["_law_one", "_law_other"] (sp_two9 K (· + ·)) := ok_l_added T
  have G_l_taken : FnOk P w K mg base CX0 3 f_l_taken d_l_taken ["_law_one", "_law_other"] (sp_two9 K (· - ·)) := ok_l_taken T
  have G_l_product : FnOk P w K mg base CX0 3 f_l_product d_l_product ["_law_one", "_law_other"] (sp_two9 K (· * ·)) := ok_l_product T
  refine T.F_l_edge.ok sc_l_edge (fun vs H Q E h => ?_) (fun cdv A outer s H vs Q E hr h => ?_)
  · obtain ⟨S, Lp, X, n, xs, ss, pu, ρ, yp, yx, rfl, _⟩ := h
    rfl
  · obtain ⟨S, Lp, X, n, xs, ss, pu, ρ, yp, yx, rfl, hS, hst, n8, l16, ok, hLp, hyp, hpu, hX, hfx, lρ, hx, q⟩ := h
    have oks : ∀ s ∈ ss, OkSt n s := fun s hs => (ok s hs).toOkSt
    have lpu := hpu.len
    refine ⟨_, (pss_cons (ps_set (i := 4) sc_l_edge.nd rfl (by first | exact Or.inl rfl | exact Or.inr rfl) (pe_call G_l_pulls (hr.mono (by decide)) (by rfl) T.g_l_pulls T.k_l_pulls T.b_l_pulls .nil pass0 (pa_cons (pv 0) (pa_cons (pv 1) (pa_cons (pv 3) pa_nil)))))
      (pss_cons (ps_set (i := 5) sc_l_edge.nd rfl (by first | exact Or.inl rfl | exact Or.inr rfl) (pe_call G_l_held (hr.mono (by decide)) (by rfl) T.g_l_held T.k_l_held T.b_l_held .nil pass0 (pa_cons (pv 0) (pa_cons (pv 1) pa_nil))))
      (pss_cons (ps_set (i := 6) sc_l_edge.nd rfl (by first | exact Or.inl rfl | exact Or.inr rfl) (pe_callTy call_list_of (by rfl) T.z_list (by decide +kernel) (pa_cons (pv 2) pa_nil)))
      (pss_cons (ps_set (i := 7) sc_l_edge.nd rfl (by first | exact Or.inl rfl | exact Or.inr rfl) (pe_lst pa_nil))
      (pss_cons (ps_for PassesOwn.never rfl (pi_range1 (by rfl) T.z_range (pa_cons (pv 0) pa_nil)) (pg_name (i := 8) sc_l_edge.nd rfl (by first | exact Or.inl rfl | exact Or.inr rfl))
        (pss_cons (ps_set (i := 9) sc_l_edge.nd rfl (by first | exact Or.inl rfl | exact Or.inr rfl) (pe_call G_l_taken (hr.mono (by decide)) (by rfl) T.g_l_taken T.k_l_taken T.b_l_taken .nil pass0 (pa_cons (pe_call G_l_added (hr.mono (by decide)) (by rfl) T.g_l_added T.k_l_added T.b_l_added .nil pass0 (pa_cons (pe_ix ix_list (pv 5) (pv 8) (fun _ _ => rfl)) (pa_cons (pe_ix ix_list (pv 2) (pv 8) (fun _ _ => rfl)) pa_nil))) (pa_cons (pe_call G_l_product (hr.mono (by decide)) (by rfl) T.g_l_product T.k_l_product T.b_l_product .nil pass0 (pa_cons (pe_ix ix_list (pv 4) (pv 8) (fun _ _ => rfl)) (pa_cons (My.pe_revT (pe_ix ix_tup (pv 3) (pv 8) (fun _ _ => rfl))) pa_nil))) pa_nil))))
          (C8.pss_cut (ps_if (pt_cmpR op_lt (pe_ix ix_tup (pv 9) pe_int (fun _ _ => rfl)) pe_int (nomark _))
            (pss_cons (ps_asg (pe_call G_l_taken (hr.mono (by decide)) (by rfl) T.g_l_taken T.k_l_taken T.b_l_taken .nil pass0 (pa_cons (pe_ix ix_list (pv 2) (pv 8) (fun _ _ => rfl)) (pa_cons (pv 9) pa_nil))) (pg_sub (pv 6) (pv 8) set_list))
              (pss_one (ps_set (i := 9) sc_l_edge.nd rfl (by first | exact Or.inl rfl | exact Or.inr rfl) (pe_tup (pa_cons pe_int (pa_cons pe_int pa_nil))))))
            pss_nil)
          (pss_one (ps_expr (pe_bm PySem.F.plainAttrs_list PySem.F.slot_list_append PySem.F.type_list_append mt_append (pv 7) (pa_cons (pv 9) pa_nil)))))))
      (pss_one (ps_ret (pe_lst (pa_cons (pv 6) (pa_cons (pv 7) pa_nil)))))))))), ?_⟩
    walk_at "r"
    refine ⟨S, _, n, 6, 2, xs, ss, ρ, rfl, .inl (.of hS), hst, n8, l16, ok, ⟨X, yx, rfl, .inr hX, hfx⟩, lρ, fun i hi => (hx i hi).g, by decide, Nat.le_trans (show 6 ≤ 2 ^ 3 by decide) (pow_le (by decide)), Nat.le_trans (show 2 ≤ 2 ^ 1 by decide) (pow_le (by decide)), fun H1 Lq s1 nLq fq => ?_⟩
    walk_at "r"
    refine ⟨S, n, xs, ss, rfl, .inl (.of (s1 _ _ hS)), hst.same s1, n8, l16, ok, fun H2 Lh s2 nLh fh => ?_⟩
    have k2 := s1.trans s2
    walk_at "r"
    refine ⟨_, _, rfl, .inl (.of (k2 _ _ hLp)), fun Lm nLm => ?_⟩
    have s3 := same_upd (o := .lst yp) nLm
    have hLm : upd H2 Lm (.lst yp) Lm = some (.lst yp) := upd_same
    have nLmH : H Lm = none := k2.free nLm
    generalize upd H2 Lm (.lst yp) = H3 at *
    walk_at "r"
    intro Le nLe
    have s4 := same_upd (o := .lst ([] : List V)) nLe
    have hLe : upd H3 Le (.lst []) Le = some (.lst []) := upd_same
    have k3 := k2.trans s3
    have nLeH : H Le = none := k3.free nLe
    have nme : Lm ≠ Le := ne_of_none hLm nLe
    have nqm : Lq ≠ Lm := by
      obtain ⟨_, h, _⟩ := fq.same s2
      exact ne_of_none h nLm
    have nhm : Lh ≠ Lm := by
      obtain ⟨_, h, _⟩ := fh
      exact ne_of_none h nLm
    have nqe : Lq ≠ Le := by
      obtain ⟨_, h, _⟩ := (fq.same s2).same s3
      exact ne_of_none h nLe
    have nhe : Lh ≠ Le := by
      obtain ⟨_, h, _⟩ := fh.same s3
      exact ne_of_none h nLe
    have hLm4 := s4 _ _ hLm
    generalize upd H3 Le (.lst []) = H4 at *
    have k4 := k3.trans s4
    have s24 := s3.trans s4
    have fq4 := (fq.same s2).same s24
    have fh4 := fh.same s24
    have hyp4 := Fs.same k4 hyp
    have hLp4 := k4 _ _ hLp
    have hX4 := k4 _ _ hX
    have hfx4 := Fs.same k4 hfx
    have n2 : H2 Lm = none := nLm
    clear fq fh s1 s2 s3 s4 s24 hLm
    have gh : ∀ w, Gr 414720 720 (heldAt ss w) := fun w => (held_gr ok w).mono (by omega : ss.length * 25920 ≤ 414720)
    have gu : ∀ w, w < n → Gr 2880 720 (pu.getD w 0) ∧ 0 ≤ pu.getD w 0 := fun w hw => ⟨(hpu.at hw).2, (hpu.at hw).1⟩
    have gp : ∀ w, w < n → Gr 829440 720 (pullAt ss (xOf ρ) w * (xOf ρ w)⁻¹) := fun w hw => (pull_gr l16 ok hx hw).2
    have bd : ∀ {N : Nat} {r : Rat}, N ≤ 2 ^ 22 → Gr N 720 r → Bd 4400 r := fun hN g => gr_bd g (by decide) 22 10 hN (by decide) (by decide) (by decide)
    obtain ⟨f, hf⟩ : ∃ f : Nat → Rat, f = fun w => heldAt ss w + pu.getD w 0 - pullAt ss (xOf ρ) w * (xOf ρ w)⁻¹ := ⟨_, rfl⟩
    have gf : ∀ w, w < n → Gr 1247040 720 (f w) := fun w hw => by
      rw [hf]
      exact (((gh w).add (gu w hw).1).sub (gp w hw)).mono (by decide)
    walk_at "r"
    refine ⟨by omega, by omega, ?_⟩
    refine for_range (lo := 0) (n := n) (fun i σ H' => ∃ (t8 t9 : Option V) (ye : List V), σ = [some (.int (n : Nat)), some (.ref S), some (.ref Lp), some (.ref X), some (.ref Lq), some (.ref Lh), some (.ref Lm), some (.ref Le), t8, t9] ∧ Same H H' ∧ FsL K H' Lm n (fmE pu f i) ∧ H' Le = some (.lst ye) ∧ Fs K H' ye ((List.range i).map fun j => if f j < 0 then 0 else f j) ∧ FsL K H' Lh n (heldAt ss) ∧ FsL K H' Lq n (pullAt ss (xOf ρ))) ?_ ?_ ?_
    · refine ⟨_, _, _, rfl, k4, ⟨yp, hLm4, ?_⟩, hLe, .nil, fh4, fq4⟩
      have e : (List.range n).map (fmE pu f 0) = (List.range n).map fun j => pu.getD j 0 := List.map_congr_left fun w _ => if_neg fun z => absurd z.1 (Nat.not_lt_zero _)
      rw [e, row_map lpu]
      exact hyp4
    · rintro i σ H' hi ⟨t8, t9, ye, rfl, s5, ⟨ym, hLm5, hym5⟩, hLe5, hye5, ⟨yh, hLh5, hyh5⟩, ⟨yq, hLq5, hyq5⟩⟩
      have hi : i < n := hi
      have lym := hym5.len
      have lye := hye5.len
      rw [List.length_map, List.length_range] at lym lye
      obtain ⟨vh, hvh, ivh⟩ := FsL.at hyh5 hi
      obtain ⟨vq, hvq, ivq⟩ := FsL.at hyq5 hi
      obtain ⟨vp, hvp, ivp⟩ := (Fs.same s5 hyp).getD' (i := i) (by omega)
      obtain ⟨vx, hvx, ivx⟩ := (Fs.same s5 hfx).getD' (i := i) (by omega)
      have sx := hx i hi
      rw [Int.zero_add]
      walk_at "r"
      refine rd_ixL hLh5 (at_some hvh) ?_
      walk_at "r"
      refine rd_ixL (s5 _ _ hLp) (at_some hvp) ?_
      walk_at "r"
      refine ⟨_, _, _, _, rfl, ivh, ivp, bd (by decide) (gh i), bd (by decide) (gu i hi).1, fun H6 v6 s6 h6 => ?_⟩
      have h6 : IsF K H6 v6 (heldAt ss i + pu.getD i 0) := h6
      walk_at "r"
      refine rd_ixL (s6 _ _ hLq5) (at_some hvq) ?_
      walk_at "r"
      refine rd_revT ?_
      walk_at "r"
      refine rd_ixT ((s5.trans s6) _ _ hX) (at_some hvx) ?_
      walk_at "r"
      obtain ⟨qb, rfl, hqb⟩ := id (ivx.same s6)
      refine ⟨_, _, rfl, hqb.sq, fun p8 n8' => ?_⟩
      have s8 := same_upd (o := .tup (frV (ρ.getD i 0)).reverse) n8'
      have h8 : IsF K (upd H6 p8 (.tup (frV (ρ.getD i 0)).reverse)) (.ref p8) (ρ.getD i 0)⁻¹ := turned sx.p
      generalize upd H6 p8 (.tup (frV (ρ.getD i 0)).reverse) = H8 at *
      walk_at "r"
      have bi : Bd 3 (ρ.getD i 0)⁻¹ := sx.b.inv (ne_of_pos sx.p)
      have bq : Bd 25 (pullAt ss (xOf ρ) i) := gr_bd (pull_gr l16 ok hx hi).1 (by decide) 20 10 (by decide) (by decide) (by decide) (by decide)
      refine ⟨_, _, _, _, rfl, ivq.same (s6.trans s8), h8, bq.mono (by decide), bi.mono (by decide), fun H9 v9 s9 h9 => ?_⟩
      have h9 : IsF K H9 v9 (pullAt ss (xOf ρ) i * (xOf ρ i)⁻¹) := h9
      walk_at "r"
      refine ⟨_, _, _, _, rfl, (h6.same s8).same s9, h9, bd (by decide) ((gh i).add (gu i hi).1), bd (by decide) (gp i hi), fun Ha va sa ha => ?_⟩
      have ha : IsF K Ha va (f i) := by
        rw [hf]
        exact ha
      have s5a := ((s6.trans s8).trans s9).trans sa
      have k5a := s5.trans s5a
      have hLma := s5a _ _ hLm5
      have hyma := Fs.same s5a hym5
      have hLea := s5a _ _ hLe5
      have hyea := Fs.same s5a hye5
      have fha : FsL K Ha Lh n (heldAt ss) := ⟨yh, s5a _ _ hLh5, Fs.same s5a hyh5⟩
      have fqa : FsL K Ha Lq n (pullAt ss (xOf ρ)) := ⟨yq, s5a _ _ hLq5, Fs.same s5a hyq5⟩
      have ivpa := ivp.same s5a
      clear ivh ivq ivx hvh hvq hvx hLh5 hyh5 hLq5 hyq5 h6 h8 h9 hqb s6 s8 s9 sa
      obtain ⟨pa, rfl, hpa⟩ := id ha
      walk_at "r"
      refine ⟨fun σ H' => ∃ (vl : V), σ = [some (.int (n : Nat)), some (.ref S), some (.ref Lp), some (.ref X), some (.ref Lq), some (.ref Lh), some (.ref Lm), some (.ref Le), some (.int (i : Nat)), some vl] ∧ Same H H' ∧ FsL K H' Lm n (fmE pu f (i + 1)) ∧ H' Le = some (.lst ye) ∧ Fs K H' ye ((List.range i).map fun j => if f j < 0 then 0 else f j) ∧ FsL K H' Lh n (heldAt ss) ∧ FsL K H' Lq n (pullAt ss (xOf ρ)) ∧ IsF K H' vl (if f i < 0 then 0 else f i), ?_, ?_⟩
      · walk_at "r"
        walk_at "if"
        · rename_i c
          have c : f i < 0 := num_neg.mp c
          walk_at "r"
          refine rd_ixL (k5a _ _ hLp) (at_some hvp) ?_
          walk_at "r"
          refine ⟨_, _, _, _, rfl, ivpa, ha, bd (by decide) (gu i hi).1, bd (by decide) (gf i hi), fun Hb vb sb hb => ?_⟩
          have hLmb := sb _ _ hLma
          walk_at "r"
          refine rd_setL hLmb (ixN_at (by rw [lym]; exact hi)) ?_
          have fb := FsL.put hLmb (Fs.same sb hyma) hb i
          rw [fmE_step c] at fb
          have kb : Same H (upd Hb Lm (.lst (ym.set i vb))) := same_put nLmH (k5a.trans sb)
          have tp := tps_put (H1 := Hb) (o := .lst (ym.set i vb)) hLmb
          have hLeb : upd Hb Lm (.lst (ym.set i vb)) Le = some (.lst ye) := (upd_ne (Ne.symm nme)).trans (sb _ _ hLea)
          have hyeb := Fs.ts tp (Fs.same sb hyea)
          have fhb := (fha.same sb).off (o := .lst (ym.set i vb)) hLmb nhm
          have fqb := (fqa.same sb).off (o := .lst (ym.set i vb)) hLmb nqm
          clear tp hb hLmb
          generalize upd Hb Lm (.lst (ym.set i vb)) = Hc at *
          walk_at "r"
          intro t0 n0
          have sd := same_upd (o := .tup [V.int 0, .int 1]) n0
          refine ⟨_, rfl, kb.trans sd, fb.same sd, sd _ _ hLeb, Fs.same sd hyeb, fhb.same sd, fqb.same sd, ?_⟩
          rw [if_pos c]
          exact isF_new rfl rfl
        · rename_i c
          have c : ¬ f i < 0 := fun z => c (num_neg.mpr z)
          walk_at "r"
          refine ⟨k5a, ⟨ym, hLma, ?_⟩, hLea, hyea, fha, fqa, ?_⟩
          · rw [← (fE_skip (pu := pu) c).1]
            exact hyma
          · rw [if_neg c]
            exact ha
      rintro σ Hc ⟨vl, rfl, kc, fmc, hLec, hyec, fhc, fqc, hvl⟩
      walk_at "r"
      refine ⟨Or.inl ⟨rfl, _, Or.inl (Or.inl hLec)⟩, ?_⟩
      walk_at "r"
      refine ⟨Le, ye, _, rfl, rfl, hLec, small1000 (by omega), ?_⟩
      have tp := tps_put (H1 := Hc) (o := .lst (ye ++ [vl])) hLec
      refine ⟨_, _, ye ++ [vl], rfl, same_put nLeH kc, fmc.off hLec nme, upd_same, ?_, fhc.off hLec nhe, fqc.off hLec nqe⟩
      rw [List.range_succ, List.map_append]
      exact Paired.snoc (Fs.ts tp hyec) (hvl.ts tp)
    · rintro σ H' ⟨t8, t9, ye, rfl, s5, ⟨ym, hLm5, hym5⟩, hLe5, hye5, _, _⟩
      walk_at "r"
      intro R nR
      have sR := same_upd (o := .lst [V.ref Lm, .ref Le]) nR
      have ed : ∀ i, i < n → EdP (heldAt ss i) (pullAt ss (xOf ρ) i * (xOf ρ i)⁻¹) (fmE pu f n i) (if f i < 0 then 0 else f i) := fun i hi => by
        unfold fmE
        have ef : f i = heldAt ss i + pu.getD i 0 - pullAt ss (xOf ρ) i * (xOf ρ i)⁻¹ := by rw [hf]
        by_cases c : f i < 0
        · rw [if_pos ⟨hi, c⟩, if_pos c, ef]
          rw [ef] at c
          exact EdP.neg (gh i) (gp i hi) (gu i hi).2 (gu i hi).1 c
        · rw [if_neg fun z => c z.2, if_neg c, ef]
          rw [ef] at c
          exact EdP.pos (gh i) (gp i hi) (gu i hi).2 (gu i hi).1 c
      exact q _ R Lm Le ym ye _ _ (s5.trans sR) upd_same nLmH nLeH (sR _ _ hLm5) (Fs.same sR hym5) (sR _ _ hLe5) (Fs.same sR hye5) (Edg.of oks (fun i hi => (hx i hi).p) (fun i hi => gp i hi) ed) (edge_st ed)
end
end My
namespace My
open PySem PySem.Spec PyProof.Rows L2
variable {K : PySem.W.Frag}
/-! ### things judged -/
theorem JS.fw {M c n : Nat} {D C : Addr} {H H' : Hp} {v : V} {b : Bool} (j : JS K D H n v b) (dk : Deck M D C H c) (f : Fw D H H') : JS K D H' n v b := by
  cases j with
  | int i => exact .int i
  | other o h =>
    refine .other (o.fw f) fun p xs e z => ?_
    subst e
    cases o with
    | lst n h3 =>
      rw [f _ _ n h3] at z
      cases z
    | tup n h3 => exact h _ _ rfl h3
    | dK n h3 =>
      rw [f _ _ n h3] at z
      cases z
    | ins n h3 c =>
      rw [f _ _ n h3] at z
      cases z
  | tup np h j l => exact .tup np (f _ _ np h) (Paired.mapP j fun _ _ h => h.fw dk f) l
/-- scales are found right, or told wrong -/
structure JT (K : PySem.W.Frag) (D : Addr) (H : Hp) (n : Nat) (v : V) (o : Option (List Rat)) : Prop where
  j : JS K D H n v o.isSome
  r : ∀ ρ, o = some ρ → IsFs K H v ρ ∧ OkA n ρ ∧ ∀ x ∈ ρ, 0 < x
theorem JT.fw {M c n : Nat} {D C : Addr} {H H' : Hp} {v : V} {o : Option (List Rat)} (j : JT K D H n v o) (dk : Deck M D C H c) (f : Fw D H H') : JT K D H' n v o :=
  ⟨j.j.fw dk f, fun ρ e => by
    obtain ⟨⟨t, ys, e1, h1, h2⟩, b, d⟩ := j.r ρ e
    exact ⟨⟨t, ys, e1, (f.ts dk) _ _ h1, Fs.ts (f.ts dk) h2⟩, b, d⟩⟩
theorem JT.same {n : Nat} {D : Addr} {H H' : Hp} {v : V} {o : Option (List Rat)} (j : JT K D H n v o) (s : Same H H') : JT K D H' n v o :=
  ⟨j.j.same s, fun ρ e => by
    obtain ⟨a, b, d⟩ := j.r ρ e
    exact ⟨a.same s, b, d⟩⟩
/-- whether scales meet a wish -/
def meetB (n : Nat) (ss : List Stl) (pu wi : List Rat) : Option (List Rat) → Bool
  | none => false
  | some ρ => (List.range n).all fun i => decide (pullAt ss (xOf ρ) i ≤ stayAt ss pu wi i * xOf ρ i)
theorem num_pos_iff' {r : Rat} : 0 < r.num ↔ 0 < r := by
  rw [Rat.lt_iff]
  simp
section
variable {P : Program} {w : World} {K : PySem.W.Frag} {mg : Str → Option Value} {base : Heap} {f__wall f_is_integer f_is_row f_is_fraction f_is_amount f_is_some f_are_amounts f_added f_negated f_lessened f_multiplied f_divided f_squared f_summed f_lies_below f_is_stall f_hold_of f_stalls_of f_kept_of f_held f_roots f_check_purse f_check_wish f_may_stay f_table_of f_strike_row f_are_some f_filled_back f_in_order f_struck_in_turn f_scales f_is_scales f_l_deck f_l_pick f_l_divisor f_l_made f_l_added f_l_taken f_l_product f_l_amount f_l_stall f_l_held f_l_pulls f_l_edge f_l_deep f_l_changed f_l_are_some f_l_due f_l_is_judged f_l_word f_law f_Web_init f_Table_init f_Table_wrong_sign f_Table_behind f_Table_ties_without c_BadPurse c_BadWish c_Table c_Web c_ONE c_ZERO : Addr} {d__wall d_is_integer d_is_row d_is_fraction d_is_amount d_is_some d_are_amounts d_added d_negated d_lessened d_multiplied d_divided d_squared d_summed d_lies_below d_is_stall d_hold_of d_stalls_of d_kept_of d_held d_roots d_check_purse d_check_wish d_may_stay d_table_of d_strike_row d_are_some d_filled_back d_in_order d_struck_in_turn d_scales d_is_scales d_l_deck d_l_pick d_l_divisor d_l_made d_l_added d_l_taken d_l_product d_l_amount d_l_stall d_l_held d_l_pulls d_l_edge d_l_deep d_l_changed d_l_are_some d_l_due d_l_is_judged d_l_word d_law d_Web_init d_Table_init d_Table_wrong_sign d_Table_behind d_Table_ties_without : FuncData}
def sp_lare (K : PySem.W.Frag) : Sp := fun vs H Q _ => ∃ (v : V) (D : Addr) (n : Nat) (b : Bool), vs = [v, .int (n : Nat)] ∧ JS K D H n v b ∧ ∀ H', Same H H' → Q (.bl b) H'
theorem ok_l_are_some (T : Txt K mg f__wall f_is_integer f_is_row f_is_fraction f_is_amount f_is_some f_are_amounts f_added f_negated f_lessened f_multiplied f_divided f_squared f_summed f_lies_below f_is_stall f_hold_of f_stalls_of f_kept_of f_held f_roots f_check_purse f_check_wish f_may_stay f_table_of f_strike_row f_are_some f_filled_back f_in_order f_struck_in_turn f_scales f_is_scales f_l_deck f_l_pick f_l_divisor f_l_made f_l_added f_l_taken f_l_product f_l_amount f_l_stall f_l_held f_l_pulls f_l_edge f_l_deep f_l_changed f_l_are_some f_l_due f_l_is_judged f_l_word f_law f_Web_init f_Table_init f_Table_wrong_sign f_Table_behind f_Table_ties_without c_BadPurse c_BadWish c_Table c_Web c_ONE c_ZERO d__wall d_is_integer d_is_row d_is_fraction d_is_amount d_is_some d_are_amounts d_added d_negated d_lessened d_multiplied d_divided d_squared d_summed d_lies_below d_is_stall d_hold_of d_stalls_of d_kept_of d_held d_roots d_check_purse d_check_wish d_may_stay d_table_of d_strike_row d_are_some d_filled_back d_in_order d_struck_in_turn d_scales d_is_scales d_l_deck d_l_pick d_l_divisor d_l_made d_l_added d_l_taken d_l_product d_l_amount d_l_stall d_l_held d_l_pulls d_l_edge d_l_deep d_l_changed d_l_are_some d_l_due d_l_is_judged d_l_word d_law d_Web_init d_Table_init d_Table_wrong_sign d_Table_behind d_Table_ties_without) : FnOk P w K mg base CX0 2 f_l_are_some d_l_are_some ["_law_thing", "_law_wares"] (sp_lare K) := by
  have G_l_divisor : FnOk P w K mg base CX0 1 f_l_divisor d_l_divisor ["_law_one", "_law_other"] sp_divisor := ok_l_divisor T
  refine T.F_l_are_some.ok sc_l_are_some (fun vs H Q E h => ?_) (fun cdv A outer s H vs Q E hr h => ?_)
  · obtain ⟨v, D, n, b, rfl, _⟩ := h
    rfl
  · obtain ⟨v, D, n, b, rfl, j, q⟩ := h
    refine ⟨_, (pss_cons (ps_if (PW.pt (pw_or (pt_not (pt_val (pe_callB call_isi (by rfl) T.z_isinstance (by decide +kernel) (pa_cons (pv 0) (pa_cons (pe_bltn (v := .ty "tuple") (u := .type "tuple") (by rfl) T.z_tuple (by decide +kernel) rfl) pa_nil))))) (pw_or1 (pt_cmpR op_ne (pe_callB call_lenN (by rfl) T.z_len (by decide +kernel) (pa_cons (pv 0) pa_nil)) (pv 1) (nomark _)))))
        (pss_one (ps_ret pe_bl))
        pss_nil)
      (pss_cons (ps_for PassesOwn.never rfl (pi_tup (pv 0)) (pg_name (i := 2) sc_l_are_some.nd rfl (by first | exact Or.inl rfl | exact Or.inr rfl))
        (pss_cons (ps_if (PW.pt (pw_or (pt_not (pt_val (pe_callB call_isi (by rfl) T.z_isinstance (by decide +kernel) (pa_cons (pv 2) (pa_cons (pe_bltn (v := .ty "tuple") (u := .type "tuple") (by rfl) T.z_tuple (by decide +kernel) rfl) pa_nil))))) (pw_or (pt_cmpR op_ne (pe_callB call_lenN (by rfl) T.z_len (by decide +kernel) (pa_cons (pv 2) pa_nil)) pe_int (nomark _)) (pw_or (pt_val (pe_callB call_isi (by rfl) T.z_isinstance (by decide +kernel) (pa_cons (pe_ix ix_tup (pv 2) pe_int (fun _ _ => rfl)) (pa_cons (pe_bltn (v := .ty "bool") (u := .type "bool") (by rfl) T.z_bool (by decide +kernel) rfl) pa_nil)))) (pw_or1 (pt_val (pe_callB call_isi (by rfl) T.z_isinstance (by decide +kernel) (pa_cons (pe_ix ix_tup (pv 2) pe_int (fun _ _ => rfl)) (pa_cons (pe_bltn (v := .ty "bool") (u := .type "bool") (by rfl) T.z_bool (by decide +kernel) rfl) pa_nil)))))))))
            (pss_one (ps_ret pe_bl))
            pss_nil)
          (pss_cons (ps_if (PW.pt (pw_or (pt_not (pt_val (pe_callB call_isi (by rfl) T.z_isinstance (by decide +kernel) (pa_cons (pe_ix ix_tup (pv 2) pe_int (fun _ _ => rfl)) (pa_cons (pe_bltn (v := .ty "int") (u := .type "int") (by rfl) T.z_int (by decide +kernel) rfl) pa_nil))))) (pw_or (pt_not (pt_val (pe_callB call_isi (by rfl) T.z_isinstance (by decide +kernel) (pa_cons (pe_ix ix_tup (pv 2) pe_int (fun _ _ => rfl)) (pa_cons (pe_bltn (v := .ty "int") (u := .type "int") (by rfl) T.z_int (by decide +kernel) rfl) pa_nil))))) (pw_or (pt_cmpR op_lt (pe_ix ix_tup (pv 2) pe_int (fun _ _ => rfl)) pe_int (nomark _)) (pw_or1 (pt_cmpR op_lt (pe_ix ix_tup (pv 2) pe_int (fun _ _ => rfl)) pe_int (nomark _)))))))
            (pss_one (ps_ret pe_bl))
            pss_nil)
          (pss_one (ps_if (pt_cmpR op_ne (pe_call G_l_divisor (hr.mono (by decide)) (by rfl) T.g_l_divisor T.k_l_divisor T.b_l_divisor .nil pass0 (pa_cons (pe_ix ix_tup (pv 2) pe_int (fun _ _ => rfl)) (pa_cons (pe_ix ix_tup (pv 2) pe_int (fun _ _ => rfl)) pa_nil))) pe_int (nomark _))
            (pss_one (ps_ret pe_bl))
            pss_nil)))))
      (pss_one (ps_ret pe_bl)))), ?_⟩
    cases j with
    | int i =>
      walk_at "r"
      exact q _ (Same.refl _)
    | other o h =>
      obtain ⟨b1, b2, b3, hb, -, -, h3, ht⟩ := o.isi
      walk_at "r"
      refine h3 _ ?_
      cases b3 with
      | false =>
        walk_at "r"
        exact q _ (Same.refl _)
      | true =>
        obtain ⟨p, xs, rfl, np, hp⟩ := ht rfl
        exact (h p xs rfl hp).elim
    | @tup p xs os np hp hj l20 =>
      have hl := Paired.length hj
      walk_at "r"
      walk_at "if"
      · rename_i c
        have c : ¬ xs.length = n := by omega
        walk_at "r"
        rw [decide_eq_false c, Bool.false_and] at q
        exact q _ (Same.refl _)
      · rename_i c
        have c : xs.length = n := by omega
        rw [decide_eq_true c, Bool.true_and] at q
        walk_at "r"
        refine ⟨⟨_, .of hp⟩, ?_⟩
        refine for_tup (K := K) (a := p) (xs := xs) (fun i σ H' => ∃ (t2 : Option V), σ = [some (.ref p), some (.int (n : Nat)), t2] ∧ Same H H' ∧ ∀ j o, j < i → os[j]? = some o → sa o = true) ?_ ?_ ?_ ?_
        · exact ⟨_, rfl, Same.refl _, fun j o h => absurd h (Nat.not_lt_zero _)⟩
        · rintro i σ H' _ ⟨t2, rfl, s1, _⟩
          exact .of (s1 _ _ hp)
        · rintro i x σ H' hx ⟨t2, rfl, s1, hall⟩
          obtain ⟨o, ho, jo⟩ := Paired.at hj hx
          have om := List.mem_of_getElem? ho
          have bad : sa o = false → ∀ {H2}, Same H H2 → Q (.bl false) H2 := fun z H2 s => by
            have e : os.all sa = false := by
              rw [Bool.eq_false_iff]
              intro y
              have := List.all_eq_true.mp y o om
              rw [z] at this
              cases this
            rw [e] at q
            exact q _ s
          have jo := jo.same s1
          rcases jo with ⟨r, ⟨pr, rfl, hpr⟩, bd, rfl⟩ | ⟨nf, rfl⟩
          · have h1 := den_pos r
            have h2 := gcd_den r
            walk_at "r"
            walk_at "if"
            · rename_i c1
              walk_at "r"
              refine bad ?_ s1
              show decide (0 < r) = false
              rw [decide_eq_false]
              intro z
              have := num_pos_iff'.mpr z
              omega
            · rename_i c1
              have c2 : ¬ ((r.den : Int) < 1) := by omega
              walk_at "r"
              refine ⟨_, _, rfl, Nat.lt_of_lt_of_le (by rw [Int.natAbs_natCast]; exact bd.2) (pow_le (by decide)), ?_⟩
              rw [Int.natAbs_natCast, h2]
              walk_at "r"
              refine ⟨s1, fun j o hj2 hjo => ?_⟩
              by_cases e : j = i
              · subst e
                rw [ho] at hjo
                cases hjo
                exact decide_eq_true (num_pos_iff'.mp (by omega))
              · exact hall j o (by omega) hjo
          · have bad := fun {H2} s => bad rfl (H2 := H2) s
            cases nf with
            | int i =>
              walk_at "r"
              exact bad s1
            | not o h =>
              obtain ⟨b1, b2, b3, hb, -, -, h3, ht⟩ := o.isi
              walk_at "r"
              refine h3 _ ?_
              cases b3 with
              | false =>
                walk_at "r"
                exact bad s1
              | true =>
                obtain ⟨p2, xs2, rfl, np2, hp2⟩ := ht rfl
                have hl2 : ¬ ((xs2.length : Int) = 2) := by
                  have := h p2 xs2 rfl hp2
                  omega
                walk_at "r"
                exact bad s1
            | fst n h o o2 =>
              obtain ⟨b1, b2, b3, hb, g1, g2, g3, ht⟩ := o.isi
              walk_at "r"
              refine g2 _ ?_
              cases b2 with
              | true =>
                walk_at "r"
                exact bad s1
              | false =>
                have e1 : b1 = false := by
                  cases b1
                  · rfl
                  · cases hb
                subst e1
                walk_at "r"
                rcases o2 with ⟨j, rfl⟩ | o2
                · walk_at "r"
                  refine g1 _ ?_
                  walk_at "r"
                  exact bad s1
                · obtain ⟨d1, d2, d3, hd, k1, k2, k3, kt⟩ := o2.isi
                  refine k2 _ ?_
                  cases d2 with
                  | true =>
                    walk_at "r"
                    exact bad s1
                  | false =>
                    walk_at "r"
                    refine g1 _ ?_
                    walk_at "r"
                    exact bad s1
            | snd n h o =>
              obtain ⟨b1, b2, b3, hb, g1, g2, g3, ht⟩ := o.isi
              walk_at "r"
              refine g2 _ ?_
              cases b2 with
              | true =>
                walk_at "r"
                exact bad s1
              | false =>
                have e1 : b1 = false := by
                  cases b1
                  · rfl
                  · cases hb
                subst e1
                walk_at "r"
                refine g1 _ ?_
                walk_at "r"
                exact bad s1
            | @low p2 i2 j2 np2 hp2 z b =>
              walk_at "r"
              walk_at "if"
              · walk_at "r"
                exact bad s1
              · rename_i c1
                walk_at "r"
                walk_at "if"
                · walk_at "r"
                  exact bad s1
                · rename_i c2
                  walk_at "r"
                  refine ⟨_, _, rfl, Nat.lt_of_lt_of_le b (pow_le (by decide)), ?_⟩
                  have ng : ¬ (((Nat.gcd i2.natAbs j2.natAbs : Nat) : Int) = 1) := fun e => z ⟨by omega, by omega⟩
                  walk_at "r"
                  exact bad s1
        · rintro σ H' ⟨t2, rfl, s1, hall⟩
          have e : os.all sa = true := List.all_eq_true.mpr fun o ho => by
            obtain ⟨j, hj2⟩ := List.getElem?_of_mem ho
            have := (List.getElem?_eq_some_iff.mp hj2).1
            exact hall j o (by omega) hj2
          rw [e] at q
          walk_at "r"
          exact q _ s1
end
end My
namespace My
open PySem PySem.Spec PyProof.Rows L2
variable {K : PySem.W.Frag}
theorem meet_iff {n : Nat} {ss : List Stl} (h : ∀ s ∈ ss, OkSt n s) {pu wi ρ : List Rat} (lρ : ρ.length = n) (pos : ∀ x ∈ ρ, 0 < x) : (∀ i, i < n → 0 < xOf ρ i ∧ 0 ≤ row (stayM ss pu wi) (List.range n) (xOf ρ) i) ↔ meetB n ss pu wi (some ρ) = true := by
  show _ ↔ ((List.range n).all fun i => decide (pullAt ss (xOf ρ) i ≤ stayAt ss pu wi i * xOf ρ i)) = true
  rw [List.all_eq_true]
  constructor
  · intro z i hi
    have hi := List.mem_range.mp hi
    have := (z i hi).2
    rw [row_stay h pu wi _ hi, pull_root h] at this
    exact decide_eq_true (by grind)
  · intro z i hi
    have := of_decide_eq_true (z i (List.mem_range.mpr hi))
    refine ⟨pos _ ?_, ?_⟩
    · unfold xOf
      rw [List.getD_eq_getElem?_getD, List.getElem?_eq_getElem (by omega)]
      exact List.getElem_mem _
    · rw [row_stay h pu wi _ hi, pull_root h]
      grind
section
variable {P : Program} {w : World} {K : PySem.W.Frag} {mg : Str → Option Value} {base : Heap} {f__wall f_is_integer f_is_row f_is_fraction f_is_amount f_is_some f_are_amounts f_added f_negated f_lessened f_multiplied f_divided f_squared f_summed f_lies_below f_is_stall f_hold_of f_stalls_of f_kept_of f_held f_roots f_check_purse f_check_wish f_may_stay f_table_of f_strike_row f_are_some f_filled_back f_in_order f_struck_in_turn f_scales f_is_scales f_l_deck f_l_pick f_l_divisor f_l_made f_l_added f_l_taken f_l_product f_l_amount f_l_stall f_l_held f_l_pulls f_l_edge f_l_deep f_l_changed f_l_are_some f_l_due f_l_is_judged f_l_word f_law f_Web_init f_Table_init f_Table_wrong_sign f_Table_behind f_Table_ties_without c_BadPurse c_BadWish c_Table c_Web c_ONE c_ZERO : Addr} {d__wall d_is_integer d_is_row d_is_fraction d_is_amount d_is_some d_are_amounts d_added d_negated d_lessened d_multiplied d_divided d_squared d_summed d_lies_below d_is_stall d_hold_of d_stalls_of d_kept_of d_held d_roots d_check_purse d_check_wish d_may_stay d_table_of d_strike_row d_are_some d_filled_back d_in_order d_struck_in_turn d_scales d_is_scales d_l_deck d_l_pick d_l_divisor d_l_made d_l_added d_l_taken d_l_product d_l_amount d_l_stall d_l_held d_l_pulls d_l_edge d_l_deep d_l_changed d_l_are_some d_l_due d_l_is_judged d_l_word d_law d_Web_init d_Table_init d_Table_wrong_sign d_Table_behind d_Table_ties_without : FuncData}
def sp_ldue17 (K : PySem.W.Frag) (C : Addr) : Sp := fun vs H Q _ => ∃ (x v : V) (D Lp Lw : Addr) (n : Nat) (ss : List Stl) (pu wi : List Rat) (yp yw : List V) (o : Option (List Rat)), vs = [x, .ref Lp, .ref Lw, v] ∧ IsWeb K C H x n ss ∧ (∀ s ∈ ss, Ok16 n s) ∧ H Lp = some (.lst yp) ∧ Fs K H yp pu ∧ H Lw = some (.lst yw) ∧ Fs K H yw wi ∧ OkT n ss pu wi ∧ JT K D H n v o ∧
  ∀ H', Same H H' → Q (.bl (meetB n ss pu wi o)) H'
theorem ok_l_due (T : Txt K mg f__wall f_is_integer f_is_row f_is_fraction f_is_amount f_is_some f_are_amounts f_added f_negated f_lessened f_multiplied f_divided f_squared f_summed f_lies_below f_is_stall f_hold_of f_stalls_of f_kept_of f_held f_roots f_check_purse f_check_wish f_may_stay f_table_of f_strike_row f_are_some f_filled_back f_in_order f_struck_in_turn f_scales f_is_scales f_l_deck f_l_pick f_l_divisor f_l_made f_l_added f_l_taken f_l_product f_l_amount f_l_stall f_l_held f_l_pulls f_l_edge f_l_deep f_l_changed f_l_are_some f_l_due f_l_is_judged f_l_word f_law f_Web_init f_Table_init f_Table_wrong_sign f_Table_behind f_Table_ties_without c_BadPurse c_BadWish c_Table c_Web c_ONE c_ZERO d__wall d_is_integer d_is_row d_is_fraction d_is_amount d_is_some d_are_amounts d_added d_negated d_lessened d_multiplied d_divided d_squared d_summed d_lies_below d_is_stall d_hold_of d_stalls_of d_kept_of d_held d_roots d_check_purse d_check_wish d_may_stay d_table_of d_strike_row d_are_some d_filled_back d_in_order d_struck_in_turn d_scales d_is_scales d_l_deck d_l_pick d_l_divisor d_l_made d_l_added d_l_taken d_l_product d_l_amount d_l_stall d_l_held d_l_pulls d_l_edge d_l_deep d_l_changed d_l_are_some d_l_due d_l_is_judged d_l_word d_law d_Web_init d_Table_init d_Table_wrong_sign d_Table_behind d_Table_ties_without) : FnOk P w K mg base CX0 5 f_l_due d_l_due ["_law_web", "_law_purse", "_law_wish", "_law_thing"] (sp_ldue17 K c_Web) := by
  have G_l_are_some : FnOk P w K mg base CX0 2 f_l_are_some d_l_are_some ["_law_thing", "_law_wares"] (sp_lare K) := ok_l_are_some T
  have G_l_held : FnOk P w K mg base CX0 4 f_l_held d_l_held ["_law_wares", "_law_stalls"] (sp_lheld16 K) := ok_l_held T
  have G_l_pulls : FnOk P w K mg base CX0 4 f_l_pulls d_l_pulls ["_law_wares", "_law_stalls", "_law_scale"] (sp_lpulls16 K) := ok_l_pulls T
  have G_l_added : FnOk P w K mg base CX0 3 f_l_added d_l_added ["_law_one", "_law_other"] (sp_two9 K (· + ·)) := ok_l_added T
  have G_l_taken : FnOk P w K mg base CX0 3 f_l_taken d_l_taken ["_law_one", "_law_other"] (sp_two9 K (· - ·)) := ok_l_taken T
  have G_l_product : FnOk P w K mg base CX0 3 f_l_product d_l_product ["_law_one", "_law_other"] (sp_two9 K (· * ·)) := ok_l_product T
  refine T.F_l_due.ok sc_l_due (fun vs H Q E h => ?_) (fun cdv A outer s H vs Q E hr h => ?_)
  · obtain ⟨x, v, D, Lp, Lw, n, ss, pu, wi, yp, yw, o, rfl, _⟩ := h
    rfl
  · obtain ⟨x, v, D, Lp, Lw, n, ss, pu, wi, yp, yw, o, rfl, hw, ok, hLp, hyp, hLw, hyw, ot, jt, q⟩ := h
    have n8 := ot.n8
    have l16 := ot.l16
    obtain ⟨pw, dx, tw, xw, rfl, hpw, htw, hst⟩ := id hw
    refine ⟨_, (pss_cons (ps_if (pt_not (pt_val (pe_call G_l_are_some (hr.mono (by decide)) (by rfl) T.g_l_are_some T.k_l_are_some T.b_l_are_some .nil pass0 (pa_cons (pv 3) (pa_cons (pe_fld (pv 0) rfl) pa_nil)))))
        (pss_one (ps_ret pe_bl))
        pss_nil)
      (pss_cons (ps_set (i := 4) sc_l_due.nd rfl (by first | exact Or.inl rfl | exact Or.inr rfl) (pe_call G_l_pulls (hr.mono (by decide)) (by rfl) T.g_l_pulls T.k_l_pulls T.b_l_pulls .nil pass0 (pa_cons (pe_fld (pv 0) rfl) (pa_cons (pe_fld (pv 0) rfl) (pa_cons (pv 3) pa_nil)))))
      (pss_cons (ps_set (i := 5) sc_l_due.nd rfl (by first | exact Or.inl rfl | exact Or.inr rfl) (pe_call G_l_held (hr.mono (by decide)) (by rfl) T.g_l_held T.k_l_held T.b_l_held .nil pass0 (pa_cons (pe_fld (pv 0) rfl) (pa_cons (pe_fld (pv 0) rfl) pa_nil))))
      (pss_cons (ps_for PassesOwn.never rfl (pi_range1 (by rfl) T.z_range (pa_cons (pe_fld (pv 0) rfl) pa_nil)) (pg_name (i := 6) sc_l_due.nd rfl (by first | exact Or.inl rfl | exact Or.inr rfl))
        (pss_cons (ps_set (i := 7) sc_l_due.nd rfl (by first | exact Or.inl rfl | exact Or.inr rfl) (pe_call G_l_taken (hr.mono (by decide)) (by rfl) T.g_l_taken T.k_l_taken T.b_l_taken .nil pass0 (pa_cons (pe_call G_l_added (hr.mono (by decide)) (by rfl) T.g_l_added T.k_l_added T.b_l_added .nil pass0 (pa_cons (pe_ix ix_list (pv 5) (pv 6) (fun _ _ => rfl)) (pa_cons (pe_ix ix_list (pv 1) (pv 6) (fun _ _ => rfl)) pa_nil))) (pa_cons (pe_ix ix_list (pv 2) (pv 6) (fun _ _ => rfl)) pa_nil))))
          (pss_one (ps_if (pt_cmpR op_lt (pe_ix ix_tup (pe_call G_l_taken (hr.mono (by decide)) (by rfl) T.g_l_taken T.k_l_taken T.b_l_taken .nil pass0 (pa_cons (pe_call G_l_product (hr.mono (by decide)) (by rfl) T.g_l_product T.k_l_product T.b_l_product .nil pass0 (pa_cons (pv 7) (pa_cons (pe_ix ix_tup (pv 3) (pv 6) (fun _ _ => rfl)) pa_nil))) (pa_cons (pe_ix ix_list (pv 4) (pv 6) (fun _ _ => rfl)) pa_nil))) pe_int (fun _ _ => rfl)) pe_int (nomark _))
            (pss_one (ps_ret pe_bl))
            pss_nil))))
      (pss_one (ps_ret pe_bl)))))), ?_⟩
    walk_at "r"
    refine ⟨_, _, _, _, _, rfl, hpw, T.w_Web.it.cl, T.n_Web_wares, wF_wares _ _, ?_⟩
    walk_at "r"
    refine ⟨v, D, n, _, rfl, jt.j, fun H1 s1 => ?_⟩
    cases o with
    | none =>
      rw [Option.isSome_none]
      walk_at "r"
      exact q _ s1
    | some ρ =>
      obtain ⟨⟨X, yx, rfl, hX, hfx⟩, okA, pos⟩ := jt.r ρ rfl
      obtain ⟨d, d0, d1, hd⟩ := okA.cd
      have lρ := okA.len
      rw [Option.isSome_some]
      walk_at "r"
      refine ⟨_, _, _, _, _, rfl, s1 _ _ hpw, T.w_Web.it.cl, T.n_Web_wares, wF_wares _ _, ?_⟩
      walk_at "r"
      refine ⟨_, _, _, _, _, rfl, s1 _ _ hpw, T.w_Web.it.cl, T.n_Web_stalls, wF_stalls _ _, ?_⟩
      walk_at "r"
      refine ⟨tw, _, n, 2 ^ 2100 - 1, d, xw, ss, ρ, rfl, .inr (.of (s1 _ _ htw)), hst.same s1, n8, l16, ok, ⟨X, yx, rfl, .inr (s1 _ _ hX), Fs.same s1 hfx⟩, lρ, fun i hi => hd i (List.mem_range.mpr hi), d0, Nat.le_trans (Nat.sub_le _ _) (pow_le (by decide)), Nat.le_trans (Nat.le_of_lt d1) (pow_le (by decide)), fun H2 Lq s2 nLq fq => ?_⟩
      have k2 := s1.trans s2
      walk_at "r"
      refine ⟨_, _, _, _, _, rfl, k2 _ _ hpw, T.w_Web.it.cl, T.n_Web_wares, wF_wares _ _, ?_⟩
      walk_at "r"
      refine ⟨_, _, _, _, _, rfl, k2 _ _ hpw, T.w_Web.it.cl, T.n_Web_stalls, wF_stalls _ _, ?_⟩
      walk_at "r"
      refine ⟨tw, n, xw, ss, rfl, .inr (.of (k2 _ _ htw)), hst.same k2, n8, l16, ok, fun H3 Lh s3 nLh fh => ?_⟩
      have k3 := k2.trans s3
      obtain ⟨yq, hLq, hyq⟩ := fq.same s3
      obtain ⟨yh, hLh, hyh⟩ := fh
      walk_at "r"
      refine ⟨_, _, _, _, _, rfl, k3 _ _ hpw, T.w_Web.it.cl, T.n_Web_wares, wF_wares _ _, ?_⟩
      walk_at "r"
      refine ⟨by omega, by omega, ?_⟩
      refine for_range (lo := 0) (n := n) (fun i σ H' => ∃ (t6 t7 : Option V), σ = [some (.ref pw), some (.ref Lp), some (.ref Lw), some (.ref X), some (.ref Lq), some (.ref Lh), t6, t7] ∧ Same H3 H' ∧ ∀ j, j < i → pullAt ss (xOf ρ) j ≤ stayAt ss pu wi j * xOf ρ j) ?_ ?_ ?_
      · exact ⟨_, _, rfl, Same.refl _, fun j hj => absurd hj (Nat.not_lt_zero _)⟩
      · rintro i σ H' hi ⟨t6, t7, rfl, s4, hall⟩
        have hi : i < n := hi
        have k4 := k3.trans s4
        obtain ⟨vh, hvh, ivh⟩ := FsL.at hyh hi
        obtain ⟨vq, hvq, ivq⟩ := FsL.at hyq hi
        obtain ⟨vp, hvp, ivp⟩ := hyp.getD' (i := i) (by rw [ot.lp]; exact hi)
        obtain ⟨vw, hvw, ivw⟩ := hyw.getD' (i := i) (by rw [ot.lw]; exact hi)
        obtain ⟨vx, hvx, ivx⟩ := hfx.getD' (i := i) (by omega)
        have bh : Bd 30 (heldAt ss i) := gr_bd ((held_gr ok i).mono (by omega : ss.length * 25920 ≤ 414720)) (by decide) 20 20 (by decide) (by decide) (by decide) (by decide)
        have bp := ot.pb _ (getD_mem (by rw [ot.lp]; exact hi))
        have bw := ot.wb _ (getD_mem (by rw [ot.lw]; exact hi))
        have bq : Bd 2200 (pullAt ss (xOf ρ) i) := by
          have g1 : ∀ s ∈ ss, Gr (2 * (72 * (2 ^ 2100 - 1))) (12 * d) (pullS (xOf ρ) s i) := fun s hs => by
            have o := ok s hs
            rw [Nat.two_mul]
            refine Gr.add ?_ ?_
            · split
              · exact o.gr.mul (hd _ (List.mem_range.mpr o.v))
              · exact (Gr.zero _).mono (Nat.zero_le _)
            · split
              · exact o.gr.mul (hd _ (List.mem_range.mpr o.u))
              · exact (Gr.zero _).mono (Nat.zero_le _)
          have g2 : Gr (16 * (2 * (72 * (2 ^ 2100 - 1)))) (12 * d) (pullAt ss (xOf ρ) i) := (Sx_gr (f := fun s => pullS (xOf ρ) s i) g1).mono (Nat.mul_le_mul_right _ l16)
          refine gr_bd g2 (Nat.mul_pos (by decide) d0) 2112 2104 ?_ ?_ (by decide) (by decide)
          · exact big_mul (e := 4) (f := 2108) (by decide) (big_mul (e := 1) (f := 2107) (by decide) (big_mul (e := 7) (f := 2100) (by decide) (Nat.sub_le _ _) (by decide)) (by decide)) (by decide)
          · exact big_mul (e := 4) (f := 2100) (by decide) (Nat.le_of_lt d1) (by decide)
        have bs : Bd 28 (stayAt ss pu wi i) := by
          obtain ⟨d2, d20, d21, hd2, _⟩ := ot.gr
          have := hd2 i hi i hi
          unfold stayM at this
          rw [if_pos rfl] at this
          exact this.bd d20 (by decide) (Nat.lt_of_lt_of_le d21 (by decide))
        have bx : Bd 2100 (xOf ρ i) := okA.at hi |>.2
        rw [Int.zero_add]
        walk_at "r"
        refine rd_ixL (s4 _ _ hLh) (at_some hvh) ?_
        walk_at "r"
        refine rd_ixL (k4 _ _ hLp) (at_some hvp) ?_
        walk_at "r"
        refine ⟨_, _, _, _, rfl, ivh.same s4, ivp.same k4, bh.mono (by decide), bp.mono (by decide), fun H5 v5 s5 h5 => ?_⟩
        walk_at "r"
        refine rd_ixL ((k4.trans s5) _ _ hLw) (at_some hvw) ?_
        walk_at "r"
        refine ⟨_, _, _, _, rfl, h5, ivw.same (k4.trans s5), (bh.add bp).mono (by decide), bw.mono (by decide), fun H6 v6 s6 h6 => ?_⟩
        have h6 : IsF K H6 v6 (stayAt ss pu wi i) := h6
        walk_at "r"
        refine rd_ixT ((k4.trans (s5.trans s6)) _ _ hX) (at_some hvx) ?_
        walk_at "r"
        refine ⟨_, _, _, _, rfl, h6, ivx.same (k4.trans (s5.trans s6)), bs.mono (by decide), bx.mono (by decide), fun H7 v7 s7 h7 => ?_⟩
        have h7 : IsF K H7 v7 (stayAt ss pu wi i * xOf ρ i) := h7
        have s57 := s5.trans (s6.trans s7)
        walk_at "r"
        refine rd_ixL ((s4.trans s57) _ _ hLq) (at_some hvq) ?_
        walk_at "r"
        refine ⟨_, _, _, _, rfl, h7, ivq.same (s4.trans s57), (bs.mul bx).mono (by decide), bq.mono (by decide), fun H8 v8 s8 h8 => ?_⟩
        have h8 : IsF K H8 v8 (stayAt ss pu wi i * xOf ρ i - pullAt ss (xOf ρ) i) := h8
        have s48 := s4.trans (s57.trans s8)
        obtain ⟨p8, rfl, hp8⟩ := id h8
        walk_at "r"
        walk_at "if"
        · rename_i c
          have c := num_neg.mp c
          walk_at "r"
          have e : meetB n ss pu wi (some ρ) = false := by
            rw [Bool.eq_false_iff]
            intro z
            have := of_decide_eq_true (List.all_eq_true.mp z i (List.mem_range.mpr hi))
            grind
          rw [e] at q
          exact q _ (k3.trans s48)
        · rename_i c
          have c : ¬ stayAt ss pu wi i * xOf ρ i - pullAt ss (xOf ρ) i < 0 := fun z => c (num_neg.mpr z)
          walk_at "r"
          refine ⟨_, _, rfl, s48, fun j hj => ?_⟩
          by_cases e : j = i
          · subst e
            grind
          · exact hall j (by omega)
      · rintro σ H' ⟨t6, t7, rfl, s4, hall⟩
        have e : meetB n ss pu wi (some ρ) = true := List.all_eq_true.mpr fun i hi => decide_eq_true (hall i (List.mem_range.mp hi))
        rw [e] at q
        walk_at "r"
        exact q _ (k3.trans s4)
end
end My
namespace My
open PySem PySem.Spec PyProof.Rows L2
theorem cut_take (xs : List V) (i : Nat) : cutV xs none (some (i : Int)) = xs.take i := by
  unfold cutV
  rw [HT.sIx_none, HT.sIx_nat]
  by_cases h : i ≤ xs.length
  · simp [Nat.min_eq_left h]
  · rw [Nat.min_eq_right (by omega), List.take_of_length_le (show xs.length ≤ i by omega)]
    simp
theorem cut_drop (xs : List V) (i : Nat) : cutV xs (some (i : Int)) none = xs.drop i := by
  unfold cutV
  rw [HT.sIx_none, HT.sIx_nat]
  by_cases h : i ≤ xs.length
  · rw [Nat.min_eq_left h]
    exact List.take_of_length_le (by simp)
  · rw [Nat.min_eq_right (by omega), List.drop_eq_nil_of_le (show xs.length ≤ i by omega)]
    simp
end My
namespace My
open PySem PySem.Spec PyProof.Rows L2
variable {K : PySem.W.Frag}
end My
namespace My
open PySem PySem.Spec PyProof.Rows L2
variable {K : PySem.W.Frag}
/-! ### scales changed -/
theorem rd_slA17 {H : Hp} {a : Addr} {xs : List V} {lo hi : Option Int} {Q : VK} (ha : H a = some (.tup xs)) (q : ∀ p H', Same H H' → H' p = some (.tup (cutV xs lo hi)) → Q (.ref p) H') : rSlA K (.ref a) lo hi H Q :=
  ⟨a, xs, rfl, .of ha, fun w => q a H (Same.refl _) (by
    have e : cutV xs lo hi = xs := by
      unfold cutV
      rw [w.1, w.2]
      simp
    rw [e]
    exact ha), fun _ p np => q p _ (same_upd np) upd_same⟩
theorem rd_catN {H : Hp} {a b : Addr} {xs ys : List V} {Q : VK} (ha : H a = some (.tup xs)) (hb : H b = some (.tup ys)) (hl : xs.length + ys.length ≤ sizeLine)
    (q : ∀ p H', Same H H' → H' p = some (.tup (xs ++ ys)) → Q (.ref p) H') : rCatA K (.ref a) (.ref b) H Q := by
  refine ⟨a, b, xs, ys, rfl, rfl, .of ha, .of hb, hl, fun e => ?_, fun _ e => ?_, fun _ _ p np => q p _ (same_upd np) upd_same⟩
  · subst e
    exact q b H (Same.refl _) hb
  · subst e
    exact q a H (Same.refl _) (by rw [List.append_nil]; exact ha)
/-- some fractions over one bottom -/
theorem one_bottom {k : Nat} : ∀ {ρ : List Rat}, (∀ r ∈ ρ, Bd k r) → ∃ d : Nat, 0 < d ∧ d ≤ 2 ^ (k * ρ.length) ∧ ∀ r ∈ ρ, Gr (2 ^ (k * ρ.length)) d r
  | [], _ => ⟨1, by decide, by simp, by simp⟩
  | r :: ρ, h => by
    obtain ⟨d, d0, d1, hd⟩ := one_bottom (ρ := ρ) fun x hx => h x (List.mem_cons_of_mem _ hx)
    obtain ⟨b1, b2⟩ := h r (List.mem_cons_self ..)
    have e : (2 : Nat) ^ (k * (r :: ρ).length) = 2 ^ (k * ρ.length) * 2 ^ k := by
      rw [List.length_cons, Nat.mul_add, Nat.mul_one, Nat.pow_add]
    have rd := r.den_pos
    refine ⟨d * r.den, Nat.mul_pos d0 rd, ?_, fun x hx => ?_⟩
    · rw [e]
      exact Nat.mul_le_mul d1 (Nat.le_of_lt b2)
    · rcases List.mem_cons.mp hx with z | z
      · subst z
        have g : Gr x.num.natAbs x.den (Rat.divInt x.num x.den) := gr_divInt (by omega) 1 (by omega) (by simp)
        rw [Rat.num_divInt_den] at g
        have g2 := g.scale d
        rw [Nat.mul_comm x.den d, Nat.mul_comm] at g2
        rw [e]
        exact g2.mono (Nat.mul_le_mul d1 (Nat.le_of_lt b1))
      · rw [e]
        exact ((hd x z).scale r.den).mono (Nat.mul_le_mul_left _ (Nat.le_of_lt b2))
theorem OkA.of_bd {n : Nat} {ρ : List Rat} (l : ρ.length = n) (n8 : n ≤ 8) (h : ∀ r ∈ ρ, 0 ≤ r ∧ Bd 212 r) : OkA n ρ := by
  obtain ⟨d, d0, d1, hd⟩ := one_bottom (k := 212) (ρ := ρ) fun r hr => (h r hr).2
  have p : (2 : Nat) ^ (212 * ρ.length) < 2 ^ 2100 := Nat.pow_lt_pow_right (by decide) (by omega)
  refine ⟨l, fun r hr => (h r hr).1, d, d0, Nat.lt_of_le_of_lt d1 p, fun j hj => ?_⟩
  have hj := List.mem_range.mp hj
  refine (hd _ ?_).mono (by omega)
  show ρ.getD j 0 ∈ ρ
  rw [List.getD_eq_getElem?_getD, List.getElem?_eq_getElem (by omega)]
  exact List.getElem_mem _
/-- odd things -/
structure Ow (K : PySem.W.Frag) (D : Addr) (H : Hp) (n : Nat) (v : V) : Prop where
  j : JS K D H n v false
  f : ∃ o, JF K D H v o ∧ sa o = false
section
variable {M c n : Nat} {D C p : Addr} {H H' : Hp} {v : V} {xs : List V}
theorem Ow.fw (j : Ow K D H n v) (dk : Deck M D C H c) (f : Fw D H H') : Ow K D H' n v := by
  obtain ⟨a, o, b, d⟩ := j
  exact ⟨a.fw dk f, o, b.fw dk f, d⟩
theorem Ow.same (j : Ow K D H n v) (s : Same H H') : Ow K D H' n v := by
  obtain ⟨a, o, b, d⟩ := j
  exact ⟨a.same s, o, b.same s, d⟩
theorem ow_od (o : Od K D H v) (h : ∀ p xs, v = .ref p → H p ≠ some (.tup xs)) : Ow K D H n v := ⟨.other o h, none, .inr ⟨.not o fun p xs e z => (h p xs e z).elim, rfl⟩, rfl⟩
theorem ow_int (i : Int) : Ow K D H n (.int i) := ⟨.int i, none, .inr ⟨.int i, rfl⟩, rfl⟩
theorem ow_non : Ow K D H n .non := ow_od .non fun p xs e => by cases e
theorem ow_bl (b : Bool) : Ow K D H n (.bl b) := ow_od (.bl b) fun p xs e => by cases e
theorem ow_str (s : Str) : Ow K D H n (.str s) := ow_od (.str s) fun p xs e => by cases e
theorem ow_lst (np : p ≠ D) (h : H p = some (.lst xs)) : Ow K D H n (.ref p) := ow_od (.lst np h) fun q ys e z => by
  cases e
  rw [h] at z
  cases z
theorem ow_dK {kvs : List (Key × V)} (np : p ≠ D) (h : H p = some (.dK kvs)) : Ow K D H n (.ref p) := ow_od (.dK np h) fun q ys e z => by
  cases e
  rw [h] at z
  cases z
theorem ow_ins {C' dx : Addr} {fs : List (Str × V)} (np : p ≠ D) (h : H p = some (.ins C' dx fs)) (c : InsT K C') : Ow K D H n (.ref p) := ow_od (.ins np h c) fun q ys e z => by
  cases e
  rw [h] at z
  cases z
theorem js_odd {os : List (Option Rat)} (np : p ≠ D) (h : H p = some (.tup xs)) (hj : Paired (JF K D H) xs os) (l : xs.length ≤ 20) (b : (decide (xs.length = n) && os.all sa) = false) : JS K D H n (.ref p) false := by
  have := JS.tup (n := n) np h hj l
  rw [b] at this
  exact this
theorem ow_tup0 (n1 : 1 ≤ n) (np : p ≠ D) (h : H p = some (.tup [])) : Ow K D H n (.ref p) :=
  ⟨js_odd np h .nil (Nat.zero_le _) (by rw [decide_eq_false (show ¬ ([] : List V).length = n by show ¬ 0 = n; omega)]; rfl), none, .inr ⟨.not (.tup np h) fun q ys e z => by
    cases e
    rw [h] at z
    cases z
    exact (by decide : (0 : Nat) ≠ 2), rfl⟩, rfl⟩
theorem ow_pair {i j : Int} (np : p ≠ D) (h : H p = some (.tup [.int i, .int j])) (hi : i.natAbs < 2 ^ 40) (hj : j.natAbs < 2 ^ 40) (b : sa (if 0 < j ∧ Nat.gcd i.natAbs j.natAbs = 1 then some (Rat.divInt i j) else none) = false) : Ow K D H n (.ref p) :=
  ⟨js_odd np h (os := [none, none]) (.cons (.inr ⟨.int i, rfl⟩) (.cons (.inr ⟨.int j, rfl⟩) .nil)) (by show 2 ≤ 20; decide) (by rw [Bool.and_eq_false_iff]; exact .inr rfl), _, jf_pair np h hi hj, b⟩
theorem ow_pairB {i : Int} {b : Bool} (np : p ≠ D) (h : H p = some (.tup [.int i, .bl b])) : Ow K D H n (.ref p) :=
  ⟨js_odd np h (os := [none, none]) (.cons (.inr ⟨.int i, rfl⟩) (.cons (.inr ⟨.not (.bl b) (fun q ys e => by cases e), rfl⟩) .nil)) (by show 2 ≤ 20; decide) (by rw [Bool.and_eq_false_iff]; exact .inr rfl), none, .inr ⟨.snd np h (.bl b), rfl⟩, rfl⟩
theorem ow_three {i j k : Int} (np : p ≠ D) (h : H p = some (.tup [.int i, .int j, .int k])) : Ow K D H n (.ref p) :=
  ⟨js_odd np h (os := [none, none, none]) (.cons (.inr ⟨.int i, rfl⟩) (.cons (.inr ⟨.int j, rfl⟩) (.cons (.inr ⟨.int k, rfl⟩) .nil))) (by show 3 ≤ 20; decide) (by rw [Bool.and_eq_false_iff]; exact .inr rfl), none, .inr ⟨.not (.tup np h) fun q ys e z => by
    cases e
    rw [h] at z
    cases z
    exact (by decide : (3 : Nat) ≠ 2), rfl⟩, rfl⟩
/-- a list or a tuple of one thing, which is one, too -/
def SqB (H : Hp) (p : Addr) (xs : List V) : Prop := H p = some (.lst xs) ∨ H p = some (.tup xs)
theorem SqB.fw (h : SqB H p xs) (np : p ≠ D) (f : Fw D H H') : SqB H' p xs := h.imp (f _ _ np) (f _ _ np)
def B1 (D : Addr) (H : Hp) (v : V) : Prop := ∃ p x, v = .ref p ∧ p ≠ D ∧ SqB H p [x]
def B2 (D : Addr) (H : Hp) (v : V) : Prop := ∃ p x, v = .ref p ∧ p ≠ D ∧ SqB H p [x] ∧ B1 D H x
theorem B1.fw (b : B1 D H v) (f : Fw D H H') : B1 D H' v := by
  obtain ⟨p, x, e, np, h⟩ := b
  exact ⟨p, x, e, np, h.fw np f⟩
theorem B2.fw (b : B2 D H v) (f : Fw D H H') : B2 D H' v := by
  obtain ⟨p, x, e, np, h, b⟩ := b
  exact ⟨p, x, e, np, h.fw np f, b.fw f⟩
theorem B1.jf (b : B1 D H v) : JF K D H v none := by
  obtain ⟨p, x, rfl, np, h | h⟩ := b
  · refine .inr ⟨.not (.lst np h) (fun q ys e z => ?_), rfl⟩
    cases e
    rw [h] at z
    cases z
  · exact .inr ⟨.not (.tup np h) fun q ys e z => by
      cases e
      rw [h] at z
      cases z
      exact (by decide : (1 : Nat) ≠ 2), rfl⟩
theorem B2.ow (b : B2 D H v) : Ow K D H n v := by
  have b1 : B1 D H v := by
    obtain ⟨p, x, e, np, h, _⟩ := b
    exact ⟨p, x, e, np, h⟩
  refine ⟨?_, none, b1.jf, rfl⟩
  obtain ⟨p, x, rfl, np, h | h, b⟩ := b
  · exact (ow_lst np h).j
  · exact js_odd np h (os := [none]) (.cons b.jf .nil) (by show 1 ≤ 20; decide) (by rw [Bool.and_eq_false_iff]; exact .inr rfl)
/-- tuples told right or wrong -/
def Jx (K : PySem.W.Frag) (D : Addr) (H : Hp) (n : Nat) (v : V) : Prop := ∃ o, JT K D H n v o
theorem Jx.fw (j : Jx K D H n v) (dk : Deck M D C H c) (f : Fw D H H') : Jx K D H' n v := by
  obtain ⟨o, j⟩ := j
  exact ⟨o, j.fw dk f⟩
theorem Jx.same (j : Jx K D H n v) (s : Same H H') : Jx K D H' n v := by
  obtain ⟨o, j⟩ := j
  exact ⟨o, j.same s⟩
theorem jx_no (j : JS K D H n v false) : Jx K D H n v := ⟨none, j, fun ρ e => by cases e⟩
theorem jfs_of {ρ : List Rat} (h : Fs K H xs ρ) (b : ∀ r ∈ ρ, Bd 2200 r) : Paired (JF K D H) xs (ρ.map some) := by
  unfold Fs at h
  induction h with
  | nil => exact .nil
  | cons h t ih => exact .cons (.inl ⟨_, h, b _ (List.mem_cons_self ..), rfl⟩) (ih fun r hr => b r (List.mem_cons_of_mem _ hr))
theorem all_sa {ρ : List Rat} : (ρ.map some).all sa = true ↔ ∀ x ∈ ρ, 0 < x := by
  rw [List.all_eq_true]
  constructor
  · intro z x hx
    exact of_decide_eq_true (z (some x) (List.mem_map.mpr ⟨x, hx, rfl⟩))
  · intro z o ho
    obtain ⟨x, hx, rfl⟩ := List.mem_map.mp ho
    exact decide_eq_true (z x hx)
/-- scales that are found -/
theorem jx_okA {ρ : List Rat} (np : p ≠ D) (h : H p = some (.tup xs)) (f : Fs K H xs ρ) (o : OkA n ρ) (n8 : n ≤ 8) (pos : ∀ x ∈ ρ, 0 < x) : JT K D H n (.ref p) (some ρ) := by
  have l := f.len
  have lρ := o.len
  have j := JS.tup (n := n) np h (jfs_of (D := D) f fun r hr => by
    obtain ⟨i, hi⟩ := List.getElem?_of_mem hr
    have il := (List.getElem?_eq_some_iff.mp hi).1
    have := (o.at (i := i) (by omega)).2
    rw [List.getD_eq_getElem?_getD, hi] at this
    exact Bd.mono this (by decide)) (by omega)
  have e : (decide (xs.length = n) && (ρ.map some).all sa) = true := by
    rw [decide_eq_true (show xs.length = n by omega), all_sa.mpr pos]
    rfl
  rw [e] at j
  refine ⟨j, fun ρ' e => ?_⟩
  cases e
  exact ⟨⟨p, xs, rfl, h, f⟩, o, pos⟩
/-- a tuple of fractions -/
theorem jx_tup {ρ : List Rat} (np : p ≠ D) (h : H p = some (.tup xs)) (f : Fs K H xs ρ) (n8 : n ≤ 8) (l9 : ρ.length ≤ 9) (b : ∀ r ∈ ρ, Bd 212 r) : Jx K D H n (.ref p) := by
  by_cases c : ρ.length = n ∧ ∀ x ∈ ρ, 0 < x
  · exact ⟨_, jx_okA np h f (OkA.of_bd c.1 n8 fun r hr => ⟨Rat.le_of_lt (c.2 r hr), b r hr⟩) n8 c.2⟩
  · have l := f.len
    refine jx_no (js_odd np h (jfs_of f fun r hr => (b r hr).mono (by decide)) (by omega) ?_)
    rw [Bool.eq_false_iff]
    intro z
    rw [Bool.and_eq_true, all_sa, decide_eq_true_eq] at z
    exact c ⟨by omega, z.2⟩
end
section
variable {P : Program} {w : World} {K : PySem.W.Frag} {mg : Str → Option Value} {base : Heap} {f__wall f_is_integer f_is_row f_is_fraction f_is_amount f_is_some f_are_amounts f_added f_negated f_lessened f_multiplied f_divided f_squared f_summed f_lies_below f_is_stall f_hold_of f_stalls_of f_kept_of f_held f_roots f_check_purse f_check_wish f_may_stay f_table_of f_strike_row f_are_some f_filled_back f_in_order f_struck_in_turn f_scales f_is_scales f_l_deck f_l_pick f_l_divisor f_l_made f_l_added f_l_taken f_l_product f_l_amount f_l_stall f_l_held f_l_pulls f_l_edge f_l_deep f_l_changed f_l_are_some f_l_due f_l_is_judged f_l_word f_law f_Web_init f_Table_init f_Table_wrong_sign f_Table_behind f_Table_ties_without c_BadPurse c_BadWish c_Table c_Web c_ONE c_ZERO : Addr} {d__wall d_is_integer d_is_row d_is_fraction d_is_amount d_is_some d_are_amounts d_added d_negated d_lessened d_multiplied d_divided d_squared d_summed d_lies_below d_is_stall d_hold_of d_stalls_of d_kept_of d_held d_roots d_check_purse d_check_wish d_may_stay d_table_of d_strike_row d_are_some d_filled_back d_in_order d_struck_in_turn d_scales d_is_scales d_l_deck d_l_pick d_l_divisor d_l_made d_l_added d_l_taken d_l_product d_l_amount d_l_stall d_l_held d_l_pulls d_l_edge d_l_deep d_l_changed d_l_are_some d_l_due d_l_is_judged d_l_word d_law d_Web_init d_Table_init d_Table_wrong_sign d_Table_behind d_Table_ties_without : FuncData}
def sp_ldeep2 (M : Nat) : Sp := fun vs H Q _ => ∃ (D C : Addr) (c : Nat), vs = [.ref D] ∧ Deck M D C H c ∧ c ≤ 2 ^ 39 ∧ ∀ H' v, Fw D H H' → Deck M D C H' (c + 3) → B2 D H' v → Q v H'
theorem ok_l_deep2 {M : Nat} (hM : 64 ≤ M) (hM2 : M ≤ 1048576) (T : Txt K mg f__wall f_is_integer f_is_row f_is_fraction f_is_amount f_is_some f_are_amounts f_added f_negated f_lessened f_multiplied f_divided f_squared f_summed f_lies_below f_is_stall f_hold_of f_stalls_of f_kept_of f_held f_roots f_check_purse f_check_wish f_may_stay f_table_of f_strike_row f_are_some f_filled_back f_in_order f_struck_in_turn f_scales f_is_scales f_l_deck f_l_pick f_l_divisor f_l_made f_l_added f_l_taken f_l_product f_l_amount f_l_stall f_l_held f_l_pulls f_l_edge f_l_deep f_l_changed f_l_are_some f_l_due f_l_is_judged f_l_word f_law f_Web_init f_Table_init f_Table_wrong_sign f_Table_behind f_Table_ties_without c_BadPurse c_BadWish c_Table c_Web c_ONE c_ZERO d__wall d_is_integer d_is_row d_is_fraction d_is_amount d_is_some d_are_amounts d_added d_negated d_lessened d_multiplied d_divided d_squared d_summed d_lies_below d_is_stall d_hold_of d_stalls_of d_kept_of d_held d_roots d_check_purse d_check_wish d_may_stay d_table_of d_strike_row d_are_some d_filled_back d_in_order d_struck_in_turn d_scales d_is_scales d_l_deck d_l_pick d_l_divisor d_l_made d_l_added d_l_taken d_l_product d_l_amount d_l_stall d_l_held d_l_pulls d_l_edge d_l_deep d_l_changed d_l_are_some d_l_due d_l_is_judged d_l_word d_law d_Web_init d_Table_init d_Table_wrong_sign d_Table_behind d_Table_ties_without) : FnOk P w K mg base CX0 2 f_l_deep d_l_deep ["_law_deck_here"] (sp_ldeep2 M) := by
  have G_l_pick : FnOk P w K mg base CX0 1 f_l_pick d_l_pick ["_law_deck_here", "_law_many"] (sp_pick M) := ok_pick hM hM2 T
  refine T.F_l_deep.ok sc_l_deep (fun vs H Q E h => ?_) (fun cdv A outer s H vs Q E hr h => ?_)
  · obtain ⟨D, C, c, rfl, _⟩ := h
    rfl
  · obtain ⟨D, C, c, rfl, dk, hc, q⟩ := h
    refine ⟨_, (pss_cons (ps_set (i := 1) sc_l_deep.nd rfl (by first | exact Or.inl rfl | exact Or.inr rfl) (pe_ix ix_list (pe_lst (pa_cons pe_non (pa_cons pe_int (pa_cons pe_str (pa_cons (pe_tup pa_nil) pa_nil))))) (pe_call G_l_pick (hr.mono (by decide)) (by rfl) T.g_l_pick T.k_l_pick T.b_l_pick .nil pass0 (pa_cons (pv 0) (pa_cons pe_int pa_nil))) (fun _ _ => rfl)))
      (pss_cons (ps_set (i := 2) sc_l_deep.nd rfl (by first | exact Or.inl rfl | exact Or.inr rfl) (pe_call G_l_pick (hr.mono (by decide)) (by rfl) T.g_l_pick T.k_l_pick T.b_l_pick .nil pass0 (pa_cons (pv 0) (pa_cons pe_int pa_nil))))
      (pss_cons (ps_for PassesOwn.never rfl (pi_range1 (by rfl) T.z_range (pa_cons (pe_op op_add pe_int (pe_call G_l_pick (hr.mono (by decide)) (by rfl) T.g_l_pick T.k_l_pick T.b_l_pick .nil pass0 (pa_cons (pv 0) (pa_cons pe_int pa_nil)))) pa_nil)) (pg_name (i := 3) sc_l_deep.nd rfl (by first | exact Or.inl rfl | exact Or.inr rfl))
        (pss_one (ps_if (pt_cmpR op_eq (pe_op op_mod (pe_callTy call_intN (by rfl) T.z_int (by decide +kernel) (pa_cons (pe_op op_add (pv 3) (pv 2)) pa_nil)) pe_int) pe_int (nomark _))
            (pss_one (ps_set (i := 1) sc_l_deep.nd rfl (by first | exact Or.inl rfl | exact Or.inr rfl) (pe_lst (pa_cons (pv 1) pa_nil))))
            (pss_one (ps_set (i := 1) sc_l_deep.nd rfl (by first | exact Or.inl rfl | exact Or.inr rfl) (pe_tup (pa_cons (pv 1) pa_nil)))))))
      (pss_one (ps_ret (pv 1)))))), ?_⟩
    walk_at "r"
    intro p np
    have s1 := same_upd (o := .tup []) np
    have k1 := dk.same s1
    generalize upd H p (.tup []) = H1 at *
    walk_at "r"
    intro l nl
    have s2 := same_upd (o := .lst [V.non, .int 0, .str "0", .ref p]) nl
    have hl : upd H1 l (.lst [V.non, .int 0, .str "0", .ref p]) l = some (.lst [V.non, .int 0, .str "0", .ref p]) := upd_same
    have lD := k1.ne nl
    have k2 := k1.same s2
    generalize upd H1 l (.lst [V.non, .int 0, .str "0", .ref p]) = H2 at *
    walk_at "r"
    refine ⟨D, C, _, _, rfl, ⟨by decide, by decide⟩, k2, by omega, fun H3 r3 w3 k3 a3 b3 => ?_⟩
    obtain ⟨z, ez⟩ : ∃ z, atI [V.non, .int 0, .str "0", .ref p] r3 = some z := by
      rcases (show r3 = 0 ∨ r3 = 1 ∨ r3 = 2 ∨ r3 = 3 by omega) with rfl | rfl | rfl | rfl
      · exact ⟨_, rfl⟩
      · exact ⟨_, rfl⟩
      · exact ⟨_, rfl⟩
      · exact ⟨_, rfl⟩
    refine rd_ixL (w3 _ _ lD hl) ez ?_
    walk_at "r"
    refine ⟨D, C, _, _, rfl, ⟨by decide, by decide⟩, k3, by omega, fun H4 r4 w4 k4 a4 b4 => ?_⟩
    walk_at "r"
    refine ⟨D, C, _, _, rfl, ⟨by decide, by decide⟩, k4, by omega, fun H5 r5 w5 k5 a5 b5 => ?_⟩
    have f5 := ((((Same.fw (D := D) s1).trans (Same.fw s2)).trans w3).trans w4).trans w5
    walk_at "r"
    refine ⟨by omega, by omega, ?_⟩
    refine for_range (lo := 0) (n := (20 + r5).toNat) (fun i σ H' => ∃ (v : V) (t3 : Option V), σ = [some (.ref D), some v, some (.int r4), t3] ∧ Fw D H5 H' ∧ Deck M D C H' (c + 3) ∧ (0 < i → B1 D H' v) ∧ (1 < i → B2 D H' v)) ?_ ?_ ?_
    · exact ⟨_, _, rfl, Fw.refl _ _, k5, fun h => absurd h (Nat.lt_irrefl 0), fun h => absurd h (Nat.not_lt_zero 1)⟩
    · rintro i σ H' hi ⟨v, t3, rfl, f, k, h1, h2⟩
      walk_at "r"
      walk_at "if"
      · walk_at "r"
        intro q1 nq
        have sq := same_upd (o := .lst [v]) nq
        have b : SqB (upd H' q1 (.lst [v])) q1 [v] := .inl upd_same
        exact ⟨_, _, rfl, f.trans (Same.fw sq), k.same sq, fun _ => ⟨q1, v, rfl, k.ne nq, b⟩, fun h => ⟨q1, v, rfl, k.ne nq, b, (h1 (by omega)).fw (Same.fw sq)⟩⟩
      · walk_at "r"
        intro q1 nq
        have sq := same_upd (o := .tup [v]) nq
        have b : SqB (upd H' q1 (.tup [v])) q1 [v] := .inr upd_same
        exact ⟨_, _, rfl, f.trans (Same.fw sq), k.same sq, fun _ => ⟨q1, v, rfl, k.ne nq, b⟩, fun h => ⟨q1, v, rfl, k.ne nq, b, (h1 (by omega)).fw (Same.fw sq)⟩⟩
    · rintro σ H' ⟨v, t3, rfl, f, k, h1, h2⟩
      walk_at "r"
      exact q _ _ (f5.trans f) k (h2 (by omega))
end
end My
namespace My
open PySem PySem.Spec PyProof.Rows L2
variable {K : PySem.W.Frag}
theorem nat_step {H : Hp} {p : Addr} {k : Nat} (k0 : 0 < k) (k1 : k ≤ 1000) : IsF K (upd H p (.tup [.int 1, .int (k : Int)])) (.ref p) (Rat.divInt 1 (k : Int)) := by
  obtain ⟨_, m2, m3⟩ := low_math (n := 1) (b := (k : Int)) (by omega) (by rw [Int.natAbs_natCast]; exact Nat.lt_of_le_of_lt k1 (Nat.lt_of_lt_of_le (show 1000 < 2 ^ 10 by decide) (pow_le (by decide)))) 1 (by simp)
  exact isF_new (by rw [m2]; simp) (by rw [m3]; simp)
theorem cut_back {xs : List V} (i : Nat) : cutV xs (some ((i : Int) + 1)) none = xs.drop (i + 1) := cut_drop xs (i + 1)
theorem fs_take {H : Hp} {xs : List V} {ρ : List Rat} (h : Fs K H xs ρ) : ∀ i : Nat, Fs K H (xs.take i) (ρ.take i) := by
  unfold Fs at *
  induction h with
  | nil =>
    intro i
    rw [List.take_nil, List.take_nil]
    exact .nil
  | cons h t ih =>
    intro i
    cases i with
    | zero => exact .nil
    | succ i => exact .cons h (ih i)
theorem fs_drop {H : Hp} {xs : List V} {ρ : List Rat} (h : Fs K H xs ρ) : ∀ i : Nat, Fs K H (xs.drop i) (ρ.drop i) := by
  unfold Fs at *
  induction h with
  | nil =>
    intro i
    rw [List.drop_nil, List.drop_nil]
    exact .nil
  | cons h t ih =>
    intro i
    cases i with
    | zero => exact .cons h t
    | succ i => exact ih i
theorem fs_app {H : Hp} {xs ys : List V} {ρ σ : List Rat} (h : Fs K H xs ρ) (g : Fs K H ys σ) : Fs K H (xs ++ ys) (ρ ++ σ) := by
  unfold Fs at *
  induction h with
  | nil => exact g
  | cons h t ih => exact .cons h ih
theorem jf_app {D : Addr} {H : Hp} {xs ys : List V} {os ps : List (Option Rat)} (h : Paired (JF K D H) xs os) (g : Paired (JF K D H) ys ps) : Paired (JF K D H) (xs ++ ys) (os ++ ps) := by
  induction h with
  | nil => exact g
  | cons h t ih => exact .cons h ih
theorem fs_rev {H : Hp} : ∀ {xs : List V} {ρ : List Rat}, Fs K H xs ρ → Fs K H xs.reverse ρ.reverse
  | _, _, .nil => .nil
  | _, _, .cons h t => by
    rw [List.reverse_cons, List.reverse_cons]
    exact fs_app (fs_rev t) (.cons h .nil)
section
variable {P : Program} {w : World} {K : PySem.W.Frag} {mg : Str → Option Value} {base : Heap} {f__wall f_is_integer f_is_row f_is_fraction f_is_amount f_is_some f_are_amounts f_added f_negated f_lessened f_multiplied f_divided f_squared f_summed f_lies_below f_is_stall f_hold_of f_stalls_of f_kept_of f_held f_roots f_check_purse f_check_wish f_may_stay f_table_of f_strike_row f_are_some f_filled_back f_in_order f_struck_in_turn f_scales f_is_scales f_l_deck f_l_pick f_l_divisor f_l_made f_l_added f_l_taken f_l_product f_l_amount f_l_stall f_l_held f_l_pulls f_l_edge f_l_deep f_l_changed f_l_are_some f_l_due f_l_is_judged f_l_word f_law f_Web_init f_Table_init f_Table_wrong_sign f_Table_behind f_Table_ties_without c_BadPurse c_BadWish c_Table c_Web c_ONE c_ZERO : Addr} {d__wall d_is_integer d_is_row d_is_fraction d_is_amount d_is_some d_are_amounts d_added d_negated d_lessened d_multiplied d_divided d_squared d_summed d_lies_below d_is_stall d_hold_of d_stalls_of d_kept_of d_held d_roots d_check_purse d_check_wish d_may_stay d_table_of d_strike_row d_are_some d_filled_back d_in_order d_struck_in_turn d_scales d_is_scales d_l_deck d_l_pick d_l_divisor d_l_made d_l_added d_l_taken d_l_product d_l_amount d_l_stall d_l_held d_l_pulls d_l_edge d_l_deep d_l_changed d_l_are_some d_l_due d_l_is_judged d_l_word d_law d_Web_init d_Table_init d_Table_wrong_sign d_Table_behind d_Table_ties_without : FuncData}
def sp_lchanged (K : PySem.W.Frag) (C0 : Addr) (M : Nat) : Sp := fun vs H Q _ => ∃ (D C : Addr) (x : V) (X : Addr) (c n : Nat) (ss : List Stl) (ρ : List Rat) (yx : List V), vs = [.ref D, x, .ref X] ∧ Deck M D C H c ∧ c ≤ 2 ^ 38 ∧ IsWeb K C0 H x n ss ∧ X ≠ D ∧ H X = some (.tup yx) ∧ Fs K H yx ρ ∧ ρ.length = n ∧ 1 ≤ n ∧ n ≤ 8 ∧ (∀ r ∈ ρ, 0 < r ∧ Bd 200 r) ∧ JT K D H n (.ref X) (some ρ) ∧
  ∀ H' u, Fw D H H' → Deck M D C H' (c + 7) → Jx K D H' n u → Q u H'
theorem ok_l_changed {M : Nat} (hM : 64 ≤ M) (hM2 : M ≤ 1048576) (T : Txt K mg f__wall f_is_integer f_is_row f_is_fraction f_is_amount f_is_some f_are_amounts f_added f_negated f_lessened f_multiplied f_divided f_squared f_summed f_lies_below f_is_stall f_hold_of f_stalls_of f_kept_of f_held f_roots f_check_purse f_check_wish f_may_stay f_table_of f_strike_row f_are_some f_filled_back f_in_order f_struck_in_turn f_scales f_is_scales f_l_deck f_l_pick f_l_divisor f_l_made f_l_added f_l_taken f_l_product f_l_amount f_l_stall f_l_held f_l_pulls f_l_edge f_l_deep f_l_changed f_l_are_some f_l_due f_l_is_judged f_l_word f_law f_Web_init f_Table_init f_Table_wrong_sign f_Table_behind f_Table_ties_without c_BadPurse c_BadWish c_Table c_Web c_ONE c_ZERO d__wall d_is_integer d_is_row d_is_fraction d_is_amount d_is_some d_are_amounts d_added d_negated d_lessened d_multiplied d_divided d_squared d_summed d_lies_below d_is_stall d_hold_of d_stalls_of d_kept_of d_held d_roots d_check_purse d_check_wish d_may_stay d_table_of d_strike_row d_are_some d_filled_back d_in_order d_struck_in_turn d_scales d_is_scales d_l_deck d_l_pick d_l_divisor d_l_made d_l_added d_l_taken d_l_product d_l_amount d_l_stall d_l_held d_l_pulls d_l_edge d_l_deep d_l_changed d_l_are_some d_l_due d_l_is_judged d_l_word d_law d_Web_init d_Table_init d_Table_wrong_sign d_Table_behind d_Table_ties_without) : FnOk P w K mg base CX0 4 f_l_changed d_l_changed ["_law_deck_here", "_law_web", "_law_thing"] (sp_lchanged K c_Web M) := by
  have G_l_pick : FnOk P w K mg base CX0 1 f_l_pick d_l_pick ["_law_deck_here", "_law_many"] (sp_pick M) := ok_pick hM hM2 T
  have G_l_deep : FnOk P w K mg base CX0 2 f_l_deep d_l_deep ["_law_deck_here"] (sp_ldeep2 M) := ok_l_deep2 hM hM2 T
  have G_l_added : FnOk P w K mg base CX0 3 f_l_added d_l_added ["_law_one", "_law_other"] (sp_two9 K (· + ·)) := ok_l_added T
  have G_l_taken : FnOk P w K mg base CX0 3 f_l_taken d_l_taken ["_law_one", "_law_other"] (sp_two9 K (· - ·)) := ok_l_taken T
  have G_l_product : FnOk P w K mg base CX0 3 f_l_product d_l_product ["_law_one", "_law_other"] (sp_two9 K (· * ·)) := ok_l_product T
  refine T.F_l_changed.ok sc_l_changed (fun vs H Q E h => ?_) (fun cdv A outer s H vs Q E hr h => ?_)
  · obtain ⟨D, C, x, X, c, n, ss, ρ, yx, rfl, _⟩ := h
    rfl
  · obtain ⟨D, C, x, X, c, n, ss, ρ, yx, rfl, dk, hc, hw, XD, hX, hf, lρ, n1, n8, hρ, jt, q⟩ := h
    have ly := hf.len
    refine ⟨_, (pss_cons (ps_set (i := 3) sc_l_changed.nd rfl (by first | exact Or.inl rfl | exact Or.inr rfl) (pe_call G_l_pick (hr.mono (by decide)) (by rfl) T.g_l_pick T.k_l_pick T.b_l_pick .nil pass0 (pa_cons (pv 0) (pa_cons (pe_callB call_lenN (by rfl) T.z_len (by decide +kernel) (pa_cons (pv 2) pa_nil)) pa_nil))))
      (pss_cons (ps_set (i := 4) sc_l_changed.nd rfl (by first | exact Or.inl rfl | exact Or.inr rfl) (pe_ix ix_tup (pv 2) (pv 3) (fun _ _ => rfl)))
      (pss_cons (ps_set (i := 5) sc_l_changed.nd rfl (by first | exact Or.inl rfl | exact Or.inr rfl) (pe_tup (pa_cons pe_int (pa_cons (pe_op op_add pe_int (pe_call G_l_pick (hr.mono (by decide)) (by rfl) T.g_l_pick T.k_l_pick T.b_l_pick .nil pass0 (pa_cons (pv 0) (pa_cons pe_int pa_nil)))) pa_nil))))
      (pss_cons (ps_set (i := 6) sc_l_changed.nd rfl (by first | exact Or.inl rfl | exact Or.inr rfl) (pe_lst (pa_cons pe_non (pa_cons pe_bl (pa_cons pe_int (pa_cons pe_int (pa_cons pe_str (pa_cons (pe_tup pa_nil) (pa_cons (pe_lst (pa_cons pe_int (pa_cons pe_int pa_nil))) (pa_cons (pe_tup (pa_cons pe_int (pa_cons pe_int pa_nil))) (pa_cons (pe_tup (pa_cons pe_int (pa_cons pe_int pa_nil))) (pa_cons (pe_tup (pa_cons (pe_un un_neg pe_int) (pa_cons pe_int pa_nil))) (pa_cons (pe_tup (pa_cons pe_int (pa_cons pe_int pa_nil))) (pa_cons (pe_tup (pa_cons pe_int (pa_cons (pe_un un_neg pe_int) pa_nil))) (pa_cons (pe_tup (pa_cons pe_int (pa_cons pe_bl pa_nil))) (pa_cons (pe_tup (pa_cons pe_int (pa_cons pe_int (pa_cons pe_int pa_nil)))) (pa_cons pe_dnewK pa_nil)))))))))))))))))
      (pss_cons (ps_set (i := 6) sc_l_changed.nd rfl (by first | exact Or.inl rfl | exact Or.inr rfl) (pe_ix ix_list (pe_op op_cat (pv 6) (pe_lst (pa_cons (pe_call G_l_deep (hr.mono (by decide)) (by rfl) T.g_l_deep T.k_l_deep T.b_l_deep .nil pass0 (pa_cons (pv 0) pa_nil)) (pa_cons (pv 1) pa_nil)))) (pe_call G_l_pick (hr.mono (by decide)) (by rfl) T.g_l_pick T.k_l_pick T.b_l_pick .nil pass0 (pa_cons (pv 0) (pa_cons pe_int pa_nil))) (fun _ _ => rfl)))
      (pss_cons (ps_set (i := 7) sc_l_changed.nd rfl (by first | exact Or.inl rfl | exact Or.inr rfl) (pe_call G_l_taken (hr.mono (by decide)) (by rfl) T.g_l_taken T.k_l_taken T.b_l_taken .nil pass0 (pa_cons (pv 4) (pa_cons (pv 5) pa_nil))))
      (pss_cons (ps_set (i := 8) sc_l_changed.nd rfl (by first | exact Or.inl rfl | exact Or.inr rfl) (pe_callTy call_tuple_of (by rfl) T.z_tuple (by decide +kernel) (pa_cons (pe_lc (own := [("_law_item", 9)]) (g := gName 9) rfl sc_l_changed.nd (pi_tup (pv 2)) (blkOk_by (own := [("_law_item", 9)]) (N := N_l_changed) (sc := defScope s_l_changed) (by decide +kernel)) (fun _ _ _ _ _ => (pg_name (i := 9) sc_l_changed.nd rfl (by first | exact Or.inl rfl | exact Or.inr rfl))) (fun _ _ _ _ _ => pts_nil) (fun _ _ _ _ _ => (pe_call G_l_product (hr.mono (by decide)) (by rfl) T.g_l_product T.k_l_product T.b_l_product .nil pass0 (pa_cons (pv 9) (pa_cons (pe_tup (pa_cons pe_int (pa_cons pe_int pa_nil))) pa_nil))))) pa_nil)))
      (pss_cons (ps_set (i := 10) sc_l_changed.nd rfl (by first | exact Or.inl rfl | exact Or.inr rfl) (pe_lst (pa_cons (pv 2) (pa_cons (pv 2) (pa_cons (pv 8) (pa_cons (pe_op op_catA (pe_op op_catA (pe_slice sl_tupA (pv 2) po_none (po_some (pv 3))) (pe_tup (pa_cons (pe_call G_l_added (hr.mono (by decide)) (by rfl) T.g_l_added T.k_l_added T.b_l_added .nil pass0 (pa_cons (pv 4) (pa_cons (pv 5) pa_nil))) pa_nil))) (pe_slice sl_tupA (pv 2) (po_some (pe_op op_add (pv 3) pe_int)) po_none)) (pa_cons (My.pe_revT (pv 2)) (pa_cons (pe_slice sl_tupA (pv 2) (po_some pe_int) po_none) (pa_cons (pe_op op_catA (pe_op op_catA (pe_slice sl_tupA (pv 2) po_none (po_some (pv 3))) (pe_tup (pa_cons (pv 7) pa_nil))) (pe_slice sl_tupA (pv 2) (po_some (pe_op op_add (pv 3) pe_int)) po_none)) (pa_cons (pe_callTy call_list_of (by rfl) T.z_list (by decide +kernel) (pa_cons (pv 2) pa_nil)) (pa_cons (pe_op op_catA (pv 2) (pe_tup (pa_cons (pe_tup (pa_cons pe_int (pa_cons pe_int pa_nil))) pa_nil))) (pa_cons (pv 6) (pa_cons (pv 6) pa_nil)))))))))))))
      (pss_cons (ps_set (i := 10) sc_l_changed.nd rfl (by first | exact Or.inl rfl | exact Or.inr rfl) (pe_op op_cat (pv 10) (pe_op op_rep (pe_lst (pa_cons (pe_op op_catA (pe_op op_catA (pe_slice sl_tupA (pv 2) po_none (po_some (pv 3))) (pe_tup (pa_cons (pv 6) pa_nil))) (pe_slice sl_tupA (pv 2) (po_some (pe_op op_add (pv 3) pe_int)) po_none)) pa_nil)) pe_int)))
      (pss_one (ps_ret (pe_ix ix_list (pv 10) (pe_call G_l_pick (hr.mono (by decide)) (by rfl) T.g_l_pick T.k_l_pick T.b_l_pick .nil pass0 (pa_cons (pv 0) (pa_cons pe_int pa_nil))) (fun _ _ => rfl))))))))))))), ?_⟩
    walk_at "r"
    refine ⟨_, _, _, _, rfl, ⟨by omega, by omega⟩, dk, by omega, fun H1 r1 w1 k1 a1 b1 => ?_⟩
    obtain ⟨av, hav, rfl⟩ : ∃ av : Nat, av < n ∧ r1 = (av : Int) := ⟨r1.toNat, by omega, by omega⟩
    have hX1 := w1 _ _ XD hX
    have hf1 : Fs K H1 yx ρ := Fs.ts (w1.ts dk) hf
    have hw1 := hw.fw w1 dk
    have jt1 := jt.fw dk w1
    obtain ⟨vp, hvp, ivp⟩ := hf1.getD' (i := av) (by omega)
    walk_at "r"
    refine rd_ixT hX1 (at_some hvp) ?_
    walk_at "r"
    refine ⟨_, _, _, _, rfl, ⟨by decide, by decide⟩, k1, by omega, fun H2 r2 w2 k2 a2 b2 => ?_⟩
    obtain ⟨k, kk0, kk1, ek⟩ : ∃ k : Nat, 0 < k ∧ k ≤ 1000 ∧ 1 + r2 = (k : Int) := ⟨(1 + r2).toNat, by omega, by omega, by omega⟩
    have f2 := w1.trans w2
    walk_at "r"
    rw [ek]
    intro ps ns
    have s3 := same_upd (o := .tup [V.int 1, .int (k : Int)]) ns
    have hst : IsF K (upd H2 ps (.tup [V.int 1, .int (k : Int)])) (.ref ps) (Rat.divInt 1 (k : Int)) := nat_step kk0 kk1
    have bst : Bd 10 (Rat.divInt 1 (k : Int)) := Bd.divInt (by omega) (by decide) (by rw [Int.natAbs_natCast]; exact Nat.lt_of_le_of_lt kk1 (by decide))
    have pst : (0 : Rat) < Rat.divInt 1 (k : Int) := divInt_pos (by omega) (by omega)
    generalize upd H2 ps (.tup [V.int 1, .int (k : Int)]) = H3 at *
    generalize Rat.divInt 1 (k : Int) = st at *
    have f3 := f2.trans (Same.fw s3)
    have k3 := k2.same s3
    have G0 := k3
    walk_at "r"
    intro o1 no1
    have so1 := same_upd (o := .tup ([] : List V)) no1
    have ho1 : upd H3 o1 (.tup ([] : List V)) o1 = some (.tup ([] : List V)) := upd_same
    have do1 := G0.ne no1
    have ko1 := G0.same so1
    generalize upd H3 o1 (.tup ([] : List V)) = G1 at *
    clear G0
    have G0 := ko1
    walk_at "r"
    intro o2 no2
    have so2 := same_upd (o := .lst [V.int 1, .int 1]) no2
    have ho2 : upd G1 o2 (.lst [V.int 1, .int 1]) o2 = some (.lst [V.int 1, .int 1]) := upd_same
    have do2 := G0.ne no2
    have ko2 := G0.same so2
    generalize upd G1 o2 (.lst [V.int 1, .int 1]) = G2 at *
    clear G0
    have G0 := ko2
    walk_at "r"
    intro o3 no3
    have so3 := same_upd (o := .tup [V.int 2, .int 2]) no3
    have ho3 : upd G2 o3 (.tup [V.int 2, .int 2]) o3 = some (.tup [V.int 2, .int 2]) := upd_same
    have do3 := G0.ne no3
    have ko3 := G0.same so3
    generalize upd G2 o3 (.tup [V.int 2, .int 2]) = G3 at *
    clear G0
    have G0 := ko3
    walk_at "r"
    intro o4 no4
    have so4 := same_upd (o := .tup [V.int 0, .int 1]) no4
    have ho4 : upd G3 o4 (.tup [V.int 0, .int 1]) o4 = some (.tup [V.int 0, .int 1]) := upd_same
    have do4 := G0.ne no4
    have ko4 := G0.same so4
    generalize upd G3 o4 (.tup [V.int 0, .int 1]) = G4 at *
    clear G0
    have G0 := ko4
    walk_at "r"
    intro o5 no5
    have so5 := same_upd (o := .tup [V.int (-1), .int 1]) no5
    have ho5 : upd G4 o5 (.tup [V.int (-1), .int 1]) o5 = some (.tup [V.int (-1), .int 1]) := upd_same
    have do5 := G0.ne no5
    have ko5 := G0.same so5
    generalize upd G4 o5 (.tup [V.int (-1), .int 1]) = G5 at *
    clear G0
    have G0 := ko5
    walk_at "r"
    intro o6 no6
    have so6 := same_upd (o := .tup [V.int 1, .int 0]) no6
    have ho6 : upd G5 o6 (.tup [V.int 1, .int 0]) o6 = some (.tup [V.int 1, .int 0]) := upd_same
    have do6 := G0.ne no6
    have ko6 := G0.same so6
    generalize upd G5 o6 (.tup [V.int 1, .int 0]) = G6 at *
    clear G0
    have G0 := ko6
    walk_at "r"
    intro o7 no7
    have so7 := same_upd (o := .tup [V.int 1, .int (-1)]) no7
    have ho7 : upd G6 o7 (.tup [V.int 1, .int (-1)]) o7 = some (.tup [V.int 1, .int (-1)]) := upd_same
    have do7 := G0.ne no7
    have ko7 := G0.same so7
    generalize upd G6 o7 (.tup [V.int 1, .int (-1)]) = G7 at *
    clear G0
    have G0 := ko7
    walk_at "r"
    intro o8 no8
    have so8 := same_upd (o := .tup [V.int 1, .bl true]) no8
    have ho8 : upd G7 o8 (.tup [V.int 1, .bl true]) o8 = some (.tup [V.int 1, .bl true]) := upd_same
    have do8 := G0.ne no8
    have ko8 := G0.same so8
    generalize upd G7 o8 (.tup [V.int 1, .bl true]) = G8 at *
    clear G0
    have G0 := ko8
    walk_at "r"
    intro o9 no9
    have so9 := same_upd (o := .tup [V.int 1, .int 1, .int 1]) no9
    have ho9 : upd G8 o9 (.tup [V.int 1, .int 1, .int 1]) o9 = some (.tup [V.int 1, .int 1, .int 1]) := upd_same
    have do9 := G0.ne no9
    have ko9 := G0.same so9
    generalize upd G8 o9 (.tup [V.int 1, .int 1, .int 1]) = G9 at *
    clear G0
    have G0 := ko9
    walk_at "r"
    intro o10 no10
    have so10 := same_upd (o := .dK []) no10
    have ho10 : upd G9 o10 (.dK []) o10 = some (.dK []) := upd_same
    have do10 := G0.ne no10
    have ko10 := G0.same so10
    generalize upd G9 o10 (.dK []) = G10 at *
    clear G0
    have G0 := ko10
    walk_at "r"
    intro lo nlo
    have slo := same_upd (o := .lst [V.non, V.bl true, V.int 0, V.int 1, V.str "1", .ref o1, .ref o2, .ref o3, .ref o4, .ref o5, .ref o6, .ref o7, .ref o8, .ref o9, .ref o10]) nlo
    have hlo : upd G10 lo (.lst [V.non, V.bl true, V.int 0, V.int 1, V.str "1", .ref o1, .ref o2, .ref o3, .ref o4, .ref o5, .ref o6, .ref o7, .ref o8, .ref o9, .ref o10]) lo = some (.lst [V.non, V.bl true, V.int 0, V.int 1, V.str "1", .ref o1, .ref o2, .ref o3, .ref o4, .ref o5, .ref o6, .ref o7, .ref o8, .ref o9, .ref o10]) := upd_same
    have dlo := G0.ne nlo
    have odds : ∀ v ∈ [V.non, V.bl true, V.int 0, V.int 1, V.str "1", .ref o1, .ref o2, .ref o3, .ref o4, .ref o5, .ref o6, .ref o7, .ref o8, .ref o9, .ref o10], Ow K D G10 n v := fun v hv => by
      simp only [List.mem_cons, List.not_mem_nil, or_false] at hv
      rcases hv with rfl | rfl | rfl | rfl | rfl | rfl | rfl | rfl | rfl | rfl | rfl | rfl | rfl | rfl | rfl
      · exact ow_non
      · exact ow_bl true
      · exact ow_int 0
      · exact ow_int 1
      · exact ow_str "1"
      · exact (ow_tup0 n1 do1 ho1).same (((((((((so2).trans so3).trans so4).trans so5).trans so6).trans so7).trans so8).trans so9).trans so10)
      · exact (ow_lst do2 ho2).same ((((((((so3).trans so4).trans so5).trans so6).trans so7).trans so8).trans so9).trans so10)
      · exact (ow_pair do3 ho3 (by decide) (by decide) (by decide +kernel)).same (((((((so4).trans so5).trans so6).trans so7).trans so8).trans so9).trans so10)
      · exact (ow_pair do4 ho4 (by decide) (by decide) (by decide +kernel)).same ((((((so5).trans so6).trans so7).trans so8).trans so9).trans so10)
      · exact (ow_pair do5 ho5 (by decide) (by decide) (by decide +kernel)).same (((((so6).trans so7).trans so8).trans so9).trans so10)
      · exact (ow_pair do6 ho6 (by decide) (by decide) (by decide +kernel)).same ((((so7).trans so8).trans so9).trans so10)
      · exact (ow_pair do7 ho7 (by decide) (by decide) (by decide +kernel)).same (((so8).trans so9).trans so10)
      · exact (ow_pairB do8 ho8).same ((so9).trans so10)
      · exact (ow_three do9 ho9).same (so10)
      · exact (ow_dK do10 ho10)
    have odds := fun v hv => (odds v hv).same slo
    have klo := G0.same slo
    have f4 : Fw D H (upd G10 lo (.lst [V.non, V.bl true, V.int 0, V.int 1, V.str "1", .ref o1, .ref o2, .ref o3, .ref o4, .ref o5, .ref o6, .ref o7, .ref o8, .ref o9, .ref o10])) := f3.trans (Same.fw (((((((((((so1).trans so2).trans so3).trans so4).trans so5).trans so6).trans so7).trans so8).trans so9).trans so10).trans slo))
    have s34 : Same H3 (upd G10 lo (.lst [V.non, V.bl true, V.int 0, V.int 1, V.str "1", .ref o1, .ref o2, .ref o3, .ref o4, .ref o5, .ref o6, .ref o7, .ref o8, .ref o9, .ref o10])) := ((((((((((so1).trans so2).trans so3).trans so4).trans so5).trans so6).trans so7).trans so8).trans so9).trans so10).trans slo
    generalize upd G10 lo (.lst [V.non, V.bl true, V.int 0, V.int 1, V.str "1", .ref o1, .ref o2, .ref o3, .ref o4, .ref o5, .ref o6, .ref o7, .ref o8, .ref o9, .ref o10]) = H4 at *
    clear G0 ho1 no1 do1 ko1 ho2 no2 do2 ko2 ho3 no3 do3 ko3 ho4 no4 do4 ko4 ho5 no5 do5 ko5 ho6 no6 do6 ko6 ho7 no7 do7 ko7 ho8 no8 do8 ko8 ho9 no9 do9 ko9 ho10 no10 do10 ko10
    have lods : ([V.non, V.bl true, V.int 0, V.int 1, V.str "1", .ref o1, .ref o2, .ref o3, .ref o4, .ref o5, .ref o6, .ref o7, .ref o8, .ref o9, .ref o10] : List V).length = 15 := rfl
    generalize [V.non, V.bl true, V.int 0, V.int 1, V.str "1", .ref o1, .ref o2, .ref o3, .ref o4, .ref o5, .ref o6, .ref o7, .ref o8, .ref o9, .ref o10] = ods at *
    obtain ⟨pw, dxw, tw, xw, rfl, hpw, _⟩ := id hw1
    have w14 : Fw D H1 H4 := w2.trans (Same.fw (s3.trans s34))
    have hw4 := hw1.fw w14 k1
    have pwD : pw ≠ D := by
      have hq := hpw
      obtain ⟨cells, pl, rest, cnt, g0, g1, g2⟩ := k1
      exact ne_of hq g1 (by intro z; cases z)
    have X4 := w14 _ _ XD hX1
    have hf4 : Fs K H4 yx ρ := Fs.ts (w14.ts k1) hf1
    have ivp4 := ivp.ts (w14.ts k1)
    have hst4 := hst.same s34
    walk_at "r"
    refine ⟨D, C, c + 2, rfl, klo, by omega, fun H5 dv w5 k5 b5 => ?_⟩
    have odds5 := fun v hv => (odds v hv).fw klo w5
    have hlo5 := w5 _ _ dlo hlo
    have hw5 := hw4.fw w5 klo
    have X5 := w5 _ _ XD X4
    have hf5 : Fs K H5 yx ρ := Fs.ts (w5.ts klo) hf4
    have ivp5 := ivp4.ts (w5.ts klo)
    have hst5 := hst4.ts (w5.ts klo)
    have jt5 := (jt1.fw k1 w14).fw klo w5
    have f5 := f4.trans w5
    clear odds hlo hw4 X4 hf4 ivp4 hst4 hw1 hX1 hf1 ivp hst jt1 w5
    walk_at "r"
    intro l5 nl5
    have s6 := same_upd (o := .lst [dv, V.ref pw]) nl5
    have hl5 : upd H5 l5 (.lst [dv, V.ref pw]) l5 = some (.lst [dv, V.ref pw]) := upd_same
    generalize upd H5 l5 (.lst [dv, V.ref pw]) = H6 at *
    walk_at "r"
    refine ⟨lo, l5, ods, [dv, .ref pw], rfl, rfl, s6 _ _ hlo5, hl5, by rw [sizeLine_eq, lods]; show 15 + 2 ≤ _; decide, fun l7 nl7 => ?_⟩
    have s7 := same_upd (o := .lst (ods ++ [dv, V.ref pw])) nl7
    have hl7 : upd H6 l7 (.lst (ods ++ [dv, V.ref pw])) l7 = some (.lst (ods ++ [dv, V.ref pw])) := upd_same
    have k6 := k5.same s6
    have l7D := k6.ne nl7
    have k7 := k6.same s7
    have s57 := s6.trans s7
    generalize upd H6 l7 (.lst (ods ++ [dv, V.ref pw])) = H7 at *
    have odds7 : ∀ v ∈ ods ++ [dv, .ref pw], Ow K D H7 n v := fun v hv => by
      rcases List.mem_append.mp hv with h | h
      · exact (odds5 v h).same s57
      · simp only [List.mem_cons, List.not_mem_nil, or_false] at h
        rcases h with rfl | rfl
        · exact (b5.fw (Same.fw s57)).ow
        · obtain ⟨q1, q2, q3, q4, e, hq, _⟩ := hw5.same s57
          cases e
          exact ow_ins pwD hq T.w_Web.it
    walk_at "r"
    refine ⟨_, _, _, _, rfl, ⟨by decide, by decide⟩, k7, by omega, fun H8 r8 w8 k8 a8 b8 => ?_⟩
    obtain ⟨ov, hov, eov⟩ : ∃ z, z ∈ ods ++ [dv, .ref pw] ∧ atI (ods ++ [dv, .ref pw]) r8 = some z := by
      obtain ⟨v, h1, h2⟩ := at_any (xs := ods ++ [dv, .ref pw]) a8 (by rw [List.length_append, lods]; show r8 < 15 + 2; omega)
      exact ⟨v, h1, h2⟩
    refine rd_ixL (w8 _ _ l7D hl7) eov ?_
    have ow8 := (odds7 ov hov).fw k7 w8
    have f58 : Fw D H5 H8 := (Same.fw s57).trans w8
    have t58 := f58.ts k5
    have X8 := f58 _ _ XD X5
    have hf8 : Fs K H8 yx ρ := Fs.ts t58 hf5
    have ivp8 := ivp5.ts t58
    have hst8 := hst5.ts t58
    have jt8 := jt5.fw k5 f58
    have f8 := f5.trans f58
    clear odds7 odds5 hlo5 hl5 hl7 hw5 X5 hf5 ivp5 hst5 jt5 hov eov b5 f58 t58 s6 s7 s57 k6 l7D
    have bp := (hρ (ρ.getD av 0) (by rw [List.getD_eq_getElem?_getD, List.getElem?_eq_getElem (by omega)]; exact List.getElem_mem _))
    have bρ : ∀ r ∈ ρ, Bd 212 r := fun r hr => (hρ r hr).2.mono (by decide)
    walk_at "r"
    refine ⟨_, _, _, _, rfl, ivp8, hst8, bp.2.mono (by decide), bst.mono (by decide), fun H9 sv s9 hsv => ?_⟩
    have hsv : IsF K H9 sv (ρ.getD av 0 - st) := hsv
    walk_at "r"
    refine ⟨⟨_, .of (s9 _ _ X8)⟩, fun D3 nD3 => ?_⟩
    refine lc_tupP (R := IsF K) (fun _ _ _ _ f h => h.ts f) (f := fun i => (ρ[i]?).map fun r => r * Rat.divInt 3 2) nD3 (by omega) (.of (s9 _ _ X8)) (fun i v hv H' Q' N' s3 hy _ => ?_) fun Ha hla => ?_
    · obtain ⟨r, hr1, hr2⟩ := Paired.at hf8 hv
      walk_at "r"
      refine ⟨rfl, ?_⟩
      walk_at "r"
      intro q3 nq3
      have sq := same_upd (o := .tup [V.int 3, .int 2]) nq3
      have iq : IsF K (upd H' q3 (.tup [V.int 3, .int 2])) (.ref q3) (Rat.divInt 3 2) := isF_new (by decide +kernel) (by decide +kernel)
      generalize upd H' q3 (.tup [V.int 3, .int 2]) = Hq at *
      refine ⟨_, _, _, _, rfl, hr2.same (s9.trans (s3.trans sq)), iq, (hρ r (List.mem_of_getElem? hr1)).2.mono (by decide), Bd.mono (k := 2) (Bd.divInt (by decide) (by decide) (by decide)) (by decide), fun Hr v2 s4 h4 => ?_⟩
      exact hy _ _ _ (by show (ρ[i]?).map _ = _; rw [hr1]; rfl) (sq.trans s4) h4
    obtain ⟨sa, ys3, hD3, hys3⟩ := hla
    rw [ly, upTo_list] at hys3
    walk_at "r"
    refine ⟨_, _, rfl, .inl ⟨.of hD3, fun t3 nt3 => ?_⟩⟩
    have sb := same_upd (o := .tup ys3) nt3
    have ht3 : upd Ha t3 (.tup ys3) t3 = some (.tup ys3) := upd_same
    have s8b := s9.trans (sa.trans sb)
    have kb := k8.same s8b
    have t3D := (k8.same (s9.trans sa)).ne nt3
    have fs3 := Fs.same sb hys3
    generalize upd Ha t3 (.tup ys3) = Hb at *
    have jx3 : Jx K D Hb n (.ref t3) := jx_tup t3D ht3 fs3 n8 (by rw [List.length_map]; omega) fun r hr => by
      obtain ⟨r0, h0, rfl⟩ := List.mem_map.mp hr
      exact ((hρ r0 h0).2.mul (Bd.divInt (k := 2) (by decide) (by decide) (by decide))).mono (by decide)
    have Xb := s8b _ _ X8
    have hfb := Fs.same s8b hf8
    have ivpb := ivp8.same s8b
    have hstb := hst8.same s8b
    have owb := ow8.same s8b
    have jtb := jt8.same s8b
    have hsvb := hsv.same (sa.trans sb)
    have fb := f8.trans (Same.fw s8b)
    clear hD3 hys3 fs3 ht3 s9 sa sb s8b X8 hf8 ivp8 hst8 ow8 jt8 hsv f8 k8 nD3 nt3
    have dv0 : ∀ {H' : Hp} {p : Addr} {o : HO}, Same Hb H' → H' p = some o → (∀ xs, o ≠ .lst xs) → p ≠ D := fun s h hn e => by
      obtain ⟨cells, pl, rest, cnt, g0, g1, g2⟩ := kb
      rw [e, s _ _ g1] at h
      cases h
      exact hn _ rfl
    have cutV_take : cutV yx none (some (av : Int)) = yx.take av := cut_take yx av
    have cutV_back : cutV yx (some ((av : Int) + 1)) none = yx.drop (av + 1) := cut_back av
    have cutV_one : cutV yx (some 1) none = yx.drop 1 := cut_drop yx 1
    have ml : ∀ r ∈ ρ.take av, Bd 212 r := fun r hr => bρ r (List.mem_of_mem_take hr)
    have mr : ∀ r ∈ ρ.drop (av + 1), Bd 212 r := fun r hr => bρ r (List.mem_of_mem_drop hr)
    walk_at "r"
    refine rd_slA17 ((Same.refl Hb) _ _ Xb) fun p1 M2 s3 h4 => ?_
    have c5 : Same Hb M2 := s3
    rw [cutV_take] at h4
    walk_at "r"
    refine ⟨_, _, _, _, rfl, ivpb.same c5, hstb.same c5, bp.2.mono (by decide), bst.mono (by decide), fun Hadd vadd sadd hadd => ?_⟩
    have hadd : IsF K Hadd vadd (ρ.getD av 0 + st) := hadd
    have c6 : Same Hb Hadd := (c5).trans sadd
    have h4 := sadd _ _ h4
    walk_at "r"
    intro p7 np7
    have s9 := same_upd (o := .tup [vadd]) np7
    have h10 : upd Hadd p7 (.tup [vadd]) p7 = some (.tup [vadd]) := upd_same
    generalize upd Hadd p7 (.tup [vadd]) = M8 at *
    have c11 : Same Hb M8 := (c6).trans s9
    have h4 := s9 _ _ h4
    walk_at "r"
    refine rd_catN h4 h10 (by rw [sizeLine_eq]; show (yx.take av).length + 1 ≤ _; rw [List.length_take]; omega) fun p12 M13 s14 h15 => ?_
    have c16 : Same Hb M13 := (c11).trans s14
    walk_at "r"
    refine rd_slA17 ((c16) _ _ Xb) fun p17 M18 s19 h20 => ?_
    have c21 : Same Hb M18 := (c16).trans s19
    rw [cutV_back] at h20
    have h15 := s19 _ _ h15
    walk_at "r"
    refine rd_catN h15 h20 (by rw [sizeLine_eq]; rw [List.length_append, List.length_take, List.length_drop]; show min av yx.length + 1 + (yx.length - (av + 1)) ≤ _; omega) fun p22 M23 s24 h25 => ?_
    have c26 : Same Hb M23 := (c21).trans s24
    have hadd9 : IsF K M23 vadd (ρ.getD av 0 + st) := hadd.same ((((s9).trans s14).trans s19).trans s24)
    have j27 : Jx K D M23 n (.ref p22) := jx_tup (ρ := ρ.take av ++ [ρ.getD av 0 + st] ++ ρ.drop (av + 1)) (dv0 c26 h25 (fun xs e => by cases e)) h25 (fs_app (fs_app (fs_take (Fs.same c26 hfb) av) (.cons hadd9 .nil)) (fs_drop (Fs.same c26 hfb) (av + 1))) n8 (by rw [List.length_append, List.length_append, List.length_take, List.length_drop]; show min av ρ.length + 1 + (ρ.length - (av + 1)) ≤ 9; omega) fun r hr => by
      rcases List.mem_append.mp hr with hr | hr
      · rcases List.mem_append.mp hr with hr | hr
        · exact ml r hr
        · rw [List.mem_singleton.mp hr]
          exact (bp.2.add bst).mono (by decide)
      · exact mr r hr
    walk_at "r"
    refine rd_revT ?_
    walk_at "r"
    refine ⟨X, yx, rfl, .of ((c26) _ _ Xb), fun p28 np28 => ?_⟩
    have s30 := same_upd (o := .tup yx.reverse) np28
    have h31 : upd M23 p28 (.tup yx.reverse) p28 = some (.tup yx.reverse) := upd_same
    generalize upd M23 p28 (.tup yx.reverse) = M29 at *
    have c32 : Same Hb M29 := (c26).trans s30
    have j33 : Jx K D M29 n (.ref p28) := jx_tup (ρ := ρ.reverse) (dv0 c32 h31 (fun xs e => by cases e)) h31 (fs_rev (Fs.same c32 hfb)) n8 (by rw [List.length_reverse]; omega) fun r hr => bρ r (List.mem_reverse.mp hr)
    walk_at "r"
    refine rd_slA17 ((c32) _ _ Xb) fun p34 M35 s36 h37 => ?_
    have c38 : Same Hb M35 := (c32).trans s36
    rw [cutV_one] at h37
    have j39 : Jx K D M35 n (.ref p34) := jx_tup (ρ := ρ.drop 1) (dv0 c38 h37 (fun xs e => by cases e)) h37 (fs_drop (Fs.same c38 hfb) 1) n8 (by rw [List.length_drop]; omega) fun r hr => bρ r (List.mem_of_mem_drop hr)
    walk_at "r"
    refine rd_slA17 ((c38) _ _ Xb) fun p40 M41 s42 h43 => ?_
    have c44 : Same Hb M41 := (c38).trans s42
    rw [cutV_take] at h43
    walk_at "r"
    intro p45 np45
    have s47 := same_upd (o := .tup [sv]) np45
    have h48 : upd M41 p45 (.tup [sv]) p45 = some (.tup [sv]) := upd_same
    generalize upd M41 p45 (.tup [sv]) = M46 at *
    have c49 : Same Hb M46 := (c44).trans s47
    have h43 := s47 _ _ h43
    walk_at "r"
    refine rd_catN h43 h48 (by rw [sizeLine_eq]; show (yx.take av).length + 1 ≤ _; rw [List.length_take]; omega) fun p50 M51 s52 h53 => ?_
    have c54 : Same Hb M51 := (c49).trans s52
    walk_at "r"
    refine rd_slA17 ((c54) _ _ Xb) fun p55 M56 s57 h58 => ?_
    have c59 : Same Hb M56 := (c54).trans s57
    rw [cutV_back] at h58
    have h53 := s57 _ _ h53
    walk_at "r"
    refine rd_catN h53 h58 (by rw [sizeLine_eq]; rw [List.length_append, List.length_take, List.length_drop]; show min av yx.length + 1 + (yx.length - (av + 1)) ≤ _; omega) fun p60 M61 s62 h63 => ?_
    have c64 : Same Hb M61 := (c59).trans s62
    have j65 : Jx K D M61 n (.ref p60) := jx_tup (ρ := ρ.take av ++ [ρ.getD av 0 - st] ++ ρ.drop (av + 1)) (dv0 c64 h63 (fun xs e => by cases e)) h63 (fs_app (fs_app (fs_take (Fs.same c64 hfb) av) (.cons (hsvb.same c64) .nil)) (fs_drop (Fs.same c64 hfb) (av + 1))) n8 (by rw [List.length_append, List.length_append, List.length_take, List.length_drop]; show min av ρ.length + 1 + (ρ.length - (av + 1)) ≤ 9; omega) fun r hr => by
      rcases List.mem_append.mp hr with hr | hr
      · rcases List.mem_append.mp hr with hr | hr
        · exact ml r hr
        · rw [List.mem_singleton.mp hr]
          exact (bp.2.sub bst).mono (by decide)
      · exact mr r hr
    walk_at "r"
    refine ⟨_, _, rfl, .inr (.of ((c64) _ _ Xb)), fun p66 np66 => ?_⟩
    have p66D := (kb.same (c64)).ne np66
    have s68 := same_upd (o := .lst yx) np66
    have h69 : upd M61 p66 (.lst yx) p66 = some (.lst yx) := upd_same
    generalize upd M61 p66 (.lst yx) = M67 at *
    have c70 : Same Hb M67 := (c64).trans s68
    have j71 : Jx K D M67 n (.ref p66) := jx_no (ow_lst p66D h69).j
    walk_at "r"
    intro p72 np72
    have s74 := same_upd (o := .tup [V.int 1, .int 1]) np72
    have h75 : upd M67 p72 (.tup [V.int 1, .int 1]) p72 = some (.tup [V.int 1, .int 1]) := upd_same
    generalize upd M67 p72 (.tup [V.int 1, .int 1]) = M73 at *
    have c76 : Same Hb M73 := (c70).trans s74
    have one1 : IsF K M73 (.ref p72) 1 := ⟨p72, rfl, .inl h75⟩
    walk_at "r"
    intro p77 np77
    have s79 := same_upd (o := .tup [V.ref p72]) np77
    have h80 : upd M73 p77 (.tup [V.ref p72]) p77 = some (.tup [V.ref p72]) := upd_same
    generalize upd M73 p77 (.tup [V.ref p72]) = M78 at *
    have c81 : Same Hb M78 := (c76).trans s79
    have one2 := one1.same s79
    walk_at "r"
    refine rd_catN ((c81) _ _ Xb) h80 (by rw [sizeLine_eq]; show yx.length + 1 ≤ _; omega) fun p82 M83 s84 h85 => ?_
    have c86 : Same Hb M83 := (c81).trans s84
    have j87 : Jx K D M83 n (.ref p82) := jx_tup (ρ := ρ ++ [1]) (dv0 c86 h85 (fun xs e => by cases e)) h85 (fs_app (Fs.same c86 hfb) (.cons (one2.same s84) .nil)) n8 (by rw [List.length_append]; show ρ.length + 1 ≤ 9; omega) fun r hr => by
      rcases List.mem_append.mp hr with hr | hr
      · exact bρ r hr
      · rw [List.mem_singleton.mp hr]
        exact ⟨by show 1 < _; exact Nat.one_lt_two_pow (by decide), by show 1 < _; exact Nat.one_lt_two_pow (by decide)⟩
    walk_at "r"
    intro ml1 nml1
    have sml := same_upd (o := .lst [.ref X, .ref X, .ref t3, .ref p22, .ref p28, .ref p34, .ref p60, .ref p66, .ref p82, ov, ov]) nml1
    have hml : upd M83 ml1 (.lst [.ref X, .ref X, .ref t3, .ref p22, .ref p28, .ref p34, .ref p60, .ref p66, .ref p82, ov, ov]) ml1 = some (.lst [.ref X, .ref X, .ref t3, .ref p22, .ref p28, .ref p34, .ref p60, .ref p66, .ref p82, ov, ov]) := upd_same
    generalize upd M83 ml1 (.lst [.ref X, .ref X, .ref t3, .ref p22, .ref p28, .ref p34, .ref p60, .ref p66, .ref p82, ov, ov]) = Nm at *
    have c88 : Same Hb Nm := (c86).trans sml
    walk_at "r"
    refine rd_slA17 ((c88) _ _ Xb) fun p89 M90 s91 h92 => ?_
    have c93 : Same Hb M90 := (c88).trans s91
    rw [cutV_take] at h92
    walk_at "r"
    intro p94 np94
    have s96 := same_upd (o := .tup [ov]) np94
    have h97 : upd M90 p94 (.tup [ov]) p94 = some (.tup [ov]) := upd_same
    generalize upd M90 p94 (.tup [ov]) = M95 at *
    have c98 : Same Hb M95 := (c93).trans s96
    have h92 := s96 _ _ h92
    walk_at "r"
    refine rd_catN h92 h97 (by rw [sizeLine_eq]; show (yx.take av).length + 1 ≤ _; rw [List.length_take]; omega) fun p99 M100 s101 h102 => ?_
    have c103 : Same Hb M100 := (c98).trans s101
    walk_at "r"
    refine rd_slA17 ((c103) _ _ Xb) fun p104 M105 s106 h107 => ?_
    have c108 : Same Hb M105 := (c103).trans s106
    rw [cutV_back] at h107
    have h102 := s106 _ _ h102
    walk_at "r"
    refine rd_catN h102 h107 (by rw [sizeLine_eq]; rw [List.length_append, List.length_take, List.length_drop]; show min av yx.length + 1 + (yx.length - (av + 1)) ≤ _; omega) fun p109 M110 s111 h112 => ?_
    have c113 : Same Hb M110 := (c108).trans s111
    have jodd : JS K D M110 n (.ref p109) false := by
      obtain ⟨oo, ho1, ho2⟩ := (owb.same c113).f
      refine js_odd (os := (ρ.take av).map some ++ [oo] ++ (ρ.drop (av + 1)).map some) (dv0 c113 h112 (fun xs e => by cases e)) h112 (jf_app (jf_app (jfs_of (fs_take (Fs.same c113 hfb) av) fun r hr => (ml r hr).mono (by decide)) (.cons ho1 .nil)) (jfs_of (fs_drop (Fs.same c113 hfb) (av + 1)) fun r hr => (mr r hr).mono (by decide))) (by rw [List.length_append, List.length_append, List.length_take, List.length_drop]; show min av yx.length + 1 + (yx.length - (av + 1)) ≤ 20; omega) ?_
      rw [Bool.and_eq_false_iff]
      refine .inr ?_
      rw [List.all_append, List.all_append, show [oo].all sa = (sa oo && true) from rfl, ho2]
      simp
    walk_at "r"
    intro ol nol
    have sol := same_upd (o := .lst [V.ref p109]) nol
    have hol : upd M110 ol (.lst [V.ref p109]) ol = some (.lst [V.ref p109]) := upd_same
    generalize upd M110 ol (.lst [V.ref p109]) = No at *
    have c114 : Same Hb No := (c113).trans sol
    walk_at "r"
    refine ⟨ol, 4, _, rfl, rfl, hol, by decide, by decide, by rw [sizeLine_eq]; show 1 * 4 ≤ 16777216; decide, fun or4 nor => ?_⟩
    have sor := same_upd (o := .lst (List.replicate (4 : Int).toNat [V.ref p109]).flatten) nor
    have hor : upd No or4 (.lst (List.replicate (4 : Int).toNat [V.ref p109]).flatten) or4 = some (.lst [V.ref p109, .ref p109, .ref p109, .ref p109]) := upd_same
    generalize upd No or4 (.lst (List.replicate (4 : Int).toNat [V.ref p109]).flatten) = Np at *
    have c115 : Same Hb Np := (c114).trans sor
    refine ⟨ml1, or4, _, _, rfl, rfl, (((((((s91).trans s96).trans s101).trans s106).trans s111).trans sol).trans sor) _ _ hml, hor, by rw [sizeLine_eq]; show 11 + 4 ≤ 16777216; decide, fun m2 nm2 => ?_⟩
    have sm2 := same_upd (o := .lst ([.ref X, .ref X, .ref t3, .ref p22, .ref p28, .ref p34, .ref p60, .ref p66, .ref p82, ov, ov] ++ [V.ref p109, .ref p109, .ref p109, .ref p109])) nm2
    have hm2 : upd Np m2 (.lst ([.ref X, .ref X, .ref t3, .ref p22, .ref p28, .ref p34, .ref p60, .ref p66, .ref p82, ov, ov] ++ [V.ref p109, .ref p109, .ref p109, .ref p109])) m2 = some (.lst ([.ref X, .ref X, .ref t3, .ref p22, .ref p28, .ref p34, .ref p60, .ref p66, .ref p82, ov, ov] ++ [V.ref p109, .ref p109, .ref p109, .ref p109])) := upd_same
    have m2D := (kb.same c115).ne nm2
    generalize upd Np m2 (.lst ([.ref X, .ref X, .ref t3, .ref p22, .ref p28, .ref p34, .ref p60, .ref p66, .ref p82, ov, ov] ++ [V.ref p109, .ref p109, .ref p109, .ref p109])) = Nq at *
    have c116 : Same Hb Nq := (c115).trans sm2
    have all : ∀ v ∈ [.ref X, .ref X, .ref t3, .ref p22, .ref p28, .ref p34, .ref p60, .ref p66, .ref p82, ov, ov] ++ [V.ref p109, .ref p109, .ref p109, .ref p109], Jx K D Nq n v := fun v hv => by
      simp only [List.cons_append, List.nil_append, List.mem_cons, List.not_mem_nil, or_false] at hv
      rcases hv with rfl | rfl | rfl | rfl | rfl | rfl | rfl | rfl | rfl | rfl | rfl | rfl | rfl | rfl | rfl
      · exact ⟨_, jtb.same c116⟩
      · exact ⟨_, jtb.same c116⟩
      · exact jx3.same c116
      · exact j27.same ((((((((((((((((((((s30).trans s36).trans s42).trans s47).trans s52).trans s57).trans s62).trans s68).trans s74).trans s79).trans s84).trans sml).trans s91).trans s96).trans s101).trans s106).trans s111).trans sol).trans sor).trans sm2)
      · exact j33.same (((((((((((((((((((s36).trans s42).trans s47).trans s52).trans s57).trans s62).trans s68).trans s74).trans s79).trans s84).trans sml).trans s91).trans s96).trans s101).trans s106).trans s111).trans sol).trans sor).trans sm2)
      · exact j39.same ((((((((((((((((((s42).trans s47).trans s52).trans s57).trans s62).trans s68).trans s74).trans s79).trans s84).trans sml).trans s91).trans s96).trans s101).trans s106).trans s111).trans sol).trans sor).trans sm2)
      · exact j65.same (((((((((((((s68).trans s74).trans s79).trans s84).trans sml).trans s91).trans s96).trans s101).trans s106).trans s111).trans sol).trans sor).trans sm2)
      · exact j71.same ((((((((((((s74).trans s79).trans s84).trans sml).trans s91).trans s96).trans s101).trans s106).trans s111).trans sol).trans sor).trans sm2)
      · exact j87.same (((((((((sml).trans s91).trans s96).trans s101).trans s106).trans s111).trans sol).trans sor).trans sm2)
      · exact jx_no (owb.same c116).j
      · exact jx_no (owb.same c116).j
      · exact jx_no (jodd.same (((sol).trans sor).trans sm2))
      · exact jx_no (jodd.same (((sol).trans sor).trans sm2))
      · exact jx_no (jodd.same (((sol).trans sor).trans sm2))
      · exact jx_no (jodd.same (((sol).trans sor).trans sm2))
    walk_at "r"
    refine ⟨_, _, _, _, rfl, ⟨by decide, by decide⟩, kb.same c116, by omega, fun Hz rz wz kz az bz => ?_⟩
    obtain ⟨uv, huv, euv⟩ := at_any (xs := [.ref X, .ref X, .ref t3, .ref p22, .ref p28, .ref p34, .ref p60, .ref p66, .ref p82, ov, ov] ++ [V.ref p109, .ref p109, .ref p109, .ref p109]) az (by show rz < 11 + 4; omega)
    refine rd_ixL (wz _ _ m2D hm2) euv ?_
    have ju := (all uv huv).fw (kb.same c116) wz
    exact q _ _ ((fb.trans (Same.fw c116)).trans wz) (kz.mono (by omega)) ju
end
end My
namespace My
open PySem PySem.Spec PyProof.Rows L2
variable {K : PySem.W.Frag}
theorem fn_calm17 {P : Program} {w : World} {mg : Str → Option Value} {base : Heap} {CX : CXT} {k : Nat} {f : Addr} {fd : FuncData} {ps : List Str} {sp : Sp} (F : FnOk P w K mg base CX0 k f fd ps sp) : FnOk P w K mg base CX k f fd ps sp :=
  ⟨F.len, fun A outer s H args us vs Q E hr he hb hv hs => codeAny_mono (F.run A outer s H args us vs Q E hr he hb hv hs) fun r s' h => by
    unfold CR at h ⊢
    split at h
    · exact h
    · exact h.elim
    · exact h.elim⟩
section
variable {P : Program} {w : World} {K : PySem.W.Frag} {mg : Str → Option Value} {base : Heap} {f__wall f_is_integer f_is_row f_is_fraction f_is_amount f_is_some f_are_amounts f_added f_negated f_lessened f_multiplied f_divided f_squared f_summed f_lies_below f_is_stall f_hold_of f_stalls_of f_kept_of f_held f_roots f_check_purse f_check_wish f_may_stay f_table_of f_strike_row f_are_some f_filled_back f_in_order f_struck_in_turn f_scales f_is_scales f_l_deck f_l_pick f_l_divisor f_l_made f_l_added f_l_taken f_l_product f_l_amount f_l_stall f_l_held f_l_pulls f_l_edge f_l_deep f_l_changed f_l_are_some f_l_due f_l_is_judged f_l_word f_law f_Web_init f_Table_init f_Table_wrong_sign f_Table_behind f_Table_ties_without c_BadPurse c_BadWish c_Table c_Web c_ONE c_ZERO : Addr} {d__wall d_is_integer d_is_row d_is_fraction d_is_amount d_is_some d_are_amounts d_added d_negated d_lessened d_multiplied d_divided d_squared d_summed d_lies_below d_is_stall d_hold_of d_stalls_of d_kept_of d_held d_roots d_check_purse d_check_wish d_may_stay d_table_of d_strike_row d_are_some d_filled_back d_in_order d_struck_in_turn d_scales d_is_scales d_l_deck d_l_pick d_l_divisor d_l_made d_l_added d_l_taken d_l_product d_l_amount d_l_stall d_l_held d_l_pulls d_l_edge d_l_deep d_l_changed d_l_are_some d_l_due d_l_is_judged d_l_word d_law d_Web_init d_Table_init d_Table_wrong_sign d_Table_behind d_Table_ties_without : FuncData}
/-- is_scales of anything -/
def sp_is_scalesN (K : PySem.W.Frag) (C : Addr) : Sp := fun vs H Q _ => ∃ (x p v y : V) (D : Addr) (n : Nat) (ss : List Stl) (pu wi : List Rat), vs = [x, p, v, y] ∧ IsWeb K C H x n ss ∧ IsRow K H p pu ∧ IsRow K H v wi ∧ OkT n ss pu wi ∧ JS K D H n y false ∧ ∀ H', Same H H' → Q (.bl false) H'
theorem ok_is_scalesN (T : Txt K mg f__wall f_is_integer f_is_row f_is_fraction f_is_amount f_is_some f_are_amounts f_added f_negated f_lessened f_multiplied f_divided f_squared f_summed f_lies_below f_is_stall f_hold_of f_stalls_of f_kept_of f_held f_roots f_check_purse f_check_wish f_may_stay f_table_of f_strike_row f_are_some f_filled_back f_in_order f_struck_in_turn f_scales f_is_scales f_l_deck f_l_pick f_l_divisor f_l_made f_l_added f_l_taken f_l_product f_l_amount f_l_stall f_l_held f_l_pulls f_l_edge f_l_deep f_l_changed f_l_are_some f_l_due f_l_is_judged f_l_word f_law f_Web_init f_Table_init f_Table_wrong_sign f_Table_behind f_Table_ties_without c_BadPurse c_BadWish c_Table c_Web c_ONE c_ZERO d__wall d_is_integer d_is_row d_is_fraction d_is_amount d_is_some d_are_amounts d_added d_negated d_lessened d_multiplied d_divided d_squared d_summed d_lies_below d_is_stall d_hold_of d_stalls_of d_kept_of d_held d_roots d_check_purse d_check_wish d_may_stay d_table_of d_strike_row d_are_some d_filled_back d_in_order d_struck_in_turn d_scales d_is_scales d_l_deck d_l_pick d_l_divisor d_l_made d_l_added d_l_taken d_l_product d_l_amount d_l_stall d_l_held d_l_pulls d_l_edge d_l_deep d_l_changed d_l_are_some d_l_due d_l_is_judged d_l_word d_law d_Web_init d_Table_init d_Table_wrong_sign d_Table_behind d_Table_ties_without) : FnOk P w K mg base CX0 6 f_is_scales d_is_scales ["web", "purse", "wish", "thing"] (sp_is_scalesN K c_Web) := by
  have G_check_purse : FnOk P w K mg base CX0 5 f_check_purse d_check_purse ["web", "purse"] (sp_check_purse K c_Web) := ok_check_purse T
  have G_check_wish : FnOk P w K mg base CX0 5 f_check_wish d_check_wish ["web", "wish"] (sp_check_wish K c_Web) := ok_check_wish T
  have G_are_some : FnOk P w K mg base CX0 5 f_are_some d_are_some ["things", "number"] (sp_are_someJ K) := ok_are_someJ T
  have G_may_stay : FnOk P w K mg base CX0 5 f_may_stay d_may_stay ["web", "purse", "wish"] (sp_may_stay K c_Web) := ok_may_stay T
  have G_roots : FnOk P w K mg base CX0 2 f_roots d_roots ["web"] (sp_roots K c_Web) := ok_roots T
  have G_multiplied : FnOk P w K mg base CX0 1 f_multiplied d_multiplied ["one", "other"] (sp_multiplied K) := ok_multiplied T
  have G_summed : FnOk P w K mg base CX0 2 f_summed d_summed ["fractions"] (sp_summedG K) := ok_summedG T
  have G_lies_below : FnOk P w K mg base CX0 1 f_lies_below d_lies_below ["one", "other"] (sp_below K) := ok_lies_below T
  refine T.F_is_scales.ok sc_is_scales (fun vs H Q E h => ?_) (fun cdv A outer s H vs Q E hr h => ?_)
  · obtain ⟨x, p, v, y, D, n, ss, pu, wi, rfl, _⟩ := h
    rfl
  · obtain ⟨x, p, v, y, D, n, ss, pu, wi, rfl, hw, hp, hv, ok, hy, q⟩ := h
    have n8 := ok.n8
    refine ⟨_, (pss_cons (ps_expr (pe_call G_check_purse (hr.mono (by decide)) (by rfl) T.g_check_purse T.k_check_purse T.b_check_purse .nil pass0 (pa_cons (pv 0) (pa_cons (pv 1) pa_nil))))
      (pss_cons (ps_expr (pe_call G_check_wish (hr.mono (by decide)) (by rfl) T.g_check_wish T.k_check_wish T.b_check_wish .nil pass0 (pa_cons (pv 0) (pa_cons (pv 2) pa_nil))))
      (pss_cons (ps_if (pt_not (pt_val (pe_call G_are_some (hr.mono (by decide)) (by rfl) T.g_are_some T.k_are_some T.b_are_some .nil pass0 (pa_cons (pv 3) (pa_cons (pe_fld (pv 0) rfl) pa_nil)))))
        (pss_one (ps_ret pe_bl))
        pss_nil)
      (pss_cons (ps_set (i := 4) sc_is_scales.nd rfl (by first | exact Or.inl rfl | exact Or.inr rfl) (pe_call G_may_stay (hr.mono (by decide)) (by rfl) T.g_may_stay T.k_may_stay T.b_may_stay .nil pass0 (pa_cons (pv 0) (pa_cons (pv 1) (pa_cons (pv 2) pa_nil)))))
      (pss_cons (ps_set (i := 5) sc_is_scales.nd rfl (by first | exact Or.inl rfl | exact Or.inr rfl) (pe_call G_roots (hr.mono (by decide)) (by rfl) T.g_roots T.k_roots T.b_roots .nil pass0 (pa_cons (pv 0) pa_nil)))
      (pss_cons (ps_for PassesOwn.never rfl (pi_range1 (by rfl) T.z_range (pa_cons (pe_fld (pv 0) rfl) pa_nil)) (pg_name (i := 6) sc_is_scales.nd rfl (by first | exact Or.inl rfl | exact Or.inr rfl))
        (pss_cons (ps_setLc (i := 7) (own := [("other", 8)]) (g := gName 8) rfl sc_is_scales.nd rfl rfl (sw_true rfl rfl rfl (by decide +kernel)) (pi_range1 (by rfl) T.z_range (pa_cons (pe_fld (pv 0) rfl) pa_nil)) (blkOk_by (own := [("other", 8)]) (N := N_is_scales) (sc := defScope s_is_scales) (by decide +kernel)) (fun _ _ _ _ _ => (pg_name (i := 8) sc_is_scales.nd rfl (by first | exact Or.inl rfl | exact Or.inr rfl))) (fun _ _ _ _ _ => pts_nil) (fun _ _ _ _ _ => (pe_call G_multiplied (hr.mono (by decide)) (by rfl) T.g_multiplied T.k_multiplied T.b_multiplied .nil pass0 (pa_cons (pe_ix (My.ix_tupK (K := K) (by rfl)) (pe_ix (My.ix_tupK (K := K) (by rfl)) (pv 5) (pv 6) (fun _ _ => rfl)) (pv 8) (fun _ _ => rfl)) (pa_cons (pe_ix (My.ix_tupK (K := K) (by rfl)) (pv 3) (pv 8) (fun _ _ => rfl)) pa_nil)))))
          (pss_one (ps_if (pt_val (pe_call G_lies_below (hr.mono (by decide)) (by rfl) T.g_lies_below T.k_lies_below T.b_lies_below .nil pass0 (pa_cons (pe_call G_multiplied (hr.mono (by decide)) (by rfl) T.g_multiplied T.k_multiplied T.b_multiplied .nil pass0 (pa_cons (pe_ix ix_list (pv 4) (pv 6) (fun _ _ => rfl)) (pa_cons (pe_ix ix_tup (pv 3) (pv 6) (fun _ _ => rfl)) pa_nil))) (pa_cons (pe_call G_summed (hr.mono (by decide)) (by rfl) T.g_summed T.k_summed T.b_summed .nil pass0 (pa_cons (pv 7) pa_nil)) pa_nil))))
            (pss_one (ps_ret pe_bl))
            pss_nil))))
      (pss_one (ps_ret pe_bl)))))))), ?_⟩
    walk_at "r"
    refine ⟨x, p, n, ss, pu, rfl, hw, hp, ok.lp, n8, ok.p0, fun H1 s1 => ?_⟩
    walk_at "r"
    refine ⟨x, v, n, ss, wi, rfl, hw.same s1, hv.same s1, ok.lw, n8, ok.w0, fun H2 s2 => ?_⟩
    have k2 := s1.trans s2
    obtain ⟨pw, dx, t, xs, rfl, hpw, htw⟩ := id hw
    walk_at "r"
    refine ⟨_, _, _, _, _, rfl, k2 _ _ hpw, T.w_Web.it.cl, T.n_Web_wares, wF_wares _ _, ?_⟩
    walk_at "r"
    refine ⟨y, D, n, false, rfl, hy.same k2, fun H3 s3 => ?_⟩
    walk_at "r"
    exact q _ (k2.trans s3)
def sp_lis_judged (K : PySem.W.Frag) (C : Addr) : Sp := fun vs H Q _ => ∃ (x v : V) (D Lp Lw : Addr) (n : Nat) (ss : List Stl) (pu wi : List Rat) (yp yw : List V), vs = [x, .ref Lp, .ref Lw, v] ∧ IsWeb K C H x n ss ∧ (∀ s ∈ ss, Ok16 n s) ∧ H Lp = some (.lst yp) ∧ Fs K H yp pu ∧ H Lw = some (.lst yw) ∧ Fs K H yw wi ∧ OkT n ss pu wi ∧ Jx K D H n v ∧
  ∀ H', Same H H' → Q (.bl true) H'
theorem ok_l_is_judged (T : Txt K mg f__wall f_is_integer f_is_row f_is_fraction f_is_amount f_is_some f_are_amounts f_added f_negated f_lessened f_multiplied f_divided f_squared f_summed f_lies_below f_is_stall f_hold_of f_stalls_of f_kept_of f_held f_roots f_check_purse f_check_wish f_may_stay f_table_of f_strike_row f_are_some f_filled_back f_in_order f_struck_in_turn f_scales f_is_scales f_l_deck f_l_pick f_l_divisor f_l_made f_l_added f_l_taken f_l_product f_l_amount f_l_stall f_l_held f_l_pulls f_l_edge f_l_deep f_l_changed f_l_are_some f_l_due f_l_is_judged f_l_word f_law f_Web_init f_Table_init f_Table_wrong_sign f_Table_behind f_Table_ties_without c_BadPurse c_BadWish c_Table c_Web c_ONE c_ZERO d__wall d_is_integer d_is_row d_is_fraction d_is_amount d_is_some d_are_amounts d_added d_negated d_lessened d_multiplied d_divided d_squared d_summed d_lies_below d_is_stall d_hold_of d_stalls_of d_kept_of d_held d_roots d_check_purse d_check_wish d_may_stay d_table_of d_strike_row d_are_some d_filled_back d_in_order d_struck_in_turn d_scales d_is_scales d_l_deck d_l_pick d_l_divisor d_l_made d_l_added d_l_taken d_l_product d_l_amount d_l_stall d_l_held d_l_pulls d_l_edge d_l_deep d_l_changed d_l_are_some d_l_due d_l_is_judged d_l_word d_law d_Web_init d_Table_init d_Table_wrong_sign d_Table_behind d_Table_ties_without) : FnOk P w K mg base CX0 7 f_l_is_judged d_l_is_judged ["_law_web", "_law_purse", "_law_wish", "_law_thing"] (sp_lis_judged K c_Web) := by
  have G_l_due : FnOk P w K mg base CX0 5 f_l_due d_l_due ["_law_web", "_law_purse", "_law_wish", "_law_thing"] (sp_ldue17 K c_Web) := ok_l_due T
  have G_is_scales : FnOk P w K mg base CX0 6 f_is_scales d_is_scales ["web", "purse", "wish", "thing"] (fun vs H Q E => sp_is_scales K c_Web vs H Q E ∨ sp_is_scalesN K c_Web vs H Q E) := fn_or (ok_is_scales T) (ok_is_scalesN T)
  refine T.F_l_is_judged.ok sc_l_is_judged (fun vs H Q E h => ?_) (fun cdv A outer s H vs Q E hr h => ?_)
  · obtain ⟨x, v, D, Lp, Lw, n, ss, pu, wi, yp, yw, rfl, _⟩ := h
    rfl
  · obtain ⟨x, v, D, Lp, Lw, n, ss, pu, wi, yp, yw, rfl, hw, ok, hLp, hyp, hLw, hyw, ot, ⟨o, jt⟩, q⟩ := h
    have hp : IsRow K H (.ref Lp) pu := ⟨Lp, yp, rfl, .inl hLp, hyp⟩
    have hv : IsRow K H (.ref Lw) wi := ⟨Lw, yw, rfl, .inl hLw, hyw⟩
    have oks : ∀ s ∈ ss, OkSt n s := fun s hs => (ok s hs).toOkSt
    refine ⟨_, (pss_cons (ps_if (pt_val (pe_call G_l_due (hr.mono (by decide)) (by rfl) T.g_l_due T.k_l_due T.b_l_due .nil pass0 (pa_cons (pv 0) (pa_cons (pv 1) (pa_cons (pv 2) (pa_cons (pv 3) pa_nil))))))
        (pss_one (ps_ret (pe_cmpR op_isBl (pe_call G_is_scales (hr.mono (by decide)) (by rfl) T.g_is_scales T.k_is_scales T.b_is_scales .nil pass0 (pa_cons (pv 0) (pa_cons (pv 1) (pa_cons (pv 2) (pa_cons (pv 3) pa_nil))))) pe_bl (nomark _))))
        pss_nil)
      (pss_one (ps_ret (pe_cmpR op_isBl (pe_call G_is_scales (hr.mono (by decide)) (by rfl) T.g_is_scales T.k_is_scales T.b_is_scales .nil pass0 (pa_cons (pv 0) (pa_cons (pv 1) (pa_cons (pv 2) (pa_cons (pv 3) pa_nil))))) pe_bl (nomark _))))), ?_⟩
    walk_at "r"
    refine ⟨x, v, D, Lp, Lw, n, ss, pu, wi, yp, yw, o, rfl, hw, ok, hLp, hyp, hLw, hyw, ot, jt, fun H1 s1 => ?_⟩
    have jt1 := jt.same s1
    cases o with
    | none =>
      rw [show meetB n ss pu wi none = false from rfl]
      walk_at "r"
      refine .inr ⟨x, _, _, v, D, n, ss, pu, wi, rfl, hw.same s1, hp.same s1, hv.same s1, ot, jt1.j, fun H2 s2 => ?_⟩
      walk_at "r"
      exact q _ (s1.trans s2)
    | some ρ =>
      obtain ⟨hf, okA, pos⟩ := jt1.r ρ rfl
      have mi := meet_iff (pu := pu) (wi := wi) oks okA.len pos
      cases hm : meetB n ss pu wi (some ρ) with
      | true =>
        walk_at "r"
        refine .inl ⟨x, _, _, v, n, ss, pu, wi, ρ, rfl, hw.same s1, hp.same s1, hv.same s1, ot, hf, okA, fun H2 b s2 hb => ?_⟩
        have eb : b = true := hb.mpr (mi.mpr hm)
        subst eb
        walk_at "r"
        exact q _ (s1.trans s2)
      | false =>
        walk_at "r"
        refine .inl ⟨x, _, _, v, n, ss, pu, wi, ρ, rfl, hw.same s1, hp.same s1, hv.same s1, ot, hf, okA, fun H2 b s2 hb => ?_⟩
        have eb : b = false := by
          cases b with
          | false => rfl
          | true =>
            have := mi.mp (hb.mp rfl)
            rw [hm] at this
            cases this
        subst eb
        walk_at "r"
        exact q _ (s1.trans s2)
/-- rows of too few amounts -/
def sp_check_rowL (K : PySem.W.Frag) (C CB : Addr) : Sp := fun vs H Q E => ∃ (x : V) (L : Addr) (n : Nat) (ss : List Stl) (ys : List V) (rs : List Rat), vs = [x, .ref L] ∧ IsWeb K C H x n ss ∧ H L = some (.lst ys) ∧ Fs K H ys rs ∧ rs.length ≠ n ∧ ys.length ≤ 20 ∧ (∀ r ∈ rs, Bd 2200 r) ∧ ∀ H', Same H H' → E (.ref CB) none H'
theorem ok_check_purseX (T : Txt K mg f__wall f_is_integer f_is_row f_is_fraction f_is_amount f_is_some f_are_amounts f_added f_negated f_lessened f_multiplied f_divided f_squared f_summed f_lies_below f_is_stall f_hold_of f_stalls_of f_kept_of f_held f_roots f_check_purse f_check_wish f_may_stay f_table_of f_strike_row f_are_some f_filled_back f_in_order f_struck_in_turn f_scales f_is_scales f_l_deck f_l_pick f_l_divisor f_l_made f_l_added f_l_taken f_l_product f_l_amount f_l_stall f_l_held f_l_pulls f_l_edge f_l_deep f_l_changed f_l_are_some f_l_due f_l_is_judged f_l_word f_law f_Web_init f_Table_init f_Table_wrong_sign f_Table_behind f_Table_ties_without c_BadPurse c_BadWish c_Table c_Web c_ONE c_ZERO d__wall d_is_integer d_is_row d_is_fraction d_is_amount d_is_some d_are_amounts d_added d_negated d_lessened d_multiplied d_divided d_squared d_summed d_lies_below d_is_stall d_hold_of d_stalls_of d_kept_of d_held d_roots d_check_purse d_check_wish d_may_stay d_table_of d_strike_row d_are_some d_filled_back d_in_order d_struck_in_turn d_scales d_is_scales d_l_deck d_l_pick d_l_divisor d_l_made d_l_added d_l_taken d_l_product d_l_amount d_l_stall d_l_held d_l_pulls d_l_edge d_l_deep d_l_changed d_l_are_some d_l_due d_l_is_judged d_l_word d_law d_Web_init d_Table_init d_Table_wrong_sign d_Table_behind d_Table_ties_without) : FnOk P w K mg base (L2.CX P w) 5 f_check_purse d_check_purse ["web", "purse"] (sp_check_rowL K c_Web c_BadPurse) := by
  have G_is_row : FnOk P w K mg base CX0 1 f_is_row d_is_row ["thing"] sp_is_row := ok_is_row T
  have G_are_amounts : FnOk P w K mg base CX0 4 f_are_amounts d_are_amounts ["things", "number"] (sp_are_amountsJ K) := ok_are_amountsJ T
  refine T.F_check_purse.okX sc_check_purse (fun vs H Q E h => ?_) (fun cdv A outer s H vs Q E hr h => ?_)
  · obtain ⟨x, L, n, ss, ys, rs, rfl, _⟩ := h
    rfl
  · obtain ⟨x, L, n, ss, ys, rs, rfl, hw, hL, hf, hn, l20, hb, e⟩ := h
    refine ⟨_, (pss_one (ps_if (PW.pt (pw_or (pt_not (pt_val (pe_call G_is_row (hr.mono (by decide)) (by rfl) T.g_is_row T.k_is_row T.b_is_row .nil pass0 (pa_cons (pv 1) pa_nil)))) (pw_or1 (pt_not (pt_val (pe_call G_are_amounts (hr.mono (by decide)) (by rfl) T.g_are_amounts T.k_are_amounts T.b_are_amounts .nil pass0 (pa_cons (pv 1) (pa_cons (pe_fld (pv 0) rfl) pa_nil))))))))
        (pss_one (ps_raise0 rfl T.c_BadPurse (takes_of rfl rfl rfl rfl)))
        pss_nil)), ?_⟩
    have hl := hf.len
    walk_at "r"
    refine ⟨L, ys, rfl, .inl hL, fun H1 s1 => ?_⟩
    obtain ⟨px, dx, t, xs, rfl, hp, ht, hss⟩ := hw.same s1
    walk_at "r"
    refine ⟨_, _, _, _, _, rfl, hp, T.w_Web.it.cl, T.n_Web_wares, wF_wares _ _, ?_⟩
    walk_at "r"
    refine ⟨L, px, n, ys, rs.map some, rfl, .inl (.of (s1 _ _ hL)), jfs_of (Fs.same s1 hf) hb, l20, fun H2 s2 => ?_⟩
    rw [decide_eq_false (show ¬ ys.length = n by omega), Bool.false_and]
    walk_at "r"
    exact e _ (s1.trans s2)
theorem ok_check_wishX (T : Txt K mg f__wall f_is_integer f_is_row f_is_fraction f_is_amount f_is_some f_are_amounts f_added f_negated f_lessened f_multiplied f_divided f_squared f_summed f_lies_below f_is_stall f_hold_of f_stalls_of f_kept_of f_held f_roots f_check_purse f_check_wish f_may_stay f_table_of f_strike_row f_are_some f_filled_back f_in_order f_struck_in_turn f_scales f_is_scales f_l_deck f_l_pick f_l_divisor f_l_made f_l_added f_l_taken f_l_product f_l_amount f_l_stall f_l_held f_l_pulls f_l_edge f_l_deep f_l_changed f_l_are_some f_l_due f_l_is_judged f_l_word f_law f_Web_init f_Table_init f_Table_wrong_sign f_Table_behind f_Table_ties_without c_BadPurse c_BadWish c_Table c_Web c_ONE c_ZERO d__wall d_is_integer d_is_row d_is_fraction d_is_amount d_is_some d_are_amounts d_added d_negated d_lessened d_multiplied d_divided d_squared d_summed d_lies_below d_is_stall d_hold_of d_stalls_of d_kept_of d_held d_roots d_check_purse d_check_wish d_may_stay d_table_of d_strike_row d_are_some d_filled_back d_in_order d_struck_in_turn d_scales d_is_scales d_l_deck d_l_pick d_l_divisor d_l_made d_l_added d_l_taken d_l_product d_l_amount d_l_stall d_l_held d_l_pulls d_l_edge d_l_deep d_l_changed d_l_are_some d_l_due d_l_is_judged d_l_word d_law d_Web_init d_Table_init d_Table_wrong_sign d_Table_behind d_Table_ties_without) : FnOk P w K mg base (L2.CX P w) 5 f_check_wish d_check_wish ["web", "wish"] (sp_check_rowL K c_Web c_BadWish) := by
  have G_is_row : FnOk P w K mg base CX0 1 f_is_row d_is_row ["thing"] sp_is_row := ok_is_row T
  have G_are_amounts : FnOk P w K mg base CX0 4 f_are_amounts d_are_amounts ["things", "number"] (sp_are_amountsJ K) := ok_are_amountsJ T
  refine T.F_check_wish.okX sc_check_wish (fun vs H Q E h => ?_) (fun cdv A outer s H vs Q E hr h => ?_)
  · obtain ⟨x, L, n, ss, ys, rs, rfl, _⟩ := h
    rfl
  · obtain ⟨x, L, n, ss, ys, rs, rfl, hw, hL, hf, hn, l20, hb, e⟩ := h
    refine ⟨_, (pss_one (ps_if (PW.pt (pw_or (pt_not (pt_val (pe_call G_is_row (hr.mono (by decide)) (by rfl) T.g_is_row T.k_is_row T.b_is_row .nil pass0 (pa_cons (pv 1) pa_nil)))) (pw_or1 (pt_not (pt_val (pe_call G_are_amounts (hr.mono (by decide)) (by rfl) T.g_are_amounts T.k_are_amounts T.b_are_amounts .nil pass0 (pa_cons (pv 1) (pa_cons (pe_fld (pv 0) rfl) pa_nil))))))))
        (pss_one (ps_raise0 rfl T.c_BadWish (takes_of rfl rfl rfl rfl)))
        pss_nil)), ?_⟩
    have hl := hf.len
    walk_at "r"
    refine ⟨L, ys, rfl, .inl hL, fun H1 s1 => ?_⟩
    obtain ⟨px, dx, t, xs, rfl, hp, ht, hss⟩ := hw.same s1
    walk_at "r"
    refine ⟨_, _, _, _, _, rfl, hp, T.w_Web.it.cl, T.n_Web_wares, wF_wares _ _, ?_⟩
    walk_at "r"
    refine ⟨L, px, n, ys, rs.map some, rfl, .inl (.of (s1 _ _ hL)), jfs_of (Fs.same s1 hf) hb, l20, fun H2 s2 => ?_⟩
    rw [decide_eq_false (show ¬ ys.length = n by omega), Bool.false_and]
    walk_at "r"
    exact e _ (s1.trans s2)
/-- is_scales: what is raised, the first of both -/
def sp_is_scalesX (K : PySem.W.Frag) (C CP CW : Addr) : Sp := fun vs H Q E => ∃ (x y : V) (Lp Lw : Addr) (n : Nat) (ss : List Stl) (pu wi : List Rat) (yp yw : List V) (b : Bool), vs = [x, .ref Lp, .ref Lw, y] ∧ IsWeb K C H x n ss ∧ n ≤ 8 ∧ H Lp = some (.lst yp) ∧ Fs K H yp pu ∧ H Lw = some (.lst yw) ∧ Fs K H yw wi ∧ wi.length ≠ n ∧ yw.length ≤ 20 ∧ (∀ r ∈ wi, Bd 2200 r) ∧
  (b = true → pu.length ≠ n ∧ yp.length ≤ 20 ∧ (∀ r ∈ pu, Bd 2200 r)) ∧ (b = false → pu.length = n ∧ ∀ r ∈ pu, 0 ≤ r) ∧ ∀ H', Same H H' → E (.ref (if b = true then CP else CW)) none H'
theorem ok_is_scalesX (T : Txt K mg f__wall f_is_integer f_is_row f_is_fraction f_is_amount f_is_some f_are_amounts f_added f_negated f_lessened f_multiplied f_divided f_squared f_summed f_lies_below f_is_stall f_hold_of f_stalls_of f_kept_of f_held f_roots f_check_purse f_check_wish f_may_stay f_table_of f_strike_row f_are_some f_filled_back f_in_order f_struck_in_turn f_scales f_is_scales f_l_deck f_l_pick f_l_divisor f_l_made f_l_added f_l_taken f_l_product f_l_amount f_l_stall f_l_held f_l_pulls f_l_edge f_l_deep f_l_changed f_l_are_some f_l_due f_l_is_judged f_l_word f_law f_Web_init f_Table_init f_Table_wrong_sign f_Table_behind f_Table_ties_without c_BadPurse c_BadWish c_Table c_Web c_ONE c_ZERO d__wall d_is_integer d_is_row d_is_fraction d_is_amount d_is_some d_are_amounts d_added d_negated d_lessened d_multiplied d_divided d_squared d_summed d_lies_below d_is_stall d_hold_of d_stalls_of d_kept_of d_held d_roots d_check_purse d_check_wish d_may_stay d_table_of d_strike_row d_are_some d_filled_back d_in_order d_struck_in_turn d_scales d_is_scales d_l_deck d_l_pick d_l_divisor d_l_made d_l_added d_l_taken d_l_product d_l_amount d_l_stall d_l_held d_l_pulls d_l_edge d_l_deep d_l_changed d_l_are_some d_l_due d_l_is_judged d_l_word d_law d_Web_init d_Table_init d_Table_wrong_sign d_Table_behind d_Table_ties_without) : FnOk P w K mg base (L2.CX P w) 6 f_is_scales d_is_scales ["web", "purse", "wish", "thing"] (sp_is_scalesX K c_Web c_BadPurse c_BadWish) := by
  have G_check_purse : FnOk P w K mg base (L2.CX P w) 5 f_check_purse d_check_purse ["web", "purse"] (fun vs H Q E => sp_check_purse K c_Web vs H Q E ∨ sp_check_rowL K c_Web c_BadPurse vs H Q E) := fn_or (fn_calm17 (ok_check_purse T)) (ok_check_purseX T)
  have G_check_wish : FnOk P w K mg base (L2.CX P w) 5 f_check_wish d_check_wish ["web", "wish"] (sp_check_rowL K c_Web c_BadWish) := ok_check_wishX T
  have G_are_some : FnOk P w K mg base CX0 5 f_are_some d_are_some ["things", "number"] (sp_are_someJ K) := ok_are_someJ T
  have G_may_stay : FnOk P w K mg base CX0 5 f_may_stay d_may_stay ["web", "purse", "wish"] (sp_may_stay K c_Web) := ok_may_stay T
  have G_roots : FnOk P w K mg base CX0 2 f_roots d_roots ["web"] (sp_roots K c_Web) := ok_roots T
  have G_multiplied : FnOk P w K mg base CX0 1 f_multiplied d_multiplied ["one", "other"] (sp_multiplied K) := ok_multiplied T
  have G_summed : FnOk P w K mg base CX0 2 f_summed d_summed ["fractions"] (sp_summedG K) := ok_summedG T
  have G_lies_below : FnOk P w K mg base CX0 1 f_lies_below d_lies_below ["one", "other"] (sp_below K) := ok_lies_below T
  refine T.F_is_scales.okX sc_is_scales (fun vs H Q E h => ?_) (fun cdv A outer s H vs Q E hr h => ?_)
  · obtain ⟨x, y, Lp, Lw, n, ss, pu, wi, yp, yw, b, rfl, _⟩ := h
    rfl
  · obtain ⟨x, y, Lp, Lw, n, ss, pu, wi, yp, yw, b, rfl, hw, n8, hLp, hyp, hLw, hyw, ln, l20, bw, h1, h2, e⟩ := h
    refine ⟨_, (pss_cons (ps_expr (pe_callS G_check_purse (hr.mono (by decide)) (by rfl) T.g_check_purse T.k_check_purse T.b_check_purse (fun σ => passAt (takes_of rfl rfl rfl rfl) σ) (pa_cons (pv 0) (pa_cons (pv 1) pa_nil))))
      (pss_cons (ps_expr (pe_callS G_check_wish (hr.mono (by decide)) (by rfl) T.g_check_wish T.k_check_wish T.b_check_wish (fun σ => passAt (takes_of rfl rfl rfl rfl) σ) (pa_cons (pv 0) (pa_cons (pv 2) pa_nil))))
      (pss_cons (ps_if (pt_not (pt_val (pe_call G_are_some (hr.mono (by decide)) (by rfl) T.g_are_some T.k_are_some T.b_are_some .nil pass0 (pa_cons (pv 3) (pa_cons (pe_fld (pv 0) rfl) pa_nil)))))
        (pss_one (ps_ret pe_bl))
        pss_nil)
      (pss_cons (ps_set (i := 4) sc_is_scales.nd rfl (by first | exact Or.inl rfl | exact Or.inr rfl) (pe_call G_may_stay (hr.mono (by decide)) (by rfl) T.g_may_stay T.k_may_stay T.b_may_stay .nil pass0 (pa_cons (pv 0) (pa_cons (pv 1) (pa_cons (pv 2) pa_nil)))))
      (pss_cons (ps_set (i := 5) sc_is_scales.nd rfl (by first | exact Or.inl rfl | exact Or.inr rfl) (pe_call G_roots (hr.mono (by decide)) (by rfl) T.g_roots T.k_roots T.b_roots .nil pass0 (pa_cons (pv 0) pa_nil)))
      (pss_cons (ps_for (passes_of rfl) rfl (pi_range1 (by rfl) T.z_range (pa_cons (pe_fld (pv 0) rfl) pa_nil)) (pg_name (i := 6) sc_is_scales.nd rfl (by first | exact Or.inl rfl | exact Or.inr rfl))
        (pss_cons (ps_setLc (i := 7) (own := [("other", 8)]) (g := gName 8) rfl sc_is_scales.nd rfl rfl (sw_true rfl rfl rfl (by decide +kernel)) (pi_range1 (by rfl) T.z_range (pa_cons (pe_fld (pv 0) rfl) pa_nil)) (blkOk_by (own := [("other", 8)]) (N := N_is_scales) (sc := defScope s_is_scales) (by decide +kernel)) (fun _ _ _ _ _ => (pg_name (i := 8) sc_is_scales.nd rfl (by first | exact Or.inl rfl | exact Or.inr rfl))) (fun _ _ _ _ _ => pts_nil) (fun _ _ _ _ _ => (pe_call G_multiplied (hr.mono (by decide)) (by rfl) T.g_multiplied T.k_multiplied T.b_multiplied .nil pass0 (pa_cons (pe_ix (My.ix_tupK (K := K) (by rfl)) (pe_ix (My.ix_tupK (K := K) (by rfl)) (pv 5) (pv 6) (fun _ _ => rfl)) (pv 8) (fun _ _ => rfl)) (pa_cons (pe_ix (My.ix_tupK (K := K) (by rfl)) (pv 3) (pv 8) (fun _ _ => rfl)) pa_nil)))))
          (pss_one (ps_if (pt_val (pe_call G_lies_below (hr.mono (by decide)) (by rfl) T.g_lies_below T.k_lies_below T.b_lies_below .nil pass0 (pa_cons (pe_call G_multiplied (hr.mono (by decide)) (by rfl) T.g_multiplied T.k_multiplied T.b_multiplied .nil pass0 (pa_cons (pe_ix ix_list (pv 4) (pv 6) (fun _ _ => rfl)) (pa_cons (pe_ix ix_tup (pv 3) (pv 6) (fun _ _ => rfl)) pa_nil))) (pa_cons (pe_call G_summed (hr.mono (by decide)) (by rfl) T.g_summed T.k_summed T.b_summed .nil pass0 (pa_cons (pv 7) pa_nil)) pa_nil))))
            (pss_one (ps_ret pe_bl))
            pss_nil))))
      (pss_one (ps_ret pe_bl)))))))), ?_⟩
    walk_at "r"
    cases b with
    | true =>
      obtain ⟨g1, g2, g3⟩ := h1 rfl
      exact .inr ⟨x, Lp, n, ss, yp, pu, rfl, hw, hLp, hyp, g1, g2, g3, fun H' s1 => e _ s1⟩
    | false =>
      obtain ⟨g1, g2⟩ := h2 rfl
      refine .inl ⟨x, _, n, ss, pu, rfl, hw, ⟨Lp, yp, rfl, .inl hLp, hyp⟩, g1, n8, g2, fun H1 s1 => ?_⟩
      walk_at "r"
      exact ⟨x, Lw, n, ss, yw, wi, rfl, hw.same s1, s1 _ _ hLw, Fs.same s1 hyw, ln, l20, bw, fun H' s2 => e _ (s1.trans s2)⟩
def sp_lword17 (K : PySem.W.Frag) (C : Addr) : Sp := fun vs H Q E => ∃ (x y : V) (Lp Lw : Addr) (n : Nat) (ss : List Stl) (pu wi : List Rat) (yp yw : List V) (b : Bool), vs = [x, .ref Lp, .ref Lw, y] ∧ IsWeb K C H x n ss ∧ n ≤ 8 ∧ H Lp = some (.lst yp) ∧ Fs K H yp pu ∧ H Lw = some (.lst yw) ∧ Fs K H yw wi ∧ wi.length ≠ n ∧ yw.length ≤ 20 ∧ (∀ r ∈ wi, Bd 2200 r) ∧
  (b = true → pu.length ≠ n ∧ yp.length ≤ 20 ∧ (∀ r ∈ pu, Bd 2200 r)) ∧ (b = false → pu.length = n ∧ ∀ r ∈ pu, 0 ≤ r) ∧ ∀ H', Same H H' → Q (.str (if b = true then "purse" else "wish")) H'
theorem ok_l_word (T : Txt K mg f__wall f_is_integer f_is_row f_is_fraction f_is_amount f_is_some f_are_amounts f_added f_negated f_lessened f_multiplied f_divided f_squared f_summed f_lies_below f_is_stall f_hold_of f_stalls_of f_kept_of f_held f_roots f_check_purse f_check_wish f_may_stay f_table_of f_strike_row f_are_some f_filled_back f_in_order f_struck_in_turn f_scales f_is_scales f_l_deck f_l_pick f_l_divisor f_l_made f_l_added f_l_taken f_l_product f_l_amount f_l_stall f_l_held f_l_pulls f_l_edge f_l_deep f_l_changed f_l_are_some f_l_due f_l_is_judged f_l_word f_law f_Web_init f_Table_init f_Table_wrong_sign f_Table_behind f_Table_ties_without c_BadPurse c_BadWish c_Table c_Web c_ONE c_ZERO d__wall d_is_integer d_is_row d_is_fraction d_is_amount d_is_some d_are_amounts d_added d_negated d_lessened d_multiplied d_divided d_squared d_summed d_lies_below d_is_stall d_hold_of d_stalls_of d_kept_of d_held d_roots d_check_purse d_check_wish d_may_stay d_table_of d_strike_row d_are_some d_filled_back d_in_order d_struck_in_turn d_scales d_is_scales d_l_deck d_l_pick d_l_divisor d_l_made d_l_added d_l_taken d_l_product d_l_amount d_l_stall d_l_held d_l_pulls d_l_edge d_l_deep d_l_changed d_l_are_some d_l_due d_l_is_judged d_l_word d_law d_Web_init d_Table_init d_Table_wrong_sign d_Table_behind d_Table_ties_without) : FnOk P w K mg base CX0 7 f_l_word d_l_word ["_law_web", "_law_purse", "_law_wish", "_law_thing"] (sp_lword17 K c_Web) := by
  have G_is_scales : FnOk P w K mg base (L2.CX P w) 6 f_is_scales d_is_scales ["web", "purse", "wish", "thing"] (sp_is_scalesX K c_Web c_BadPurse c_BadWish) := ok_is_scalesX T
  refine T.F_l_word.ok sc_l_word (fun vs H Q E h => ?_) (fun cdv A outer sh H vs Q E hr h => ?_)
  · obtain ⟨x, y, Lp, Lw, n, ss, pu, wi, yp, yw, b, rfl, _⟩ := h
    rfl
  · obtain ⟨x, y, Lp, Lw, n, ss, pu, wi, yp, yw, b, rfl, hw, n8, hLp, hyp, hLw, hyw, ln, l20, bw, h1, h2, q⟩ := h
    refine ⟨_, (pss_cons (ps_set (i := 4) sc_l_word.nd rfl (by first | exact Or.inl rfl | exact Or.inr rfl) pe_str)
      (pss_cons (ps_try_many (Wout := fun _ _ _ _ => False) rfl rfl takes0 (fun W pn xe tk _ =>
        (pss_one (ps_expr (pe_callS G_is_scales (hr.mono (by decide)) (by rfl) T.g_is_scales T.k_is_scales T.b_is_scales (fun σ => passAt tk σ) (pa_cons (pv 0) (pa_cons (pv 1) (pa_cons (pv 2) (pa_cons (pv 3) pa_nil))))))))
        (HdsOk.cons ⟨rfl, by decide, .inl T.c_BadPurse.g⟩ (fun a oe cls d pn hz hf =>
        (pss_one (ps_set (i := 4) sc_l_word.nd rfl (by first | exact Or.inl rfl | exact Or.inr rfl) pe_str)))
        (HdsOk.cons ⟨rfl, by decide, .inl T.c_BadWish.g⟩ (fun a oe cls d pn hz hf =>
        (pss_one (ps_set (i := 4) sc_l_word.nd rfl (by first | exact Or.inl rfl | exact Or.inr rfl) pe_str)))
        HdsOk.nil)))
      (pss_one (ps_ret (pv 4))))), ?_⟩
    walk_at "r"
    refine ⟨x, y, Lp, Lw, n, ss, pu, wi, yp, yw, b, rfl, hw, n8, hLp, hyp, hLw, hyw, ln, l20, bw, h1, h2, fun H1 s1 => ?_⟩
    have q := q _ s1
    cases b with
    | true =>
      refine ⟨true, T.c_BadPurse.te, fun _ a _ => ?_, fun z => Bool.noConfusion z⟩
      walk_at "r"
      exact q
    | false =>
      refine ⟨false, exm_sub T.c_BadPurse.be T.c_BadPurse.ic T.c_BadPurse.ty T.x_BadWish_BadPurse, fun z => Bool.noConfusion z, fun _ => ⟨true, T.c_BadWish.te, fun _ a _ => ?_, fun z => Bool.noConfusion z⟩⟩
      walk_at "r"
      exact q
end
end My
namespace My
open PySem PySem.Spec PyProof.Rows L2
/-! ### max, of a tuple of two ints and of a list of them, and what is below it -/
def rMaxTB (K : PySem.W.Frag) : List V → Hp → VK → Prop := fun vs H Q => ∃ (a : Addr) (i j : Int), vs = [V.ref a] ∧ SqT K H a [.int i, .int j] ∧ ∀ m, i ≤ m → j ≤ m → Q (.int m) H
theorem cr_maxTB {X : Cx} (hc : X.calm = true) (hu : X.A.units + 64 < cLine) : CallR X (.builtin "max") (rMaxTB X.K) := by
  intro pins s σ H vs us Q I r h
  obtain ⟨a, i, j, rfl, hs, q⟩ := h
  obtain ⟨its, rv, hl, _⟩ := I.tuple hs
  rw [Vals.ref1 r]
  have hv : ∃ (u1 u2 : Value), its = [u1, u2] ∧ RelV (.int i) u1 ∧ RelV (.int j) u2 := by
    cases rv with
    | cons r1 r2 =>
      cases r2 with
      | cons r2 r3 =>
        cases r3
        exact ⟨_, _, rfl, r1, r2⟩
  clear rv
  obtain ⟨_, _, rfl, ⟨t1, rfl⟩, ⟨t2, rfl⟩⟩ := hv
  have e : PyData.depthAll [PyData.int i, .int j] ≤ 2 := by simp [PyData.depthAll, PyData.depth]
  have hm : PySem.W.maxD (.int i) [.int j] = .int (max i j) := PySem.W.maxD_ints i [j]
  have hr : ReadsAll s.heap [Value.int i t1, Value.int j t2] [PyData.int i, .int j] [] := .cons (as := []) (.int _ _) (.cons (as := []) (.int _ _) .nil)
  have ha : PySem.W.AlikeAll [PyData.int i, .int j] := by
    refine ⟨fun x hx y hy => ?_, fun x hx => ?_⟩
    · simp only [List.mem_cons, List.not_mem_nil, or_false] at hx hy
      rcases hx with rfl | rfl <;> rcases hy with rfl | rfl <;> rfl
    · simp only [List.mem_cons, List.not_mem_nil, or_false] at hx
      rcases hx with rfl | rfl <;> simp
  refine PySem.W.max_tuple_data (x := .int i) (xs := [.int j]) (as := []) (I.ok.hd hc) hl hr ha ?_ fun k v h' tk bs hk hr hk' => ?_
  · omega
  · rw [hm] at hr
    cases hr
    exact ⟨.int (max i j), H, I.kept hk', ⟨_, rfl⟩, q (max i j) (by omega) (by omega)⟩
theorem cr_maxTBK {X : Cx} {K : PySem.W.Frag} (h : X.K = K) (hc : X.calm = true) (hu : X.A.units + 64 < cLine) : CallR X (.builtin "max") (rMaxTB K) := h ▸ cr_maxTB hc hu
theorem le_maxs : ∀ (ns : List Int) (n : Int), n ≤ ns.foldl max n ∧ ∀ x ∈ ns, x ≤ ns.foldl max n
  | [], n => ⟨Int.le_refl _, by simp⟩
  | m :: ns, n => by
    obtain ⟨h1, h2⟩ := le_maxs ns (max n m)
    refine ⟨Int.le_trans (Int.le_max_left n m) h1, fun x hx => ?_⟩
    rcases List.mem_cons.mp hx with rfl | hx
    · exact Int.le_trans (Int.le_max_right n x) h1
    · exact h2 x hx
def rMaxLB (K : PySem.W.Frag) : List V → Hp → VK → Prop := fun vs H Q => ∃ (a : Addr) (ns : List Int), vs = [V.ref a] ∧ SqL K H a (ns.map V.int) ∧ ns ≠ [] ∧ ∀ m, (∀ x ∈ ns, x ≤ m) → Q (.int m) H
theorem cr_maxLB {X : Cx} (hc : X.calm = true) (hu : X.A.units + 64 < cLine) : CallR X (.builtin "max") (rMaxLB X.K) := by
  intro pins s σ H vs us Q I r h
  obtain ⟨a, ns, rfl, hs, hne, q⟩ := h
  obtain ⟨its, rv, hl, _⟩ := I.list hs
  rw [Vals.ref1 r]
  cases ns with
  | nil => exact absurd rfl hne
  | cons n ns =>
  have hr : ReadsAll s.heap its (PyData.int n :: ns.map PyData.int) [] := readsAll_ints (ns := n :: ns) rv
  have ha : PySem.W.AlikeAll (PyData.int n :: ns.map PyData.int) := by
    have key : ∀ x ∈ (n :: ns).map PyData.int, ∃ z, x = PyData.int z := fun x hx => by
      obtain ⟨z, _, rfl⟩ := List.mem_map.mp hx
      exact ⟨z, rfl⟩
    refine ⟨fun x hx y hy => ?_, fun x hx => ?_⟩
    · obtain ⟨i, rfl⟩ := key x hx
      obtain ⟨j, rfl⟩ := key y hy
      rfl
    · obtain ⟨i, rfl⟩ := key x hx
      simp
  have e : PyData.depthAll (PyData.int n :: ns.map PyData.int) ≤ 1 := depth_intsL (n :: ns)
  refine PySem.W.max_list_data (x := .int n) (xs := ns.map PyData.int) (as := []) (I.ok.hd hc) hl.isList (by simpa using hr) ha ?_ fun k v h' tk bs hk hr hk' => ?_
  · omega
  · rw [PySem.W.maxD_ints] at hr
    cases hr
    refine ⟨.int (ns.foldl max n), H, I.kept hk', ⟨_, rfl⟩, q _ fun x hx => ?_⟩
    obtain ⟨h1, h2⟩ := le_maxs ns n
    rcases List.mem_cons.mp hx with rfl | hx
    · exact h1
    · exact h2 x hx
end My
namespace My
open PySem PySem.Spec PyProof.Rows L2
variable {K : PySem.W.Frag}
/-! ### what the law of judged scales wants -/
theorem xOf_map {n : Nat} (z : Nat → Rat) : ∀ j ∈ List.range n, xOf ((List.range n).map z) j = z j := fun j hj => getD_map z (List.mem_range.mp hj)
/-- scales are found -/
theorem found_ok17 {n : Nat} {ss : List Stl} {pu wi : List Rat} (ok : OkT n ss pu wi) (h : metW n ss pu wi = none) : OkA n ((List.range n).map (foundZ n ss pu wi)) ∧ ∀ x ∈ (List.range n).map (foundZ n ss pu wi), 0 < x := by
  have od := ok.odr
  have eo := end_ok od
  have le : ∀ j, ¬ j ∈ endL (stayM ss pu wi) (List.range n) (List.range n) := fun j hj => by
    have := (eo.2.2.2.2.2 h j).mp hj
    exact this.2 this.1
  obtain ⟨r1, _, r3⟩ := fill_rows od (a := 1) (by decide) (y := fun _ => 0) fun j hj => absurd hj (le j)
  have cv : CDv 1 (fun _ => 0) (endL (stayM ss pu wi) (List.range n) (List.range n)) := ⟨1, by decide, by decide, fun j hj => absurd hj (le j)⟩
  have l8 : (List.range n).length ≤ 8 := by rw [List.length_range]; exact ok.n8
  have cf := (CDv.fills od (ok.cds od).1 l8 cv (.inr rfl)).mono (fc_le2 l8)
  refine ⟨OkA.of (fun j hj => Rat.le_of_lt (r1 j hj)) cf (by decide), fun x hx => ?_⟩
  obtain ⟨j, hj, rfl⟩ := List.mem_map.mp hx
  exact r1 j hj
theorem edge_meets {n : Nat} {ss : List Stl} {mo ed ρ : List Rat} (pos : ∀ i, i < n → 0 < xOf ρ i) (est : ∀ i, i < n → stayAt ss mo ed i = pullAt ss (xOf ρ) i * (xOf ρ i)⁻¹) : meetB n ss mo ed (some ρ) = true := by
  show ((List.range n).all fun i => decide (pullAt ss (xOf ρ) i ≤ stayAt ss mo ed i * xOf ρ i)) = true
  rw [List.all_eq_true]
  intro i hi
  have hi := List.mem_range.mp hi
  have p := pos i hi
  have ne : xOf ρ i ≠ 0 := fun z => by
    rw [z] at p
    exact absurd p (by decide)
  refine decide_eq_true ?_
  rw [est i hi, Rat.mul_assoc, Rat.inv_mul_cancel _ ne, Rat.mul_one]
  exact Rat.le_refl
theorem tup_neD {M c : Nat} {D C p : Addr} {H : Hp} {xs : List V} (dk : Deck M D C H c) (h : H p = some (.tup xs)) : p ≠ D := by
  intro e
  subst e
  obtain ⟨cells, pl, rest, cnt, c0, c1, c2, _⟩ := dk
  first
    | (rw [h] at c0; cases c0)
    | (rw [h] at c1; cases c1)
    | (rw [h] at c2; cases c2)
theorem purse_ok : PyData.canLay0 (.str "purse") = true := by decide +kernel
theorem wish_ok : PyData.canLay0 (.str "wish") = true := by decide +kernel
theorem words_sh : SeqAt.shaped (.list [.str "purse", .str "wish"]) = true := by
  unfold SeqAt.shaped
  rw [Bool.and_eq_true]
  refine ⟨?_, decide_eq_true (Nat.le_of_ble_eq_true rfl)⟩
  show (PyData.canLay0 (.str "purse") && (PyData.canLay0 (.str "wish") && true)) = true
  rw [purse_ok, wish_ok]
  rfl
theorem ne_words {H : Hp} {a b : Addr} {Q : VK} (ha : H a = some (.lst [.str "purse", .str "wish"])) (hb : H b = some (.lst [.str "purse", .str "wish"])) (q : Q (.bl false) H) : rNeD K (.ref a) (.ref b) H Q := by
  refine ⟨.list [.str "purse", .str "wish"], .list [.str "purse", .str "wish"], .lst (.of ha) (.cons (.str _) (.cons (.str _) .nil)), .lst (.of hb) (.cons (.str _) (.cons (.str _) .nil)), words_sh, words_sh, ?_⟩
  rw [show PyData.eqv (.list [.str "purse", .str "wish"]) (.list [.str "purse", .str "wish"]) = true from by simp [PyData.eqv, PyData.eqvAll]]
  exact q
theorem rd_tail {H : Hp} {a : Addr} {xs : List V} {Q : VK} (h : H a = some (.lst xs)) (q : ∀ p, H p = none → Q (.ref p) (upd H p (.lst (xs.drop 1)))) : rSlL K (.ref a) (some 1) none H Q := by
  refine rd_slL (.of h) fun p np => ?_
  rw [show cutV xs (some 1) none = xs.drop 1 from cut_drop xs 1]
  exact q p np
theorem ints_big {xs : List V} {rs : List Rat} (h : Paired (fun v (r : Rat) => ∃ m : Int, v = V.int m ∧ r.num ≤ m ∧ (r.den : Int) ≤ m) xs rs) : ∃ ns : List Int, xs = ns.map V.int ∧ ns.length = rs.length ∧ ∀ mx, (∀ x ∈ ns, x ≤ mx) → ∀ r ∈ rs, r.num ≤ mx ∧ (r.den : Int) ≤ mx := by
  induction h with
  | nil => exact ⟨[], rfl, rfl, fun mx _ r hr => by cases hr⟩
  | cons h t ih =>
    obtain ⟨m, rfl, h1, h2⟩ := h
    obtain ⟨ns, rfl, e, k⟩ := ih
    refine ⟨m :: ns, rfl, by simp [e], fun mx hmx r hr => ?_⟩
    rcases List.mem_cons.mp hr with rfl | hr
    · have := hmx m (List.mem_cons_self ..)
      omega
    · exact k mx (fun x hx => hmx x (List.mem_cons_of_mem _ hx)) r hr
theorem upTo_self {α : Type} (l : List α) : upTo (fun i => l[i]?) l.length = l := by
  have := upTo_list l (fun x => x)
  simpa using this
theorem big_bd {r : Rat} {mx : Int} (r0 : 0 < r) (h1 : r.num ≤ mx) (h2 : (r.den : Int) ≤ mx) (h : mx < 10 ^ 60) : Bd 200 r := by
  have n0 : 0 < r.num := num_pos_iff'.mpr r0
  have e : (10 : Int) ^ 60 < 2 ^ 200 := by decide +kernel
  have e2 : ((2 ^ 200 : Nat) : Int) = 2 ^ 200 := by norm_cast
  refine ⟨?_, ?_⟩
  · omega
  · omega
theorem Rw16.mono17 {n N M d : Nat} {rs : List Rat} (h : Rw16 n N d rs) (hn : N ≤ M) : Rw16 n M d rs := ⟨h.len, h.nn, fun r hr => (h.gr r hr).mono hn⟩
/-- none, or scales -/
def Th (K : PySem.W.Frag) (D : Addr) (H : Hp) (n : Nat) (v : V) : Prop := v = .non ∨ ∃ Y yy τ, v = .ref Y ∧ Y ≠ D ∧ H Y = some (.tup yy) ∧ Fs K H yy τ ∧ τ.length = n ∧ (∀ x ∈ τ, 0 < x) ∧ OkA n τ
theorem Th.fw {M n c : Nat} {D C : Addr} {H H' : Hp} {v : V} (t : Th K D H n v) (dk : Deck M D C H c) (f : Fw D H H') : Th K D H' n v := by
  rcases t with rfl | ⟨Y, yy, τ, rfl, ne, h, fs, l, p, o⟩
  · exact .inl rfl
  · exact .inr ⟨Y, yy, τ, rfl, ne, f _ _ ne h, Fs.ts (f.ts dk) fs, l, p, o⟩
theorem Th.same {n : Nat} {D : Addr} {H H' : Hp} {v : V} (t : Th K D H n v) (s : Same H H') : Th K D H' n v := by
  rcases t with rfl | ⟨Y, yy, τ, rfl, ne, h, fs, l, p, o⟩
  · exact .inl rfl
  · exact .inr ⟨Y, yy, τ, rfl, ne, s _ _ h, Fs.same s fs, l, p, o⟩
end My
namespace My
open PySem PySem.Spec PyProof.Rows L2
variable {K : PySem.W.Frag}
/-- the law's things -/
structure G17 (K : PySem.W.Frag) (B D C S x4 : Addr) (n c : Nat) (xs : List V) (ss : List Stl) (H : Hp) : Prop where
  dk : Deck 1048576 D C H c
  web : IsWeb K B H (.ref x4) n ss
  fS : H S = some (.lst xs)
  st : Sts K H xs ss
  sD : S ≠ D
/-- a row, a list of fractions -/
structure Rr (K : PySem.W.Frag) (D L : Addr) (ys : List V) (rs : List Rat) (H : Hp) : Prop where
  ne : L ≠ D
  f : H L = some (.lst ys)
  fs : Fs K H ys rs
structure Rt (K : PySem.W.Frag) (D L : Addr) (ys : List V) (rs : List Rat) (H : Hp) : Prop where
  ne : L ≠ D
  f : H L = some (.tup ys)
  fs : Fs K H ys rs
section
variable {B D C S x4 L : Addr} {n c : Nat} {xs ys : List V} {ss : List Stl} {rs : List Rat} {H H' : Hp}
theorem G17.same (g : G17 K B D C S x4 n c xs ss H) (s : Same H H') : G17 K B D C S x4 n c xs ss H' :=
  ⟨g.dk.same s, g.web.same s, s _ _ g.fS, g.st.same s, g.sD⟩
theorem G17.fw {c' : Nat} (g : G17 K B D C S x4 n c xs ss H) (f : Fw D H H') (k : Deck 1048576 D C H' c') : G17 K B D C S x4 n c' xs ss H' :=
  ⟨k, g.web.fw f g.dk, f _ _ g.sD g.fS, g.st.ts (f.ts g.dk), g.sD⟩
theorem G17.mono {c' : Nat} (g : G17 K B D C S x4 n c xs ss H) (h : c ≤ c') : G17 K B D C S x4 n c' xs ss H := ⟨g.dk.mono h, g.web, g.fS, g.st, g.sD⟩
theorem Rr.same (r : Rr K D L ys rs H) (s : Same H H') : Rr K D L ys rs H' := ⟨r.ne, s _ _ r.f, Fs.same s r.fs⟩
theorem Rr.fw (r : Rr K D L ys rs H) (dk : Deck 1048576 D C H c) (f : Fw D H H') : Rr K D L ys rs H' := ⟨r.ne, f _ _ r.ne r.f, Fs.ts (f.ts dk) r.fs⟩
theorem Rt.same (r : Rt K D L ys rs H) (s : Same H H') : Rt K D L ys rs H' := ⟨r.ne, s _ _ r.f, Fs.same s r.fs⟩
theorem Rt.fw (r : Rt K D L ys rs H) (dk : Deck 1048576 D C H c) (f : Fw D H H') : Rt K D L ys rs H' := ⟨r.ne, f _ _ r.ne r.f, Fs.ts (f.ts dk) r.fs⟩
end
section
variable {P : Program} {w : World} {K : PySem.W.Frag} {mg : Str → Option Value} {base : Heap} {f__wall f_is_integer f_is_row f_is_fraction f_is_amount f_is_some f_are_amounts f_added f_negated f_lessened f_multiplied f_divided f_squared f_summed f_lies_below f_is_stall f_hold_of f_stalls_of f_kept_of f_held f_roots f_check_purse f_check_wish f_may_stay f_table_of f_strike_row f_are_some f_filled_back f_in_order f_struck_in_turn f_scales f_is_scales f_l_deck f_l_pick f_l_divisor f_l_made f_l_added f_l_taken f_l_product f_l_amount f_l_stall f_l_held f_l_pulls f_l_edge f_l_deep f_l_changed f_l_are_some f_l_due f_l_is_judged f_l_word f_law f_Web_init f_Table_init f_Table_wrong_sign f_Table_behind f_Table_ties_without c_BadPurse c_BadWish c_Table c_Web c_ONE c_ZERO : Addr} {d__wall d_is_integer d_is_row d_is_fraction d_is_amount d_is_some d_are_amounts d_added d_negated d_lessened d_multiplied d_divided d_squared d_summed d_lies_below d_is_stall d_hold_of d_stalls_of d_kept_of d_held d_roots d_check_purse d_check_wish d_may_stay d_table_of d_strike_row d_are_some d_filled_back d_in_order d_struck_in_turn d_scales d_is_scales d_l_deck d_l_pick d_l_divisor d_l_made d_l_added d_l_taken d_l_product d_l_amount d_l_stall d_l_held d_l_pulls d_l_edge d_l_deep d_l_changed d_l_are_some d_l_due d_l_is_judged d_l_word d_law d_Web_init d_Table_init d_Table_wrong_sign d_Table_behind d_Table_ties_without : FuncData}
def sp_law (K : PySem.W.Frag) : Sp := fun vs H Q _ => ∃ (a : Addr) (ns : List Int), vs = [.ref a] ∧ SqL K H a (ns.map V.int) ∧ ns.length ≤ 63 ∧ (∀ z ∈ ns, Builtin.Int.intBits z ≤ 1048576) ∧ ∀ H', Q (.bl true) H'
theorem ok_law (T : Txt K mg f__wall f_is_integer f_is_row f_is_fraction f_is_amount f_is_some f_are_amounts f_added f_negated f_lessened f_multiplied f_divided f_squared f_summed f_lies_below f_is_stall f_hold_of f_stalls_of f_kept_of f_held f_roots f_check_purse f_check_wish f_may_stay f_table_of f_strike_row f_are_some f_filled_back f_in_order f_struck_in_turn f_scales f_is_scales f_l_deck f_l_pick f_l_divisor f_l_made f_l_added f_l_taken f_l_product f_l_amount f_l_stall f_l_held f_l_pulls f_l_edge f_l_deep f_l_changed f_l_are_some f_l_due f_l_is_judged f_l_word f_law f_Web_init f_Table_init f_Table_wrong_sign f_Table_behind f_Table_ties_without c_BadPurse c_BadWish c_Table c_Web c_ONE c_ZERO d__wall d_is_integer d_is_row d_is_fraction d_is_amount d_is_some d_are_amounts d_added d_negated d_lessened d_multiplied d_divided d_squared d_summed d_lies_below d_is_stall d_hold_of d_stalls_of d_kept_of d_held d_roots d_check_purse d_check_wish d_may_stay d_table_of d_strike_row d_are_some d_filled_back d_in_order d_struck_in_turn d_scales d_is_scales d_l_deck d_l_pick d_l_divisor d_l_made d_l_added d_l_taken d_l_product d_l_amount d_l_stall d_l_held d_l_pulls d_l_edge d_l_deep d_l_changed d_l_are_some d_l_due d_l_is_judged d_l_word d_law d_Web_init d_Table_init d_Table_wrong_sign d_Table_behind d_Table_ties_without) : FnOk P w K mg base CX0 9 f_law d_law ["_law_script"] (sp_law K) := by
  have G_l_deck : FnOk P w K mg base CX0 1 f_l_deck d_l_deck ["_law_script"] (sp_deck K) := ok_l_deck T
  have G_l_pick : FnOk P w K mg base CX0 1 f_l_pick d_l_pick ["_law_deck_here", "_law_many"] (sp_pick 1048576) := ok_pick (by decide) (by decide) T
  have G_l_made : FnOk P w K mg base CX0 2 f_l_made d_l_made ["_law_top", "_law_bottom"] (sp_made K) := ok_l_made T
  have G_l_deep : FnOk P w K mg base CX0 2 f_l_deep d_l_deep ["_law_deck_here"] (sp_ldeep2 1048576) := ok_l_deep2 (by decide) (by decide) T
  have G_l_stall : FnOk P w K mg base CX0 4 f_l_stall d_l_stall ["_law_deck_here", "_law_wares"] (sp_lstall16 K 1048576) := ok_l_stall (by decide) (by decide) T
  have G_l_edge : FnOk P w K mg base CX0 5 f_l_edge d_l_edge ["_law_wares", "_law_stalls", "_law_purse", "_law_scale"] (sp_ledge17 K) := ok_l_edge T
  have G_l_changed : FnOk P w K mg base CX0 4 f_l_changed d_l_changed ["_law_deck_here", "_law_web", "_law_thing"] (sp_lchanged K c_Web 1048576) := ok_l_changed (by decide) (by decide) T
  have G_l_is_judged : FnOk P w K mg base CX0 7 f_l_is_judged d_l_is_judged ["_law_web", "_law_purse", "_law_wish", "_law_thing"] (sp_lis_judged K c_Web) := ok_l_is_judged T
  have G_l_word : FnOk P w K mg base CX0 7 f_l_word d_l_word ["_law_web", "_law_purse", "_law_wish", "_law_thing"] (sp_lword17 K c_Web) := ok_l_word T
  have G_scales : FnOk P w K mg base CX0 8 f_scales d_scales ["web", "purse", "wish"] (sp_scales K c_Web) := ok_scales T
  have G_is_scales : FnOk P w K mg base CX0 6 f_is_scales d_is_scales ["web", "purse", "wish", "thing"] (sp_is_scales K c_Web) := ok_is_scales T
  have G_Web_init : FnOk P w K mg base CX0 5 f_Web_init d_Web_init ["self", "wares", "stalls"] (sp_web K c_Web) := ok_Web_init T
  refine T.F_law.ok sc_law (fun vs H Q E h => ?_) (fun cdv A outer sh H vs Q E hr h => ?_)
  · obtain ⟨a, ns, rfl, _⟩ := h
    rfl
  · obtain ⟨a, ns, rfl, hS, hl, hb, q⟩ := h
    refine ⟨_, (pss_cons (ps_set (i := 1) sc_law.nd rfl (by first | exact Or.inl rfl | exact Or.inr rfl) (pe_call G_l_deck (hr.mono (by decide)) (by rfl) T.g_l_deck T.k_l_deck T.b_l_deck .nil pass0 (pa_cons (pv 0) pa_nil)))
      (pss_cons (ps_for PassesOwn.never rfl (pi_range1 (by rfl) T.z_range (pa_cons (pe_op op_add pe_int (pe_callB (call_minN rfl) (by rfl) T.z_min (by decide +kernel) (pa_cons (pe_callB call_lenN (by rfl) T.z_len (by decide +kernel) (pa_cons (pv 0) pa_nil)) (pa_cons pe_int pa_nil)))) pa_nil)) (pg_name (i := 2) sc_law.nd rfl (by first | exact Or.inl rfl | exact Or.inr rfl))
        (pss_cons (ps_set (i := 3) sc_law.nd rfl (by first | exact Or.inl rfl | exact Or.inr rfl) (pe_op op_add pe_int (pe_call G_l_pick (hr.mono (by decide)) (by rfl) T.g_l_pick T.k_l_pick T.b_l_pick .nil pass0 (pa_cons (pv 1) (pa_cons pe_int pa_nil)))))
          (pss_cons (ps_set (i := 4) sc_law.nd rfl (by first | exact Or.inl rfl | exact Or.inr rfl) (pe_op op_mulX (pe_call G_l_pick (hr.mono (by decide)) (by rfl) T.g_l_pick T.k_l_pick T.b_l_pick .nil pass0 (pa_cons (pv 1) (pa_cons pe_int pa_nil))) (pe_callTy call_intN (by rfl) T.z_int (by decide +kernel) (pa_cons (pe_cmpR op_gt (pv 3) pe_int (nomark _)) pa_nil))))
          (pss_cons (ps_setLc (i := 5) (own := [("_law_index", 6)]) (g := gName 6) rfl sc_law.nd rfl rfl (sw_true rfl rfl rfl (by decide +kernel)) (pi_range1 (by rfl) T.z_range (pa_cons (pv 4) pa_nil)) (blkOk_by (own := [("_law_index", 6)]) (N := N_law) (sc := defScope s_law) (by decide +kernel)) (fun _ _ _ _ _ => (pg_name (i := 6) sc_law.nd rfl (by first | exact Or.inl rfl | exact Or.inr rfl))) (fun _ _ _ _ _ => pts_nil) (fun _ _ _ _ _ => (pe_call G_l_stall (hr.mono (by decide)) (by rfl) T.g_l_stall T.k_l_stall T.b_l_stall .nil pass0 (pa_cons (pv 1) (pa_cons (pv 3) pa_nil)))))
          (pss_cons (ps_set (i := 7) sc_law.nd rfl (by first | exact Or.inl rfl | exact Or.inr rfl) (pe_make T.w_Web.mks G_Web_init (hr.mono (by decide)) (by rfl) T.w_Web.g T.b_Web_init .nil pass0 (pa_cons (pv 3) (pa_cons (pv 5) pa_nil))))
          (pss_cons (ps_setLc (i := 8) (own := [("_law_ware", 9)]) (g := gName 9) rfl sc_law.nd rfl rfl (sw_true rfl rfl rfl (by decide +kernel)) (pi_range1 (by rfl) T.z_range (pa_cons (pv 3) pa_nil)) (blkOk_by (own := [("_law_ware", 9)]) (N := N_law) (sc := defScope s_law) (by decide +kernel)) (fun _ _ _ _ _ => (pg_name (i := 9) sc_law.nd rfl (by first | exact Or.inl rfl | exact Or.inr rfl))) (fun _ _ _ _ _ => pts_nil) (fun _ _ _ _ _ => (pe_call G_l_made (hr.mono (by decide)) (by rfl) T.g_l_made T.k_l_made T.b_l_made .nil pass0 (pa_cons (pe_call G_l_pick (hr.mono (by decide)) (by rfl) T.g_l_pick T.k_l_pick T.b_l_pick .nil pass0 (pa_cons (pv 1) (pa_cons pe_int pa_nil))) (pa_cons (pe_op op_add pe_int (pe_call G_l_pick (hr.mono (by decide)) (by rfl) T.g_l_pick T.k_l_pick T.b_l_pick .nil pass0 (pa_cons (pv 1) (pa_cons pe_int pa_nil)))) pa_nil)))))
          (pss_cons (ps_setLc (i := 10) (own := [("_law_ware", 9)]) (g := gName 9) rfl sc_law.nd rfl rfl (sw_true rfl rfl rfl (by decide +kernel)) (pi_range1 (by rfl) T.z_range (pa_cons (pv 3) pa_nil)) (blkOk_by (own := [("_law_ware", 9)]) (N := N_law) (sc := defScope s_law) (by decide +kernel)) (fun _ _ _ _ _ => (pg_name (i := 9) sc_law.nd rfl (by first | exact Or.inl rfl | exact Or.inr rfl))) (fun _ _ _ _ _ => pts_nil) (fun _ _ _ _ _ => (pe_call G_l_made (hr.mono (by decide)) (by rfl) T.g_l_made T.k_l_made T.b_l_made .nil pass0 (pa_cons (pe_call G_l_pick (hr.mono (by decide)) (by rfl) T.g_l_pick T.k_l_pick T.b_l_pick .nil pass0 (pa_cons (pv 1) (pa_cons pe_int pa_nil))) (pa_cons (pe_op op_add pe_int (pe_call G_l_pick (hr.mono (by decide)) (by rfl) T.g_l_pick T.k_l_pick T.b_l_pick .nil pass0 (pa_cons (pv 1) (pa_cons pe_int pa_nil)))) pa_nil)))))
          (pss_cons (ps_set (i := 11) sc_law.nd rfl (by first | exact Or.inl rfl | exact Or.inr rfl) (pe_callTy call_tuple_of (by rfl) T.z_tuple (by decide +kernel) (pa_cons (pe_lc (own := [("_law_ware", 9)]) (g := gName 9) rfl sc_law.nd (pi_range1 (by rfl) T.z_range (pa_cons (pv 3) pa_nil)) (blkOk_by (own := [("_law_ware", 9)]) (N := N_law) (sc := defScope s_law) (by decide +kernel)) (fun _ _ _ _ _ => (pg_name (i := 9) sc_law.nd rfl (by first | exact Or.inl rfl | exact Or.inr rfl))) (fun _ _ _ _ _ => pts_nil) (fun _ _ _ _ _ => (pe_call G_l_made (hr.mono (by decide)) (by rfl) T.g_l_made T.k_l_made T.b_l_made .nil pass0 (pa_cons (pe_op op_add pe_int (pe_call G_l_pick (hr.mono (by decide)) (by rfl) T.g_l_pick T.k_l_pick T.b_l_pick .nil pass0 (pa_cons (pv 1) (pa_cons pe_int pa_nil)))) (pa_cons (pe_op op_add pe_int (pe_call G_l_pick (hr.mono (by decide)) (by rfl) T.g_l_pick T.k_l_pick T.b_l_pick .nil pass0 (pa_cons (pv 1) (pa_cons pe_int pa_nil)))) pa_nil))))) pa_nil)))
          (pss_cons (ps_asg (pe_call G_l_edge (hr.mono (by decide)) (by rfl) T.g_l_edge T.k_l_edge T.b_l_edge .nil pass0 (pa_cons (pv 3) (pa_cons (pv 5) (pa_cons (pv 8) (pa_cons (pv 11) pa_nil))))) (pg_lst rfl (pgs_cons (pg_name (i := 12) sc_law.nd rfl (by first | exact Or.inl rfl | exact Or.inr rfl)) (pgs_cons (pg_name (i := 13) sc_law.nd rfl (by first | exact Or.inl rfl | exact Or.inr rfl)) pgs_nil))))
          (C8.pss_cut (ps_if (PW.pt (pw_and (pt_cmpR op_lt (pe_callB (My.cr_maxLB rfl hr.units) (by rfl) T.z_max (by decide +kernel) (pa_cons (pe_lc (own := [("_law_pair", 14)]) (g := gName 14) rfl sc_law.nd (pi_list (pe_op op_cat (pv 12) (pv 13))) (blkOk_by (own := [("_law_pair", 14)]) (N := N_law) (sc := defScope s_law) (by decide +kernel)) (fun _ _ _ _ _ => (pg_name (i := 14) sc_law.nd rfl (by first | exact Or.inl rfl | exact Or.inr rfl))) (fun _ _ _ _ _ => pts_nil) (fun _ _ _ _ _ => (pe_callB (My.cr_maxTBK (K := K) (by rfl) rfl hr.units) (by rfl) T.z_max (by decide +kernel) (pa_cons (pv 14) pa_nil)))) pa_nil)) (pe_op op_pow pe_int pe_int) (nomark _)) (pw_and1 (pt_cmpR op_gt (pe_call G_l_pick (hr.mono (by decide)) (by rfl) T.g_l_pick T.k_l_pick T.b_l_pick .nil pass0 (pa_cons (pv 1) (pa_cons pe_int pa_nil))) pe_int (nomark _)))))
            (pss_cons (ps_asg (pe_lst (pa_cons (pv 12) (pa_cons (pv 13) pa_nil))) (pg_lst rfl (pgs_cons (pg_name (i := 8) sc_law.nd rfl (by first | exact Or.inl rfl | exact Or.inr rfl)) (pgs_cons (pg_name (i := 10) sc_law.nd rfl (by first | exact Or.inl rfl | exact Or.inr rfl)) pgs_nil))))
              (pss_one (ps_if (pt_cmpR op_notBl (pe_call G_is_scales (hr.mono (by decide)) (by rfl) T.g_is_scales T.k_is_scales T.b_is_scales .nil pass0 (pa_cons (pv 7) (pa_cons (pv 8) (pa_cons (pv 10) (pa_cons (pv 11) pa_nil))))) pe_bl (nomark _))
                (pss_one (ps_ret pe_bl))
                pss_nil)))
            pss_nil)
          (pss_cons (ps_set (i := 15) sc_law.nd rfl (by first | exact Or.inl rfl | exact Or.inr rfl) (pe_call G_scales (hr.mono (by decide)) (by rfl) T.g_scales T.k_scales T.b_scales .nil pass0 (pa_cons (pv 7) (pa_cons (pv 8) (pa_cons (pv 10) pa_nil)))))
          (pss_cons (ps_for PassesOwn.never rfl (pi_list (pe_lst (pa_cons (pv 11) (pa_cons (pv 15) pa_nil)))) (pg_name (i := 16) sc_law.nd rfl (by first | exact Or.inl rfl | exact Or.inr rfl))
            (pss_cons (ps_if (PW.pt (pw_and (pt_cmpR op_notN (pv 16) pe_non (nomark _)) (pw_and1 (pt_not (pt_val (pe_call G_l_is_judged (hr.mono (by decide)) (by rfl) T.g_l_is_judged T.k_l_is_judged T.b_l_is_judged .nil pass0 (pa_cons (pv 7) (pa_cons (pv 8) (pa_cons (pv 10) (pa_cons (pv 16) pa_nil))))))))))
                (pss_one (ps_ret pe_bl))
                pss_nil)
              (pss_one (ps_if (PW.pt (pw_and (pt_cmpR op_notN (pv 16) pe_non (nomark _)) (pw_and1 (pt_cmpR op_lt (pe_callB (My.cr_maxLB rfl hr.units) (by rfl) T.z_max (by decide +kernel) (pa_cons (pe_lc (own := [("_law_pair", 14)]) (g := gName 14) rfl sc_law.nd (pi_tup (pv 16)) (blkOk_by (own := [("_law_pair", 14)]) (N := N_law) (sc := defScope s_law) (by decide +kernel)) (fun _ _ _ _ _ => (pg_name (i := 14) sc_law.nd rfl (by first | exact Or.inl rfl | exact Or.inr rfl))) (fun _ _ _ _ _ => pts_nil) (fun _ _ _ _ _ => (pe_callB (My.cr_maxTBK (K := K) (by rfl) rfl hr.units) (by rfl) T.z_max (by decide +kernel) (pa_cons (pv 14) pa_nil)))) pa_nil)) (pe_op op_pow pe_int pe_int) (nomark _)))))
                (pss_one (ps_for PassesOwn.never rfl (pi_range1 (by rfl) T.z_range (pa_cons pe_int pa_nil)) (pg_name (i := 17) sc_law.nd rfl (by first | exact Or.inl rfl | exact Or.inr rfl))
                    (pss_one (ps_if (pt_not (pt_val (pe_call G_l_is_judged (hr.mono (by decide)) (by rfl) T.g_l_is_judged T.k_l_is_judged T.b_l_is_judged .nil pass0 (pa_cons (pv 7) (pa_cons (pv 8) (pa_cons (pv 10) (pa_cons (pe_call G_l_changed (hr.mono (by decide)) (by rfl) T.g_l_changed T.k_l_changed T.b_l_changed .nil pass0 (pa_cons (pv 1) (pa_cons (pv 7) (pa_cons (pv 16) pa_nil)))) pa_nil)))))))
                        (pss_one (ps_ret pe_bl))
                        pss_nil))))
                pss_nil))))
          (pss_one (ps_for PassesOwn.never rfl (pi_list (pe_lst (pa_cons (pv 11) (pa_cons pe_non (pa_cons (pe_call G_l_deep (hr.mono (by decide)) (by rfl) T.g_l_deep T.k_l_deep T.b_l_deep .nil pass0 (pa_cons (pv 1) pa_nil)) pa_nil))))) (pg_name (i := 16) sc_law.nd rfl (by first | exact Or.inl rfl | exact Or.inr rfl))
            (pss_cons (ps_set (i := 18) sc_law.nd rfl (by first | exact Or.inl rfl | exact Or.inr rfl) (pe_lst (pa_cons (pe_call G_l_word (hr.mono (by decide)) (by rfl) T.g_l_word T.k_l_word T.b_l_word .nil pass0 (pa_cons (pv 7) (pa_cons (pe_slice sl_list (pv 8) (po_some pe_int) po_none) (pa_cons (pe_slice sl_list (pv 10) (po_some pe_int) po_none) (pa_cons (pv 16) pa_nil))))) (pa_cons (pe_call G_l_word (hr.mono (by decide)) (by rfl) T.g_l_word T.k_l_word T.b_l_word .nil pass0 (pa_cons (pv 7) (pa_cons (pv 8) (pa_cons (pe_slice sl_list (pv 10) (po_some pe_int) po_none) (pa_cons (pv 16) pa_nil))))) pa_nil))))
              (pss_one (ps_if (pt_cmpR (op_neD hr.units) (pv 18) (pe_lst (pa_cons pe_str (pa_cons pe_str pa_nil))) (nomark _))
                (pss_one (ps_ret pe_bl))
                pss_nil)))))))))))))))))
      (pss_one (ps_ret pe_bl)))), ?_⟩
    walk_at "r"
    refine ⟨_, _, rfl, hS, hl, hb, fun H1 D C s1 k1 => ?_⟩
    have q1 := s1.seq hS
    clear hS s1
    walk_at "r"
    refine rd_lenS ?_ q1
    walk_at "r"
    have hm4 : min ((ns.map V.int).length : Int) 4 ≤ 4 := Int.min_le_right _ _
    refine ⟨by omega, by omega, ?_⟩
    refine for_range (lo := 0) (n := (1 + min ((ns.map V.int).length : Int) 4).toNat) (fun i σ H' => ∃ (t2 t3 t4 t5 t7 t8 t10 t11 t12 t13 t15 t16 t17 t18 : Option V), σ = [some (.ref a), some (.ref D), t2, t3, t4, t5, none, t7, t8, none, t10, t11, t12, t13, none, t15, t16, t17, t18] ∧ Deck 1048576 D C H' (200 * i)) ?_ ?_ ?_
    · exact ⟨_, _, _, _, _, _, _, _, _, _, _, _, _, _, rfl, k1⟩
    · rintro i σ H2 hi ⟨t2, t3, t4, t5, t7, t8, t10, t11, t12, t13, t15, t16, t17, t18, rfl, k2⟩
      have hi5 : i ≤ 4 := by omega
      clear q1 k1
      walk_at "r"
      refine ⟨_, _, _, _, rfl, ⟨by decide, by decide⟩, k2, by omega, fun H3 r3 w3 k3 a3 b3 => ?_⟩
      obtain ⟨n, n1, n5, en⟩ : ∃ n : Nat, 1 ≤ n ∧ n ≤ 5 ∧ 1 + r3 = (n : Int) := ⟨(1 + r3).toNat, by omega, by omega, by omega⟩
      walk_at "r"
      rw [en]
      refine ⟨_, _, _, _, rfl, ⟨by decide, by decide⟩, k3, by omega, fun Hq rq wq kq aq bq => ?_⟩
      walk_at "r"
      rotate_left
      · exact cmul_small (by omega) (by split <;> decide)
      obtain ⟨sn, sn8, hsn, esn⟩ : ∃ sn : Nat, sn ≤ 8 ∧ (0 < sn → 2 ≤ n) ∧ rq * (if decide ((n : Int) > 1) = true then 1 else 0) = (sn : Int) := by
        by_cases c : (n : Int) > 1
        · rw [decide_eq_true c]
          exact ⟨rq.toNat, by omega, fun _ => by omega, by simp; omega⟩
        · rw [decide_eq_false c]
          exact ⟨0, by omega, fun h => absurd h (by decide), by simp⟩
      rw [esn]
      clear esn bq
      walk_at "r"
      refine ⟨by omega, by omega, fun S nS => ?_⟩
      have sD := kq.ne nS
      have sC := kq.neC nS
      have n8 : n ≤ 8 := by omega
      refine lc_range (lo := 0) (n := sn) (fun j H' => ∃ xs ss, Fw D Hq H' ∧ H' S = some (.lst xs) ∧ xs.length = j ∧ Sts K H' xs ss ∧ (∀ s ∈ ss, Ok16 n s) ∧ Deck 1048576 D C H' (200 * i + 2 + 6 * j)) ?_ ?_ ?_
      · exact ⟨[], [], Same.fw (same_upd nS), upd_same, rfl, .nil, by simp, (kq.same (same_upd nS)).mono (by omega)⟩
      · rintro j H' hj ⟨xs, ss, f5, hS', hlen, hst, hok, k⟩
        have n2 : 2 ≤ n := hsn (by omega)
        walk_at "r"
        refine ⟨rfl, ?_⟩
        walk_at "r"
        refine ⟨_, _, _, n, rfl, n2, n8, k, by omega, fun H7 v s w7 k7 iv ok7 => ?_⟩
        have hS7 := w7 _ _ sD hS'
        have tp := tps_put (H1 := H7) (o := .lst (xs ++ [v])) hS7
        refine ⟨xs, hS7, small1000 (by omega), xs ++ [v], ss ++ [s], fun b o hb' h => (upd_ne (ne_of_none h nS)).trans (w7 _ _ hb' (f5 _ _ hb' h)), upd_same, by simp [hlen], ((hst.ts (w7.ts k)).snoc iv).ts tp, fun t ht => ?_, (k7.put sD sC).mono (by omega)⟩
        rcases List.mem_append.mp ht with h | h
        · exact hok t h
        · rw [List.mem_singleton.mp h]
          exact ok7
      rintro H4 ⟨xs, ss, w4, hS4, hlen, hst4, hok, k4⟩
      have hlx := hst4.len
      have l16 : ss.length ≤ 16 := by omega
      have oks : ∀ s ∈ ss, OkSt n s := fun s hs => (hok s hs).toOkSt
      clear k2 w3 k3 wq kq w4
      walk_at "r"
      intro x4 dx4 nx nd ne
      have xS := ne_of_none hS4 nx
      have dS := ne_of_none hS4 nd
      refine ⟨x4, dx4, S, n, xs, ss, rfl, upd_same, .inl ((upd_ne xS).trans ((upd_ne dS).trans hS4)), n1, n8, by omega, ?_, fun s hs => ⟨(hok s hs).toOkSt, (hok s hs).bd.mono (by decide)⟩, fun H5 hweb kp => ⟨rfl, ?_⟩⟩
      · refine hst4.ts fun b zs hb => ?_
        rw [upd_ne (ne_of_none hb nx), upd_ne (ne_of_none hb nd)]
        exact hb
      have s5 : Same H4 H5 := Same.made nx nd kp
      have g : G17 K c_Web D C S x4 n (200 * i + 50) xs ss H5 := ⟨(k4.same s5).mono (by omega), hweb, s5 _ _ hS4, hst4.same s5, sD⟩
      clear hS4 hst4 k4 s5 kp xS dS nx nd ne hweb
      walk_at "r"
      refine ⟨by omega, by omega, fun Lp nP => ?_⟩
      have nPD := g.dk.ne nP
      have nPC := g.dk.neC nP
      refine lc_range (lo := 0) (n := n) (fun j H' => ∃ ys rs, Fw D H5 H' ∧ H' Lp = some (.lst ys) ∧ rs.length = j ∧ Fs K H' ys rs ∧ (∀ r ∈ rs, 0 ≤ r ∧ Gr 2880 720 r) ∧ Deck 1048576 D C H' (200 * i + 50 + 2 * j)) ?_ ?_ ?_
      · exact ⟨[], [], Same.fw (same_upd nP), upd_same, rfl, .nil, by simp, (g.dk.same (same_upd nP)).mono (by omega)⟩
      · rintro j H' hj ⟨ys, rs, fw, hL', hlen', hfs, hok', k⟩
        have hl2 := hfs.len
        walk_at "r"
        refine ⟨rfl, ?_⟩
        walk_at "r"
        refine ⟨_, _, _, _, rfl, ⟨by decide, by decide⟩, k, by omega, fun H1 r1 w1 k1 a1 b1 => ?_⟩
        walk_at "r"
        refine ⟨_, _, _, _, rfl, ⟨by decide, by decide⟩, k1, by omega, fun H2 r2 w2 k2 a2 b2 => ?_⟩
        walk_at "r"
        have hb : (1 + r2).natAbs < 2 ^ 3 := by omega
        refine ⟨_, _, rfl, by omega, Nat.lt_of_lt_of_le hb (pow_le (by decide)), fun H3 v s3 hv => ?_⟩
        have w3 := (w1.trans w2).trans (Same.fw s3)
        have hL3 := w3 _ _ nPD hL'
        refine ⟨ys, hL3, small1000 (by omega), ?_⟩
        have tp := tps_put (H1 := H3) (o := .lst (ys ++ [v])) hL3
        refine ⟨ys ++ [v], rs ++ [Rat.divInt r1 (1 + r2)], fun b o hb h => (upd_ne (ne_of_none h nP)).trans (w3 _ _ hb (fw _ _ hb h)), upd_same, by simp [hlen'], Paired.snoc (Fs.ts tp (Paired.mapP hfs fun _ _ h => h.ts (w3.ts k))) (hv.ts tp), fun t ht => ?_, ((k2.same s3).put nPD nPC).mono (by omega)⟩
        rcases List.mem_append.mp ht with h | h
        · exact hok' t h
        · rw [List.mem_singleton.mp h]
          exact row_of (k := 4) (by omega) (by omega) (by omega) (by omega) _ (by decide)
      rintro H6 ⟨yp, pu, fw6, hP6, lpu, hfp6, hpu, k6⟩
      have g := (g.fw fw6 k6).mono (show 200 * i + 50 + 2 * n ≤ 200 * i + 60 by omega)
      have rP : Rr K D Lp yp pu H6 := ⟨nPD, hP6, hfp6⟩
      have rp : Rw16 n 2880 720 pu := ⟨lpu, fun r hr => (hpu r hr).1, fun r hr => (hpu r hr).2⟩
      clear hP6 hfp6 k6 fw6 nPC nP hpu nPD
      walk_at "r"
      refine ⟨by omega, by omega, fun Lw nW => ?_⟩
      have nWD := g.dk.ne nW
      have nWC := g.dk.neC nW
      refine lc_range (lo := 0) (n := n) (fun j H' => ∃ ys rs, Fw D H6 H' ∧ H' Lw = some (.lst ys) ∧ rs.length = j ∧ Fs K H' ys rs ∧ (∀ r ∈ rs, 0 ≤ r ∧ Gr 2880 720 r) ∧ Deck 1048576 D C H' (200 * i + 60 + 2 * j)) ?_ ?_ ?_
      · exact ⟨[], [], Same.fw (same_upd nW), upd_same, rfl, .nil, by simp, (g.dk.same (same_upd nW)).mono (by omega)⟩
      · rintro j H' hj ⟨ys, rs, fw, hL', hlen', hfs, hok', k⟩
        have hl2 := hfs.len
        walk_at "r"
        refine ⟨rfl, ?_⟩
        walk_at "r"
        refine ⟨_, _, _, _, rfl, ⟨by decide, by decide⟩, k, by omega, fun H1 r1 w1 k1 a1 b1 => ?_⟩
        walk_at "r"
        refine ⟨_, _, _, _, rfl, ⟨by decide, by decide⟩, k1, by omega, fun H2 r2 w2 k2 a2 b2 => ?_⟩
        walk_at "r"
        have hb : (1 + r2).natAbs < 2 ^ 3 := by omega
        refine ⟨_, _, rfl, by omega, Nat.lt_of_lt_of_le hb (pow_le (by decide)), fun H3 v s3 hv => ?_⟩
        have w3 := (w1.trans w2).trans (Same.fw s3)
        have hL3 := w3 _ _ nWD hL'
        refine ⟨ys, hL3, small1000 (by omega), ?_⟩
        have tp := tps_put (H1 := H3) (o := .lst (ys ++ [v])) hL3
        refine ⟨ys ++ [v], rs ++ [Rat.divInt r1 (1 + r2)], fun b o hb h => (upd_ne (ne_of_none h nW)).trans (w3 _ _ hb (fw _ _ hb h)), upd_same, by simp [hlen'], Paired.snoc (Fs.ts tp (Paired.mapP hfs fun _ _ h => h.ts (w3.ts k))) (hv.ts tp), fun t ht => ?_, ((k2.same s3).put nWD nWC).mono (by omega)⟩
        rcases List.mem_append.mp ht with h | h
        · exact hok' t h
        · rw [List.mem_singleton.mp h]
          exact row_of (k := 4) (by omega) (by omega) (by omega) (by omega) _ (by decide)
      rintro H7 ⟨yw, wi, fw7, hW7, lwi, hfw7, hwi, k7⟩
      have rP := rP.fw g.dk fw7
      have g := (g.fw fw7 k7).mono (show 200 * i + 60 + 2 * n ≤ 200 * i + 70 by omega)
      have rW : Rr K D Lw yw wi H7 := ⟨nWD, hW7, hfw7⟩
      have rw16 : Rw16 n 2880 720 wi := ⟨lwi, fun r hr => (hwi r hr).1, fun r hr => (hwi r hr).2⟩
      clear k7 fw7 nWC nW hwi hW7 hfw7 nWD
      walk_at "r"
      refine ⟨by omega, by omega, fun Lx nX => ?_⟩
      have nXD := g.dk.ne nX
      have nXC := g.dk.neC nX
      refine lc_range (lo := 0) (n := n) (fun j H' => ∃ ys rs, Fw D H7 H' ∧ H' Lx = some (.lst ys) ∧ rs.length = j ∧ Fs K H' ys rs ∧ (∀ r ∈ rs, Sca r) ∧ Deck 1048576 D C H' (200 * i + 70 + 2 * j)) ?_ ?_ ?_
      · exact ⟨[], [], Same.fw (same_upd nX), upd_same, rfl, .nil, by simp, (g.dk.same (same_upd nX)).mono (by omega)⟩
      · rintro j H' hj ⟨ys, rs, fw, hL', hlen', hfs, hok', k⟩
        have hl2 := hfs.len
        walk_at "r"
        refine ⟨rfl, ?_⟩
        walk_at "r"
        refine ⟨_, _, _, _, rfl, ⟨by decide, by decide⟩, k, by omega, fun H1 r1 w1 k1 a1 b1 => ?_⟩
        walk_at "r"
        refine ⟨_, _, _, _, rfl, ⟨by decide, by decide⟩, k1, by omega, fun H2 r2 w2 k2 a2 b2 => ?_⟩
        walk_at "r"
        have hb : (1 + r2).natAbs < 2 ^ 3 := by omega
        refine ⟨_, _, rfl, by omega, Nat.lt_of_lt_of_le hb (pow_le (by decide)), fun H3 v s3 hv => ?_⟩
        have w3 := (w1.trans w2).trans (Same.fw s3)
        have hL3 := w3 _ _ nXD hL'
        refine ⟨ys, hL3, small1000 (by omega), ?_⟩
        have tp := tps_put (H1 := H3) (o := .lst (ys ++ [v])) hL3
        refine ⟨ys ++ [v], rs ++ [Rat.divInt (1 + r1) (1 + r2)], fun b o hb h => (upd_ne (ne_of_none h nX)).trans (w3 _ _ hb (fw _ _ hb h)), upd_same, by simp [hlen'], Paired.snoc (Fs.ts tp (Paired.mapP hfs fun _ _ h => h.ts (w3.ts k))) (hv.ts tp), fun t ht => ?_, ((k2.same s3).put nXD nXC).mono (by omega)⟩
        rcases List.mem_append.mp ht with h | h
        · exact hok' t h
        · rw [List.mem_singleton.mp h]
          exact Sca.of (by omega) (by omega) (by omega) (by omega)
      rintro H8 ⟨yx, ρ, fw8, hX8, lρ, hfx8, hsc, k8⟩
      have rP := rP.fw g.dk fw8
      have rW := rW.fw g.dk fw8
      have g := (g.fw fw8 k8).mono (show 200 * i + 70 + 2 * n ≤ 200 * i + 80 by omega)
      walk_at "r"
      refine ⟨_, _, rfl, .inl ⟨.of hX8, fun X nX2 => ?_⟩⟩
      have s9 := same_upd (o := .tup yx) nX2
      have rX : Rt K D X yx ρ (upd H8 X (.tup yx)) := ⟨g.dk.ne nX2, upd_same, Fs.same s9 hfx8⟩
      generalize upd H8 X (.tup yx) = H9 at *
      have rP := rP.same s9
      have rW := rW.same s9
      have g := g.same s9
      clear k8 fw8 nXC nX hX8 hfx8 nXD nX2 s9
      have lx := rX.fs.len
      have hsi : ∀ j, j < n → Sca (xOf ρ j) := fun j hj => by
        have : (xOf ρ j) ∈ ρ := by
          unfold xOf
          rw [List.getD_eq_getElem?_getD, List.getElem?_eq_getElem (by omega)]
          exact List.getElem_mem _
        exact hsc _ this
      walk_at "r"
      refine ⟨S, Lp, X, n, xs, ss, pu, ρ, yp, yx, rfl, g.fS, g.st, n8, l16, hok, rP.f, rP.fs, rp, rX.f, rX.fs, lρ, hsi, fun Ha R Lm Le ym ye mo ed sa hR nLm nLe hM hfm hE hfe ee est => ?_⟩
      have mD := g.dk.ne nLm
      have eD := g.dk.ne nLe
      have g := g.same sa
      have rP := rP.same sa
      have rW := rW.same sa
      have rX := rX.same sa
      have rM : Rr K D Lm ym mo Ha := ⟨mD, hM, hfm⟩
      have rE : Rr K D Le ye ed Ha := ⟨eD, hE, hfe⟩
      clear hM hfm hE hfe mD eD nLm nLe sa
      have em := ee.m
      have ew := ee.w
      have t2 : OkT n ss pu wi := OkT.of16 (k := 1) (N := 420480) n1 n8 l16 hok (by decide) (by decide) rp rw16 (by decide) (by decide) (by decide) (by decide) (by decide) (by decide) (by decide) fun i hi => stay_gr l16 hok rp rw16 hi
      have t3 : OkT n ss mo ed := OkT.of16 (k := 1) (N := 829440) n1 n8 l16 hok (by decide) (by decide) em ew (by decide) (by decide) (by decide) (by decide) (by decide) (by decide) (by decide) fun i hi => ee.st i hi
      walk_at "r"
      refine ⟨R, _, rfl, .of hR, rfl, ?_⟩
      clear hR
      walk_at "r"
      refine ⟨fun σ H' => ∃ (t2 t12 t13 : Option V) (Lp Lw : Addr) (yp yw : List V) (pu wi : List Rat), σ = [some (.ref a), some (.ref D), t2, some (.int (n : Nat)), some (.int (sn : Nat)), some (.ref S), none, some (.ref x4), some (.ref Lp), none, some (.ref Lw), some (.ref X), t12, t13, none, t15, t16, t17, t18] ∧
        G17 K c_Web D C S x4 n (200 * i + 81) xs ss H' ∧ Rr K D Lp yp pu H' ∧ Rr K D Lw yw wi H' ∧ Rt K D X yx ρ H' ∧ Rw16 n (2 ^ 21) 720 pu ∧ Rw16 n (2 ^ 21) 720 wi ∧ OkT n ss pu wi, ?_, ?_⟩
      · have lym := rM.fs.len
        have lye := rE.fs.len
        have lmo := em.len
        have led := ew.len
        have lA : (ym ++ ye).length = 2 * n := by rw [List.length_append]; omega
        walk_at "r"
        refine ⟨Lm, Le, ym, ye, rfl, rfl, rM.f, rE.f, Nat.le_of_lt (small1000 (by omega)), fun A4 nA4 => ?_⟩
        have sc := same_upd (o := .lst (ym ++ ye)) nA4
        have hA4 : upd Ha A4 (.lst (ym ++ ye)) A4 = some (.lst (ym ++ ye)) := upd_same
        have fs4 : Fs K (upd Ha A4 (.lst (ym ++ ye))) (ym ++ ye) (mo ++ ed) := paired_app (Fs.same sc rM.fs) (Fs.same sc rE.fs)
        have g := g.same sc
        have rP := rP.same sc
        have rW := rW.same sc
        have rX := rX.same sc
        have rM := rM.same sc
        have rE := rE.same sc
        generalize upd Ha A4 (.lst (ym ++ ye)) = Hc at *
        walk_at "r"
        refine ⟨⟨_, .of hA4⟩, fun Dm nDm => ?_⟩
        refine lc_listP (R := fun H v (_ : Unit) => ∃ m : Int, v = V.int m) (fun _ _ _ _ _ h => h) (f := fun i => some ()) nDm (by omega) (.of hA4) (fun i x hx H' Q' N' s1 hy hn => ?_) fun Hd hld => ?_
        · obtain ⟨r, hr1, p, rfl, hp⟩ := Paired.at fs4 hx
          have hp := hp.same s1
          walk_at "r"
          refine ⟨rfl, ?_⟩
          walk_at "r"
          refine ⟨p, _, _, rfl, hp.sq, fun m _ _ => ?_⟩
          exact hy () _ _ rfl (Same.refl _) ⟨m, rfl⟩
        obtain ⟨sd, zs, hDm, hzs⟩ := hld
        obtain ⟨ms, rfl, lms⟩ := ints_some hzs
        have nms : ms ≠ [] := fun z => by
          rw [z] at lms
          rw [lA, upTo_map] at lms
          simp at lms
          omega
        have g := g.same sd
        have rP := rP.same sd
        have rW := rW.same sd
        have rX := rX.same sd
        have rM := rM.same sd
        have rE := rE.same sd
        walk_at "r"
        refine ⟨Dm, ms, rfl, .of hDm, nms, fun mx _ => ?_⟩
        clear hA4 fs4 hDm hzs nms lms sc sd nDm nA4 lA lym lye lmo led
        walk_at "r"
        walk_at "if"
        · walk_at "r"
          refine ⟨_, _, _, _, rfl, ⟨by decide, by decide⟩, g.dk, by omega, fun He re we ke ae be => ?_⟩
          have rP := rP.fw g.dk we
          have rW := rW.fw g.dk we
          have rX := rX.fw g.dk we
          have rM := rM.fw g.dk we
          have rE := rE.fw g.dk we
          have g := (g.fw we ke).mono (show 200 * i + 80 + 1 ≤ 200 * i + 81 by omega)
          clear we ke
          walk_at "r"
          walk_at "if"
          · walk_at "r"
            intro q5 nq5
            have s5 := same_upd (o := .lst [V.ref Lm, .ref Le]) nq5
            have hq5 : upd He q5 (.lst [V.ref Lm, .ref Le]) q5 = some (.lst [V.ref Lm, .ref Le]) := upd_same
            have rX := rX.same s5
            have rM := rM.same s5
            have rE := rE.same s5
            have g := g.same s5
            generalize upd He q5 (.lst [V.ref Lm, .ref Le]) = Hf at *
            refine ⟨q5, _, rfl, .of hq5, rfl, ?_⟩
            walk_at "r"
            refine ⟨_, _, _, _, n, ss, mo, ed, ρ, rfl, g.web, ⟨Lm, ym, rfl, .inl rM.f, rM.fs⟩, ⟨Le, ye, rfl, .inl rE.f, rE.fs⟩, t3, ⟨X, yx, rfl, rX.f, rX.fs⟩, OkA.of_bd lρ n8 fun r hr => ⟨Rat.le_of_lt (hsc r hr).p, (hsc r hr).b.mono (by decide)⟩, fun Hg b sg hb => ?_⟩
            obtain rfl : b = true := hb.mpr ((meet_iff oks lρ fun r hr => (hsc r hr).p).mpr (edge_meets (fun j hj => (hsi j hj).p) est))
            walk_at "r"
            refine ⟨true, true, rfl, rfl, ?_⟩
            walk_at "r"
            exact ⟨_, _, _, Lm, Le, ym, ye, mo, ed, rfl, g.same sg, rM.same sg, rE.same sg, rX.same sg, em, ew, t3⟩
          · walk_at "r"
            exact ⟨_, _, _, Lp, Lw, yp, yw, pu, wi, rfl, g, rP, rW, rX, rp.mono17 (by decide), rw16.mono17 (by decide), t2⟩
        · walk_at "r"
          exact ⟨_, _, _, Lp, Lw, yp, yw, pu, wi, rfl, g.mono (by omega), rP, rW, rX, rp.mono17 (by decide), rw16.mono17 (by decide), t2⟩
      · rintro σ Hb ⟨t2, t12, t13, Lp, Lw, yp, yw, pu, wi, rfl, g, rP, rW, rX, rp, rw16, ot⟩
        walk_at "r"
        refine ⟨_, _, _, n, ss, pu, wi, rfl, g.web, ⟨Lp, yp, rfl, .inl rP.f, rP.fs⟩, ⟨Lw, yw, rfl, .inl rW.f, rW.fs⟩, ot, fun Hf u sf hu => ?_⟩
        have rP := rP.same sf
        have rW := rW.same sf
        have rX := rX.same sf
        have g := g.same sf
        have thx : Th K D Hf n (.ref X) := .inr ⟨X, yx, ρ, rfl, rX.ne, rX.f, rX.fs, lρ, fun r hr => (hsc r hr).p, OkA.of_bd lρ n8 fun r hr => ⟨Rat.le_of_lt (hsc r hr).p, (hsc r hr).b.mono (by decide)⟩⟩
        have thu : Th K D Hf n u := by
          rcases hu with ⟨rfl, _⟩ | ⟨hm, Y, yy, rfl, hY, fY⟩
          · exact .inl rfl
          · obtain ⟨o1, o2⟩ := found_ok17 ot hm
            exact .inr ⟨Y, yy, _, rfl, tup_neD g.dk hY, hY, fY, o1.len, o2, o1⟩
        clear hu sf
        walk_at "r"
        intro F nF
        have sc := same_upd (o := .lst [V.ref X, u]) nF
        have hF : upd Hf F (.lst [V.ref X, u]) F = some (.lst [V.ref X, u]) := upd_same
        have FD := g.dk.ne nF
        have rP := rP.same sc
        have rW := rW.same sc
        have rX := rX.same sc
        have thx := thx.same sc
        have thu := thu.same sc
        have g := g.same sc
        generalize upd Hf F (.lst [V.ref X, u]) = Hg at *
        clear sc nF
        refine ⟨F, rfl, ⟨_, .of hF⟩, ?_⟩
        refine for_list (K := K) (a := F) (xs := [V.ref X, u]) (fun j σ H' => ∃ (t16 t17 : Option V), σ = [some (.ref a), some (.ref D), t2, some (.int (n : Nat)), some (.int (sn : Nat)), some (.ref S), none, some (.ref x4), some (.ref Lp), none, some (.ref Lw), some (.ref X), t12, t13, none, some u, t16, t17, t18] ∧ Fw D Hg H' ∧ Deck 1048576 D C H' (200 * i + 81 + 28 * j)) ?_ ?_ ?_ ?_
        · exact ⟨_, _, rfl, Fw.refl _ _, g.dk⟩
        · rintro j σ H' _ ⟨t16, t17, rfl, f, _⟩
          exact .of (f _ _ FD hF)
        · rintro j v σ Hh hj ⟨t16, t17, rfl, f, k⟩
          have j2 : j < 2 := (List.getElem?_eq_some_iff.mp hj).1
          have th : Th K D Hh n v := by
            match j, hj with
            | 0, hj =>
              cases hj
              exact thx.fw g.dk f
            | 1, hj =>
              cases hj
              exact thu.fw g.dk f
          have rP := rP.fw g.dk f
          have rW := rW.fw g.dk f
          have g1 := g.fw f k
          rcases th with rfl | ⟨Y, yy, τ, rfl, YD, hY, fY, lτ, posτ, okτ⟩
          · walk_at "r"
            refine ⟨rfl, ?_⟩
            walk_at "r"
            refine ⟨rfl, ?_⟩
            walk_at "r"
            exact ⟨_, _, rfl, f, k.mono (by omega)⟩
          · have jt : JT K D Hh n (.ref Y) (some τ) := jx_okA YD hY fY okτ n8 posτ
            walk_at "r"
            refine ⟨rfl, ?_⟩
            walk_at "r"
            rw [if_pos (by simp)]
            walk_at "r"
            refine ⟨_, _, D, Lp, Lw, n, ss, pu, wi, yp, yw, rfl, g1.web, hok, rP.f, rP.fs, rW.f, rW.fs, ot, ⟨_, jt⟩, fun Hi si => ?_⟩
            have jt := jt.same si
            have rP := rP.same si
            have rW := rW.same si
            have hY := si _ _ hY
            have fY := Fs.same si fY
            have f := f.trans (Same.fw si)
            have g1 := g1.same si
            clear si k
            walk_at "r"
            refine ⟨rfl, ?_⟩
            walk_at "r"
            rw [if_pos (by simp)]
            walk_at "r"
            have ly := fY.len
            refine ⟨⟨_, .of hY⟩, fun Dm nDm => ?_⟩
            refine lc_tupP (R := fun H v (r : Rat) => ∃ m : Int, v = V.int m ∧ r.num ≤ m ∧ (r.den : Int) ≤ m) (fun _ _ _ _ _ h => h) (f := fun i => τ[i]?) nDm (by omega) (.of hY) (fun i x hx H' Q' N' s1 hy hn => ?_) fun Hd hld => ?_
            · obtain ⟨r, hr1, p, rfl, hp⟩ := Paired.at fY hx
              have hp := hp.same s1
              walk_at "r"
              refine ⟨rfl, ?_⟩
              walk_at "r"
              refine ⟨p, _, _, rfl, hp.sq, fun m h1 h2 => ?_⟩
              exact hy r _ _ hr1 (Same.refl _) ⟨m, rfl, h1, h2⟩
            obtain ⟨sd, zs, hDm, hzs⟩ := hld
            rw [show yy.length = τ.length by omega, upTo_self] at hzs
            obtain ⟨ms, rfl, lms, hms⟩ := ints_big hzs
            have nms : ms ≠ [] := fun z => by
              rw [z, lτ] at lms
              simp at lms
              omega
            walk_at "r"
            refine ⟨Dm, ms, rfl, .of hDm, nms, fun mx hmx => ?_⟩
            have jt := jt.same sd
            have rP := rP.same sd
            have rW := rW.same sd
            have hY := sd _ _ hY
            have fY := Fs.same sd fY
            have f := f.trans (Same.fw sd)
            have g1 := g1.same sd
            clear hDm hzs nms nDm sd
            walk_at "r"
            walk_at "if"
            · rename_i cmx
              have hB : ∀ r ∈ τ, 0 < r ∧ Bd 200 r := fun r hr => ⟨posτ r hr, big_bd (posτ r hr) (hms mx hmx r hr).1 (hms mx hmx r hr).2 cmx⟩
              walk_at "r"
              refine ⟨by decide, by decide, ?_⟩
              refine for_range (lo := 0) (n := 4) (fun c σ H' => ∃ (t17 : Option V), σ = [some (.ref a), some (.ref D), t2, some (.int (n : Nat)), some (.int (sn : Nat)), some (.ref S), none, some (.ref x4), some (.ref Lp), none, some (.ref Lw), some (.ref X), t12, t13, none, some u, some (.ref Y), t17, t18] ∧ Fw D Hd H' ∧ Deck 1048576 D C H' (200 * i + 81 + 28 * j + 7 * c)) ?_ ?_ ?_
              · exact ⟨_, rfl, Fw.refl _ _, g1.dk⟩
              · rintro c σ Hm hc ⟨t17, rfl, fm, km⟩
                have hc4 : c < 4 := hc
                have g2 := g1.fw fm km
                walk_at "r"
                refine ⟨D, C, _, Y, _, n, ss, τ, yy, rfl, km, by omega, g2.web, YD, fm _ _ YD hY, Fs.ts (fm.ts g1.dk) fY, lτ, n1, n8, hB, jt.fw g1.dk fm, fun Ho u2 fo ko jx => ?_⟩
                have rP := (rP.fw g1.dk fm).fw g2.dk fo
                have rW := (rW.fw g1.dk fm).fw g2.dk fo
                have g3 := g2.fw fo ko
                walk_at "r"
                refine ⟨_, u2, D, Lp, Lw, n, ss, pu, wi, yp, yw, rfl, g3.web, hok, rP.f, rP.fs, rW.f, rW.fs, ot, jx, fun Hr sr => ?_⟩
                walk_at "r"
                exact ⟨(fm.trans fo).trans (Same.fw sr), (ko.same sr).mono (by omega)⟩
              · rintro σ Hm ⟨t17, rfl, fm, km⟩
                walk_at "r"
                exact ⟨_, _, rfl, f.trans fm, km.mono (by omega)⟩
            · walk_at "r"
              exact ⟨_, _, rfl, f, g1.dk.mono (by omega)⟩
        · rintro σ Hh ⟨t16, t17, rfl, f, k⟩
          have rP := rP.fw g.dk f
          have rW := rW.fw g.dk f
          have rX := rX.fw g.dk f
          have g := (g.fw f k).mono (show 200 * i + 81 + 28 * [V.ref X, u].length ≤ 200 * i + 137 by show 200 * i + 81 + 28 * 2 ≤ _; omega)
          clear thx thu f k hF
          walk_at "r"
          refine ⟨_, _, _, rfl, g.dk, by omega, fun Hi v fi ki _ => ?_⟩
          have rP := rP.fw g.dk fi
          have rW := rW.fw g.dk fi
          have g := g.fw fi ki
          clear fi ki
          walk_at "r"
          intro F2 nF2
          have sc := same_upd (o := .lst [V.ref X, .non, v]) nF2
          have hF2 : upd Hi F2 (.lst [V.ref X, .non, v]) F2 = some (.lst [V.ref X, .non, v]) := upd_same
          have rP := rP.same sc
          have rW := rW.same sc
          have g := g.same sc
          generalize upd Hi F2 (.lst [V.ref X, .non, v]) = Hj at *
          clear sc nF2
          refine ⟨F2, rfl, ⟨_, .of hF2⟩, ?_⟩
          refine for_list (K := K) (a := F2) (xs := [V.ref X, .non, v]) (fun j σ H' => ∃ (t16 t18 : Option V), σ = [some (.ref a), some (.ref D), t2, some (.int (n : Nat)), some (.int (sn : Nat)), some (.ref S), none, some (.ref x4), some (.ref Lp), none, some (.ref Lw), some (.ref X), t12, t13, none, some u, t16, t17, t18] ∧ Same Hj H') ?_ ?_ ?_ ?_
          · exact ⟨_, _, rfl, Same.refl _⟩
          · rintro j σ H' _ ⟨t16, t18, rfl, f⟩
            exact .of (f _ _ hF2)
          · rintro j y σ Hk hj ⟨t16, t18, rfl, sk⟩
            have rP := rP.same sk
            have rW := rW.same sk
            have g := g.same sk
            have bP : ∀ r ∈ pu, Bd 2200 r := fun r hr => gr_bd (rp.gr r hr) (by decide) 21 10 (by decide) (by decide) (by decide) (by decide)
            have bW : ∀ r ∈ wi, Bd 2200 r := fun r hr => gr_bd (rw16.gr r hr) (by decide) 21 10 (by decide) (by decide) (by decide) (by decide)
            have lP := rp.len
            have lW := rw16.len
            have lyp := rP.fs.len
            have lyw := rW.fs.len
            have dP : (pu.drop 1).length ≠ n := by rw [List.length_drop]; omega
            have dW : (wi.drop 1).length ≠ n := by rw [List.length_drop]; omega
            have dyP : (yp.drop 1).length ≤ 20 := by rw [List.length_drop]; omega
            have dyW : (yw.drop 1).length ≤ 20 := by rw [List.length_drop]; omega
            have cP : ∀ r ∈ pu.drop 1, Bd 2200 r := fun r hr => bP r (List.mem_of_mem_drop hr)
            have cW : ∀ r ∈ wi.drop 1, Bd 2200 r := fun r hr => bW r (List.mem_of_mem_drop hr)
            walk_at "r"
            refine rd_tail rP.f fun p1 np1 => ?_
            have s1 := same_upd (o := .lst (yp.drop 1)) np1
            have hp1 : upd Hk p1 (.lst (yp.drop 1)) p1 = some (.lst (yp.drop 1)) := upd_same
            generalize upd Hk p1 (.lst (yp.drop 1)) = Hl at *
            walk_at "r"
            refine rd_tail (s1 _ _ rW.f) fun p2 np2 => ?_
            have s2 := same_upd (o := .lst (yw.drop 1)) np2
            have hp2 : upd Hl p2 (.lst (yw.drop 1)) p2 = some (.lst (yw.drop 1)) := upd_same
            generalize upd Hl p2 (.lst (yw.drop 1)) = Hm at *
            have s12 := s1.trans s2
            walk_at "r"
            refine ⟨_, y, p1, p2, n, ss, pu.drop 1, wi.drop 1, _, _, true, rfl, g.web.same s12, n8, s2 _ _ hp1, Fs.same s12 (fs_drop rP.fs 1), hp2, Fs.same s12 (fs_drop rW.fs 1), dW, dyW, cW, fun _ => ⟨dP, dyP, cP⟩, fun z => Bool.noConfusion z, fun Hn s3 => ?_⟩
            rw [if_pos rfl]
            have s13 := s12.trans s3
            walk_at "r"
            refine rd_tail (s13 _ _ rW.f) fun p3 np3 => ?_
            have s4 := same_upd (o := .lst (yw.drop 1)) np3
            have hp3 : upd Hn p3 (.lst (yw.drop 1)) p3 = some (.lst (yw.drop 1)) := upd_same
            generalize upd Hn p3 (.lst (yw.drop 1)) = Ho at *
            have s14 := s13.trans s4
            walk_at "r"
            refine ⟨_, y, Lp, p3, n, ss, pu, wi.drop 1, _, _, false, rfl, g.web.same s14, n8, s14 _ _ rP.f, Fs.same s14 rP.fs, hp3, Fs.same s14 (fs_drop rW.fs 1), dW, dyW, cW, fun z => Bool.noConfusion z, fun _ => ⟨lP, rp.nn⟩, fun Hp s5 => ?_⟩
            rw [if_neg Bool.false_ne_true]
            have s15 := s14.trans s5
            walk_at "r"
            intro q1 nq1
            have s6 := same_upd (o := .lst [V.str "purse", .str "wish"]) nq1
            have hq1 : upd Hp q1 (.lst [V.str "purse", .str "wish"]) q1 = some (.lst [V.str "purse", .str "wish"]) := upd_same
            generalize upd Hp q1 (.lst [V.str "purse", .str "wish"]) = Hq at *
            walk_at "r"
            intro q2 nq2
            have s7 := same_upd (o := .lst [V.str "purse", .str "wish"]) nq2
            have hq2 : upd Hq q2 (.lst [V.str "purse", .str "wish"]) q2 = some (.lst [V.str "purse", .str "wish"]) := upd_same
            refine ne_words (s7 _ _ hq1) hq2 ?_
            walk_at "r"
            exact ⟨_, _, rfl, sk.trans (s15.trans (s6.trans s7))⟩
          · rintro σ Hk ⟨t16, t18, rfl, sk⟩
            walk_at "r"
            exact ⟨_, _, _, _, _, _, _, _, _, _, _, _, _, _, rfl, (g.dk.same sk).mono (by omega)⟩
    · rintro σ H' ⟨t2, t3, t4, t5, t7, t8, t10, t11, t12, t13, t15, t16, t17, t18, rfl, _⟩
      walk_at "r"
      exact q _
theorem ok_all (T : Txt K mg f__wall f_is_integer f_is_row f_is_fraction f_is_amount f_is_some f_are_amounts f_added f_negated f_lessened f_multiplied f_divided f_squared f_summed f_lies_below f_is_stall f_hold_of f_stalls_of f_kept_of f_held f_roots f_check_purse f_check_wish f_may_stay f_table_of f_strike_row f_are_some f_filled_back f_in_order f_struck_in_turn f_scales f_is_scales f_l_deck f_l_pick f_l_divisor f_l_made f_l_added f_l_taken f_l_product f_l_amount f_l_stall f_l_held f_l_pulls f_l_edge f_l_deep f_l_changed f_l_are_some f_l_due f_l_is_judged f_l_word f_law f_Web_init f_Table_init f_Table_wrong_sign f_Table_behind f_Table_ties_without c_BadPurse c_BadWish c_Table c_Web c_ONE c_ZERO d__wall d_is_integer d_is_row d_is_fraction d_is_amount d_is_some d_are_amounts d_added d_negated d_lessened d_multiplied d_divided d_squared d_summed d_lies_below d_is_stall d_hold_of d_stalls_of d_kept_of d_held d_roots d_check_purse d_check_wish d_may_stay d_table_of d_strike_row d_are_some d_filled_back d_in_order d_struck_in_turn d_scales d_is_scales d_l_deck d_l_pick d_l_divisor d_l_made d_l_added d_l_taken d_l_product d_l_amount d_l_stall d_l_held d_l_pulls d_l_edge d_l_deep d_l_changed d_l_are_some d_l_due d_l_is_judged d_l_word d_law d_Web_init d_Table_init d_Table_wrong_sign d_Table_behind d_Table_ties_without) : FnOk P w K mg base CX0 9 f_law d_law ["_law_script"] (sp_law K) := ok_law T
end
end My
namespace My
open PySem PySem.Spec PyProof.Rows L2
theorem all_mk {l : PySem.W.OpenLaw} {w : World} {K : PySem.W.Frag} {h : Heap} {mg : Str → Option Value} {fa : Addr} (X : K.In h) (G : h.Ns mainGlobals mg) (hfa : mg "law" = some (.ref fa))
    {c_BadPurse : Addr}
    {c_BadWish : Addr}
    {c_Table : Addr}
    {c_Web : Addr}
    {c_ONE : Addr} {dd_ONE : Option Addr} {its_ONE : Array Value} {n_ONE : Nat} {sl_ONE : Array (Option Value)}
    {c_ZERO : Addr} {dd_ZERO : Option Addr} {its_ZERO : Array Value} {n_ZERO : Nat} {sl_ZERO : Array (Option Value)}
    {tk_MOST_STALLS : Tok}
    {tk_MOST_WARES : Tok}
    {od0 an0 : Option Addr} {sl0 : Array (Option Value)} {oc0 kV0 dc0 pm0 cd0 ct0 : Value} {f__wall : Addr}
    {od1 an1 : Option Addr} {sl1 : Array (Option Value)} {oc1 kV1 dc1 pm1 cd1 ct1 : Value} {f_is_integer : Addr}
    {od2 an2 : Option Addr} {sl2 : Array (Option Value)} {oc2 kV2 dc2 pm2 cd2 ct2 : Value} {f_is_row : Addr}
    {od3 an3 : Option Addr} {sl3 : Array (Option Value)} {oc3 kV3 dc3 pm3 cd3 ct3 : Value} {f_is_fraction : Addr}
    {od4 an4 : Option Addr} {sl4 : Array (Option Value)} {oc4 kV4 dc4 pm4 cd4 ct4 : Value} {f_is_amount : Addr}
    {od5 an5 : Option Addr} {sl5 : Array (Option Value)} {oc5 kV5 dc5 pm5 cd5 ct5 : Value} {f_is_some : Addr}
    {od6 an6 : Option Addr} {sl6 : Array (Option Value)} {oc6 kV6 dc6 pm6 cd6 ct6 : Value} {f_are_amounts : Addr}
    {od7 an7 : Option Addr} {sl7 : Array (Option Value)} {oc7 kV7 dc7 pm7 cd7 ct7 : Value} {f_added : Addr}
    {od8 an8 : Option Addr} {sl8 : Array (Option Value)} {oc8 kV8 dc8 pm8 cd8 ct8 : Value} {f_negated : Addr}
    {od9 an9 : Option Addr} {sl9 : Array (Option Value)} {oc9 kV9 dc9 pm9 cd9 ct9 : Value} {f_lessened : Addr}
    {od10 an10 : Option Addr} {sl10 : Array (Option Value)} {oc10 kV10 dc10 pm10 cd10 ct10 : Value} {f_multiplied : Addr}
    {od11 an11 : Option Addr} {sl11 : Array (Option Value)} {oc11 kV11 dc11 pm11 cd11 ct11 : Value} {f_divided : Addr}
    {od12 an12 : Option Addr} {sl12 : Array (Option Value)} {oc12 kV12 dc12 pm12 cd12 ct12 : Value} {f_squared : Addr}
    {od13 an13 : Option Addr} {sl13 : Array (Option Value)} {oc13 kV13 dc13 pm13 cd13 ct13 : Value} {f_summed : Addr}
    {od14 an14 : Option Addr} {sl14 : Array (Option Value)} {oc14 kV14 dc14 pm14 cd14 ct14 : Value} {f_lies_below : Addr}
    {od15 an15 : Option Addr} {sl15 : Array (Option Value)} {oc15 kV15 dc15 pm15 cd15 ct15 : Value} {f_is_stall : Addr}
    {od16 an16 : Option Addr} {sl16 : Array (Option Value)} {oc16 kV16 dc16 pm16 cd16 ct16 : Value} {f_hold_of : Addr}
    {od17 an17 : Option Addr} {sl17 : Array (Option Value)} {oc17 kV17 dc17 pm17 cd17 ct17 : Value} {f_stalls_of : Addr}
    {od18 an18 : Option Addr} {sl18 : Array (Option Value)} {oc18 kV18 dc18 pm18 cd18 ct18 : Value} {f_kept_of : Addr}
    {od19 an19 : Option Addr} {sl19 : Array (Option Value)} {oc19 kV19 dc19 pm19 cd19 ct19 : Value} {f_held : Addr}
    {od20 an20 : Option Addr} {sl20 : Array (Option Value)} {oc20 kV20 dc20 pm20 cd20 ct20 : Value} {f_roots : Addr}
    {od21 an21 : Option Addr} {sl21 : Array (Option Value)} {oc21 kV21 dc21 pm21 cd21 ct21 : Value} {f_check_purse : Addr}
    {od22 an22 : Option Addr} {sl22 : Array (Option Value)} {oc22 kV22 dc22 pm22 cd22 ct22 : Value} {f_check_wish : Addr}
    {od23 an23 : Option Addr} {sl23 : Array (Option Value)} {oc23 kV23 dc23 pm23 cd23 ct23 : Value} {f_may_stay : Addr}
    {od24 an24 : Option Addr} {sl24 : Array (Option Value)} {oc24 kV24 dc24 pm24 cd24 ct24 : Value} {f_table_of : Addr}
    {od25 an25 : Option Addr} {sl25 : Array (Option Value)} {oc25 kV25 dc25 pm25 cd25 ct25 : Value} {f_strike_row : Addr}
    {od26 an26 : Option Addr} {sl26 : Array (Option Value)} {oc26 kV26 dc26 pm26 cd26 ct26 : Value} {f_are_some : Addr}
    {od27 an27 : Option Addr} {sl27 : Array (Option Value)} {oc27 kV27 dc27 pm27 cd27 ct27 : Value} {f_filled_back : Addr}
    {od28 an28 : Option Addr} {sl28 : Array (Option Value)} {oc28 kV28 dc28 pm28 cd28 ct28 : Value} {f_in_order : Addr}
    {od29 an29 : Option Addr} {sl29 : Array (Option Value)} {oc29 kV29 dc29 pm29 cd29 ct29 : Value} {f_struck_in_turn : Addr}
    {od30 an30 : Option Addr} {sl30 : Array (Option Value)} {oc30 kV30 dc30 pm30 cd30 ct30 : Value} {f_scales : Addr}
    {od31 an31 : Option Addr} {sl31 : Array (Option Value)} {oc31 kV31 dc31 pm31 cd31 ct31 : Value} {f_is_scales : Addr}
    {od32 an32 : Option Addr} {sl32 : Array (Option Value)} {oc32 kV32 dc32 pm32 cd32 ct32 : Value} {f_l_deck : Addr}
    {od33 an33 : Option Addr} {sl33 : Array (Option Value)} {oc33 kV33 dc33 pm33 cd33 ct33 : Value} {f_l_pick : Addr}
    {od34 an34 : Option Addr} {sl34 : Array (Option Value)} {oc34 kV34 dc34 pm34 cd34 ct34 : Value} {f_l_divisor : Addr}
    {od35 an35 : Option Addr} {sl35 : Array (Option Value)} {oc35 kV35 dc35 pm35 cd35 ct35 : Value} {f_l_made : Addr}
    {od36 an36 : Option Addr} {sl36 : Array (Option Value)} {oc36 kV36 dc36 pm36 cd36 ct36 : Value} {f_l_added : Addr}
    {od37 an37 : Option Addr} {sl37 : Array (Option Value)} {oc37 kV37 dc37 pm37 cd37 ct37 : Value} {f_l_taken : Addr}
    {od38 an38 : Option Addr} {sl38 : Array (Option Value)} {oc38 kV38 dc38 pm38 cd38 ct38 : Value} {f_l_product : Addr}
    {od39 an39 : Option Addr} {sl39 : Array (Option Value)} {oc39 kV39 dc39 pm39 cd39 ct39 : Value} {f_l_amount : Addr}
    {od40 an40 : Option Addr} {sl40 : Array (Option Value)} {oc40 kV40 dc40 pm40 cd40 ct40 : Value} {f_l_stall : Addr}
    {od41 an41 : Option Addr} {sl41 : Array (Option Value)} {oc41 kV41 dc41 pm41 cd41 ct41 : Value} {f_l_held : Addr}
    {od42 an42 : Option Addr} {sl42 : Array (Option Value)} {oc42 kV42 dc42 pm42 cd42 ct42 : Value} {f_l_pulls : Addr}
    {od43 an43 : Option Addr} {sl43 : Array (Option Value)} {oc43 kV43 dc43 pm43 cd43 ct43 : Value} {f_l_edge : Addr}
    {od44 an44 : Option Addr} {sl44 : Array (Option Value)} {oc44 kV44 dc44 pm44 cd44 ct44 : Value} {f_l_deep : Addr}
    {od45 an45 : Option Addr} {sl45 : Array (Option Value)} {oc45 kV45 dc45 pm45 cd45 ct45 : Value} {f_l_changed : Addr}
    {od46 an46 : Option Addr} {sl46 : Array (Option Value)} {oc46 kV46 dc46 pm46 cd46 ct46 : Value} {f_l_are_some : Addr}
    {od47 an47 : Option Addr} {sl47 : Array (Option Value)} {oc47 kV47 dc47 pm47 cd47 ct47 : Value} {f_l_due : Addr}
    {od48 an48 : Option Addr} {sl48 : Array (Option Value)} {oc48 kV48 dc48 pm48 cd48 ct48 : Value} {f_l_is_judged : Addr}
    {od49 an49 : Option Addr} {sl49 : Array (Option Value)} {oc49 kV49 dc49 pm49 cd49 ct49 : Value} {f_l_word : Addr}
    {od50 an50 : Option Addr} {sl50 : Array (Option Value)} {oc50 kV50 dc50 pm50 cd50 ct50 : Value} {f_law : Addr}
    {od51 an51 : Option Addr} {sl51 : Array (Option Value)} {oc51 kV51 dc51 pm51 cd51 ct51 : Value} {f_Web_init : Addr}
    {od52 an52 : Option Addr} {sl52 : Array (Option Value)} {oc52 kV52 dc52 pm52 cd52 ct52 : Value} {f_Table_init : Addr}
    {od53 an53 : Option Addr} {sl53 : Array (Option Value)} {oc53 kV53 dc53 pm53 cd53 ct53 : Value} {f_Table_wrong_sign : Addr}
    {od54 an54 : Option Addr} {sl54 : Array (Option Value)} {oc54 kV54 dc54 pm54 cd54 ct54 : Value} {f_Table_behind : Addr}
    {od55 an55 : Option Addr} {sl55 : Array (Option Value)} {oc55 kV55 dc55 pm55 cd55 ct55 : Value} {f_Table_ties_without : Addr}
    (z_abs : PySem.W.nsIn K mainGlobals "abs" = some none)
    (z_all : PySem.W.nsIn K mainGlobals "all" = some none)
    (z_bool : PySem.W.nsIn K mainGlobals "bool" = some none)
    (z_dict : PySem.W.nsIn K mainGlobals "dict" = some none)
    (z_enumerate : PySem.W.nsIn K mainGlobals "enumerate" = some none)
    (z_int : PySem.W.nsIn K mainGlobals "int" = some none)
    (z_isinstance : PySem.W.nsIn K mainGlobals "isinstance" = some none)
    (z_len : PySem.W.nsIn K mainGlobals "len" = some none)
    (z_list : PySem.W.nsIn K mainGlobals "list" = some none)
    (z_max : PySem.W.nsIn K mainGlobals "max" = some none)
    (z_min : PySem.W.nsIn K mainGlobals "min" = some none)
    (z_range : PySem.W.nsIn K mainGlobals "range" = some none)
    (z_reversed : PySem.W.nsIn K mainGlobals "reversed" = some none)
    (z_tuple : PySem.W.nsIn K mainGlobals "tuple" = some none)
    (m_gcd : PySem.W.nsIn K mainGlobals "gcd" = some (some (.builtin "math.gcd")))
    (a_BadPurse : PySem.W.nsIn K mainGlobals "BadPurse" = some (some (.ref c_BadPurse)))
    (ex_BadPurse : PySem.W.excIn K c_BadPurse veChain "ValueError.__new__" = true)
    (kp_BadPurse : PySem.W.keepIn K (.ref c_BadPurse) = true)
    (be_BadPurse : PySem.W.subIn K (.ref c_BadPurse) (.type "BaseException") = some true)
    (ty_BadPurse : PySem.W.typeIn K (.ref c_BadPurse) = some (.type "type"))
    (ic_BadPurse : PySem.W.isClsIn K c_BadPurse = true)
    (sf_BadPurse : PySem.W.subIn K (.ref c_BadPurse) (.ref c_BadPurse) = some true)
    (a_BadWish : PySem.W.nsIn K mainGlobals "BadWish" = some (some (.ref c_BadWish)))
    (ex_BadWish : PySem.W.excIn K c_BadWish veChain "ValueError.__new__" = true)
    (kp_BadWish : PySem.W.keepIn K (.ref c_BadWish) = true)
    (be_BadWish : PySem.W.subIn K (.ref c_BadWish) (.type "BaseException") = some true)
    (ty_BadWish : PySem.W.typeIn K (.ref c_BadWish) = some (.type "type"))
    (ic_BadWish : PySem.W.isClsIn K c_BadWish = true)
    (sf_BadWish : PySem.W.subIn K (.ref c_BadWish) (.ref c_BadWish) = some true)
    (a_Table : PySem.W.nsIn K mainGlobals "Table" = some (some (.ref c_Table)))
    (mk_Table : PySem.W.makesIn K c_Table = true)
    (in_Table : PySem.W.findIn K (.ref c_Table) "__init__" = some (some (.ref f_Table_init)))
    (fn_Table : PySem.W.isFn K (.ref f_Table_init) = true)
    (kp_Table : PySem.W.keepIn K (.ref c_Table) = true)
    (pg_Table : PySem.W.plainGet K c_Table Str.empty = true)
    (hd_Table : PySem.W.hasDictIn K c_Table = true)
    (po_Table : PySem.W.plainOver K c_Table = true)
    (sa_Table : PySem.W.findIn K (.ref c_Table) "__setattr__" = some (some (.builtin "object.__setattr__")))
    (ha_Table : PySem.W.findIn K (.ref c_Table) "__class__" = some (some (.builtin "object.__class__")))
    (hn_Table : PySem.W.specialIn K (.builtin "object.__class__") "__get__" = some (some (.builtin "getset_descriptor.__get__")))
    (ht_Table : PySem.W.takesIn K (.builtin "object.__class__") = some true)
    (mo_Table : PySem.W.mroIn K c_Table (.type "object") = some true)
    (i_int_Table : PySem.W.kitOne K (.ref c_Table) (.type "int") = some false)
    (i_bool_Table : PySem.W.kitOne K (.ref c_Table) (.type "bool") = some false)
    (i_tuple_Table : PySem.W.kitOne K (.ref c_Table) (.type "tuple") = some false)
    (i_list_Table : PySem.W.kitOne K (.ref c_Table) (.type "list") = some false)
    (na_Table_slants : PySem.W.findIn K (.ref c_Table) "slants" = some none)
    (na_Table_ties : PySem.W.findIn K (.ref c_Table) "ties" = some none)
    (a_Web : PySem.W.nsIn K mainGlobals "Web" = some (some (.ref c_Web)))
    (mk_Web : PySem.W.makesIn K c_Web = true)
    (in_Web : PySem.W.findIn K (.ref c_Web) "__init__" = some (some (.ref f_Web_init)))
    (fn_Web : PySem.W.isFn K (.ref f_Web_init) = true)
    (kp_Web : PySem.W.keepIn K (.ref c_Web) = true)
    (pg_Web : PySem.W.plainGet K c_Web Str.empty = true)
    (hd_Web : PySem.W.hasDictIn K c_Web = true)
    (po_Web : PySem.W.plainOver K c_Web = true)
    (sa_Web : PySem.W.findIn K (.ref c_Web) "__setattr__" = some (some (.builtin "object.__setattr__")))
    (ha_Web : PySem.W.findIn K (.ref c_Web) "__class__" = some (some (.builtin "object.__class__")))
    (hn_Web : PySem.W.specialIn K (.builtin "object.__class__") "__get__" = some (some (.builtin "getset_descriptor.__get__")))
    (ht_Web : PySem.W.takesIn K (.builtin "object.__class__") = some true)
    (mo_Web : PySem.W.mroIn K c_Web (.type "object") = some true)
    (i_int_Web : PySem.W.kitOne K (.ref c_Web) (.type "int") = some false)
    (i_bool_Web : PySem.W.kitOne K (.ref c_Web) (.type "bool") = some false)
    (i_tuple_Web : PySem.W.kitOne K (.ref c_Web) (.type "tuple") = some false)
    (i_list_Web : PySem.W.kitOne K (.ref c_Web) (.type "list") = some false)
    (na_Web_wares : PySem.W.findIn K (.ref c_Web) "wares" = some none)
    (na_Web_stalls : PySem.W.findIn K (.ref c_Web) "stalls" = some none)
    (x_BadWish_BadPurse : PySem.W.subIn K (.ref c_BadWish) (.ref c_BadPurse) = some false)
    (v_ONE : PySem.W.nsIn K mainGlobals "ONE" = some (some (.ref c_ONE)))
    (o_ONE : K.lookup c_ONE = some ⟨.type "tuple", dd_ONE, .seq its_ONE n_ONE, sl_ONE⟩)
    (tv_ONE : Vals [V.int 1, V.int 1] its_ONE.toList ∧ its_ONE.size ≤ sizeLine)
    (v_ZERO : PySem.W.nsIn K mainGlobals "ZERO" = some (some (.ref c_ZERO)))
    (o_ZERO : K.lookup c_ZERO = some ⟨.type "tuple", dd_ZERO, .seq its_ZERO n_ZERO, sl_ZERO⟩)
    (tv_ZERO : Vals [V.int 0, V.int 1] its_ZERO.toList ∧ its_ZERO.size ≤ sizeLine)
    (v_MOST_STALLS : PySem.W.nsIn K mainGlobals "MOST_STALLS" = some (some (.int 16 tk_MOST_STALLS)))
    (v_MOST_WARES : PySem.W.nsIn K mainGlobals "MOST_WARES" = some (some (.int 8 tk_MOST_WARES)))
    (a__wall : PySem.W.nsIn K mainGlobals "_wall" = some (some (.ref f__wall)))
    (l__wall : K.lookup f__wall = some ⟨oc0, od0, .func (PySem.W.fnOf "_wall" "_wall" (defArgs s__wall) (defBody s__wall) (defScope s__wall) .none kV0 dc0 pm0 an0 cd0 ct0), sl0⟩)
    (c__wall : PySem.W.codeIn K cd0 "_wall" = true)
    (k__wall : PySem.W.keepIn K (.ref f__wall) = true)
    (a_is_integer : PySem.W.nsIn K mainGlobals "is_integer" = some (some (.ref f_is_integer)))
    (l_is_integer : K.lookup f_is_integer = some ⟨oc1, od1, .func (PySem.W.fnOf "is_integer" "is_integer" (defArgs s_is_integer) (defBody s_is_integer) (defScope s_is_integer) .none kV1 dc1 pm1 an1 cd1 ct1), sl1⟩)
    (c_is_integer : PySem.W.codeIn K cd1 "is_integer" = true)
    (k_is_integer : PySem.W.keepIn K (.ref f_is_integer) = true)
    (a_is_row : PySem.W.nsIn K mainGlobals "is_row" = some (some (.ref f_is_row)))
    (l_is_row : K.lookup f_is_row = some ⟨oc2, od2, .func (PySem.W.fnOf "is_row" "is_row" (defArgs s_is_row) (defBody s_is_row) (defScope s_is_row) .none kV2 dc2 pm2 an2 cd2 ct2), sl2⟩)
    (c_is_row : PySem.W.codeIn K cd2 "is_row" = true)
    (k_is_row : PySem.W.keepIn K (.ref f_is_row) = true)
    (a_is_fraction : PySem.W.nsIn K mainGlobals "is_fraction" = some (some (.ref f_is_fraction)))
    (l_is_fraction : K.lookup f_is_fraction = some ⟨oc3, od3, .func (PySem.W.fnOf "is_fraction" "is_fraction" (defArgs s_is_fraction) (defBody s_is_fraction) (defScope s_is_fraction) .none kV3 dc3 pm3 an3 cd3 ct3), sl3⟩)
    (c_is_fraction : PySem.W.codeIn K cd3 "is_fraction" = true)
    (k_is_fraction : PySem.W.keepIn K (.ref f_is_fraction) = true)
    (a_is_amount : PySem.W.nsIn K mainGlobals "is_amount" = some (some (.ref f_is_amount)))
    (l_is_amount : K.lookup f_is_amount = some ⟨oc4, od4, .func (PySem.W.fnOf "is_amount" "is_amount" (defArgs s_is_amount) (defBody s_is_amount) (defScope s_is_amount) .none kV4 dc4 pm4 an4 cd4 ct4), sl4⟩)
    (c_is_amount : PySem.W.codeIn K cd4 "is_amount" = true)
    (k_is_amount : PySem.W.keepIn K (.ref f_is_amount) = true)
    (a_is_some : PySem.W.nsIn K mainGlobals "is_some" = some (some (.ref f_is_some)))
    (l_is_some : K.lookup f_is_some = some ⟨oc5, od5, .func (PySem.W.fnOf "is_some" "is_some" (defArgs s_is_some) (defBody s_is_some) (defScope s_is_some) .none kV5 dc5 pm5 an5 cd5 ct5), sl5⟩)
    (c_is_some : PySem.W.codeIn K cd5 "is_some" = true)
    (k_is_some : PySem.W.keepIn K (.ref f_is_some) = true)
    (a_are_amounts : PySem.W.nsIn K mainGlobals "are_amounts" = some (some (.ref f_are_amounts)))
    (l_are_amounts : K.lookup f_are_amounts = some ⟨oc6, od6, .func (PySem.W.fnOf "are_amounts" "are_amounts" (defArgs s_are_amounts) (defBody s_are_amounts) (defScope s_are_amounts) .none kV6 dc6 pm6 an6 cd6 ct6), sl6⟩)
    (c_are_amounts : PySem.W.codeIn K cd6 "are_amounts" = true)
    (k_are_amounts : PySem.W.keepIn K (.ref f_are_amounts) = true)
    (a_added : PySem.W.nsIn K mainGlobals "added" = some (some (.ref f_added)))
    (l_added : K.lookup f_added = some ⟨oc7, od7, .func (PySem.W.fnOf "added" "added" (defArgs s_added) (defBody s_added) (defScope s_added) .none kV7 dc7 pm7 an7 cd7 ct7), sl7⟩)
    (c_added : PySem.W.codeIn K cd7 "added" = true)
    (k_added : PySem.W.keepIn K (.ref f_added) = true)
    (a_negated : PySem.W.nsIn K mainGlobals "negated" = some (some (.ref f_negated)))
    (l_negated : K.lookup f_negated = some ⟨oc8, od8, .func (PySem.W.fnOf "negated" "negated" (defArgs s_negated) (defBody s_negated) (defScope s_negated) .none kV8 dc8 pm8 an8 cd8 ct8), sl8⟩)
    (c_negated : PySem.W.codeIn K cd8 "negated" = true)
    (k_negated : PySem.W.keepIn K (.ref f_negated) = true)
    (a_lessened : PySem.W.nsIn K mainGlobals "lessened" = some (some (.ref f_lessened)))
    (l_lessened : K.lookup f_lessened = some ⟨oc9, od9, .func (PySem.W.fnOf "lessened" "lessened" (defArgs s_lessened) (defBody s_lessened) (defScope s_lessened) .none kV9 dc9 pm9 an9 cd9 ct9), sl9⟩)
    (c_lessened : PySem.W.codeIn K cd9 "lessened" = true)
    (k_lessened : PySem.W.keepIn K (.ref f_lessened) = true)
    (a_multiplied : PySem.W.nsIn K mainGlobals "multiplied" = some (some (.ref f_multiplied)))
    (l_multiplied : K.lookup f_multiplied = some ⟨oc10, od10, .func (PySem.W.fnOf "multiplied" "multiplied" (defArgs s_multiplied) (defBody s_multiplied) (defScope s_multiplied) .none kV10 dc10 pm10 an10 cd10 ct10), sl10⟩)
    (c_multiplied : PySem.W.codeIn K cd10 "multiplied" = true)
    (k_multiplied : PySem.W.keepIn K (.ref f_multiplied) = true)
    (a_divided : PySem.W.nsIn K mainGlobals "divided" = some (some (.ref f_divided)))
    (l_divided : K.lookup f_divided = some ⟨oc11, od11, .func (PySem.W.fnOf "divided" "divided" (defArgs s_divided) (defBody s_divided) (defScope s_divided) .none kV11 dc11 pm11 an11 cd11 ct11), sl11⟩)
    (c_divided : PySem.W.codeIn K cd11 "divided" = true)
    (k_divided : PySem.W.keepIn K (.ref f_divided) = true)
    (a_squared : PySem.W.nsIn K mainGlobals "squared" = some (some (.ref f_squared)))
    (l_squared : K.lookup f_squared = some ⟨oc12, od12, .func (PySem.W.fnOf "squared" "squared" (defArgs s_squared) (defBody s_squared) (defScope s_squared) .none kV12 dc12 pm12 an12 cd12 ct12), sl12⟩)
    (c_squared : PySem.W.codeIn K cd12 "squared" = true)
    (k_squared : PySem.W.keepIn K (.ref f_squared) = true)
    (a_summed : PySem.W.nsIn K mainGlobals "summed" = some (some (.ref f_summed)))
    (l_summed : K.lookup f_summed = some ⟨oc13, od13, .func (PySem.W.fnOf "summed" "summed" (defArgs s_summed) (defBody s_summed) (defScope s_summed) .none kV13 dc13 pm13 an13 cd13 ct13), sl13⟩)
    (c_summed : PySem.W.codeIn K cd13 "summed" = true)
    (k_summed : PySem.W.keepIn K (.ref f_summed) = true)
    (a_lies_below : PySem.W.nsIn K mainGlobals "lies_below" = some (some (.ref f_lies_below)))
    (l_lies_below : K.lookup f_lies_below = some ⟨oc14, od14, .func (PySem.W.fnOf "lies_below" "lies_below" (defArgs s_lies_below) (defBody s_lies_below) (defScope s_lies_below) .none kV14 dc14 pm14 an14 cd14 ct14), sl14⟩)
    (c_lies_below : PySem.W.codeIn K cd14 "lies_below" = true)
    (k_lies_below : PySem.W.keepIn K (.ref f_lies_below) = true)
    (a_is_stall : PySem.W.nsIn K mainGlobals "is_stall" = some (some (.ref f_is_stall)))
    (l_is_stall : K.lookup f_is_stall = some ⟨oc15, od15, .func (PySem.W.fnOf "is_stall" "is_stall" (defArgs s_is_stall) (defBody s_is_stall) (defScope s_is_stall) .none kV15 dc15 pm15 an15 cd15 ct15), sl15⟩)
    (c_is_stall : PySem.W.codeIn K cd15 "is_stall" = true)
    (k_is_stall : PySem.W.keepIn K (.ref f_is_stall) = true)
    (a_hold_of : PySem.W.nsIn K mainGlobals "hold_of" = some (some (.ref f_hold_of)))
    (l_hold_of : K.lookup f_hold_of = some ⟨oc16, od16, .func (PySem.W.fnOf "hold_of" "hold_of" (defArgs s_hold_of) (defBody s_hold_of) (defScope s_hold_of) .none kV16 dc16 pm16 an16 cd16 ct16), sl16⟩)
    (c_hold_of : PySem.W.codeIn K cd16 "hold_of" = true)
    (k_hold_of : PySem.W.keepIn K (.ref f_hold_of) = true)
    (a_stalls_of : PySem.W.nsIn K mainGlobals "stalls_of" = some (some (.ref f_stalls_of)))
    (l_stalls_of : K.lookup f_stalls_of = some ⟨oc17, od17, .func (PySem.W.fnOf "stalls_of" "stalls_of" (defArgs s_stalls_of) (defBody s_stalls_of) (defScope s_stalls_of) .none kV17 dc17 pm17 an17 cd17 ct17), sl17⟩)
    (c_stalls_of : PySem.W.codeIn K cd17 "stalls_of" = true)
    (k_stalls_of : PySem.W.keepIn K (.ref f_stalls_of) = true)
    (a_kept_of : PySem.W.nsIn K mainGlobals "kept_of" = some (some (.ref f_kept_of)))
    (l_kept_of : K.lookup f_kept_of = some ⟨oc18, od18, .func (PySem.W.fnOf "kept_of" "kept_of" (defArgs s_kept_of) (defBody s_kept_of) (defScope s_kept_of) .none kV18 dc18 pm18 an18 cd18 ct18), sl18⟩)
    (c_kept_of : PySem.W.codeIn K cd18 "kept_of" = true)
    (k_kept_of : PySem.W.keepIn K (.ref f_kept_of) = true)
    (a_held : PySem.W.nsIn K mainGlobals "held" = some (some (.ref f_held)))
    (l_held : K.lookup f_held = some ⟨oc19, od19, .func (PySem.W.fnOf "held" "held" (defArgs s_held) (defBody s_held) (defScope s_held) .none kV19 dc19 pm19 an19 cd19 ct19), sl19⟩)
    (c_held : PySem.W.codeIn K cd19 "held" = true)
    (k_held : PySem.W.keepIn K (.ref f_held) = true)
    (a_roots : PySem.W.nsIn K mainGlobals "roots" = some (some (.ref f_roots)))
    (l_roots : K.lookup f_roots = some ⟨oc20, od20, .func (PySem.W.fnOf "roots" "roots" (defArgs s_roots) (defBody s_roots) (defScope s_roots) .none kV20 dc20 pm20 an20 cd20 ct20), sl20⟩)
    (c_roots : PySem.W.codeIn K cd20 "roots" = true)
    (k_roots : PySem.W.keepIn K (.ref f_roots) = true)
    (a_check_purse : PySem.W.nsIn K mainGlobals "check_purse" = some (some (.ref f_check_purse)))
    (l_check_purse : K.lookup f_check_purse = some ⟨oc21, od21, .func (PySem.W.fnOf "check_purse" "check_purse" (defArgs s_check_purse) (defBody s_check_purse) (defScope s_check_purse) .none kV21 dc21 pm21 an21 cd21 ct21), sl21⟩)
    (c_check_purse : PySem.W.codeIn K cd21 "check_purse" = true)
    (k_check_purse : PySem.W.keepIn K (.ref f_check_purse) = true)
    (a_check_wish : PySem.W.nsIn K mainGlobals "check_wish" = some (some (.ref f_check_wish)))
    (l_check_wish : K.lookup f_check_wish = some ⟨oc22, od22, .func (PySem.W.fnOf "check_wish" "check_wish" (defArgs s_check_wish) (defBody s_check_wish) (defScope s_check_wish) .none kV22 dc22 pm22 an22 cd22 ct22), sl22⟩)
    (c_check_wish : PySem.W.codeIn K cd22 "check_wish" = true)
    (k_check_wish : PySem.W.keepIn K (.ref f_check_wish) = true)
    (a_may_stay : PySem.W.nsIn K mainGlobals "may_stay" = some (some (.ref f_may_stay)))
    (l_may_stay : K.lookup f_may_stay = some ⟨oc23, od23, .func (PySem.W.fnOf "may_stay" "may_stay" (defArgs s_may_stay) (defBody s_may_stay) (defScope s_may_stay) .none kV23 dc23 pm23 an23 cd23 ct23), sl23⟩)
    (c_may_stay : PySem.W.codeIn K cd23 "may_stay" = true)
    (k_may_stay : PySem.W.keepIn K (.ref f_may_stay) = true)
    (a_table_of : PySem.W.nsIn K mainGlobals "table_of" = some (some (.ref f_table_of)))
    (l_table_of : K.lookup f_table_of = some ⟨oc24, od24, .func (PySem.W.fnOf "table_of" "table_of" (defArgs s_table_of) (defBody s_table_of) (defScope s_table_of) .none kV24 dc24 pm24 an24 cd24 ct24), sl24⟩)
    (c_table_of : PySem.W.codeIn K cd24 "table_of" = true)
    (k_table_of : PySem.W.keepIn K (.ref f_table_of) = true)
    (a_strike_row : PySem.W.nsIn K mainGlobals "strike_row" = some (some (.ref f_strike_row)))
    (l_strike_row : K.lookup f_strike_row = some ⟨oc25, od25, .func (PySem.W.fnOf "strike_row" "strike_row" (defArgs s_strike_row) (defBody s_strike_row) (defScope s_strike_row) .none kV25 dc25 pm25 an25 cd25 ct25), sl25⟩)
    (c_strike_row : PySem.W.codeIn K cd25 "strike_row" = true)
    (k_strike_row : PySem.W.keepIn K (.ref f_strike_row) = true)
    (a_are_some : PySem.W.nsIn K mainGlobals "are_some" = some (some (.ref f_are_some)))
    (l_are_some : K.lookup f_are_some = some ⟨oc26, od26, .func (PySem.W.fnOf "are_some" "are_some" (defArgs s_are_some) (defBody s_are_some) (defScope s_are_some) .none kV26 dc26 pm26 an26 cd26 ct26), sl26⟩)
    (c_are_some : PySem.W.codeIn K cd26 "are_some" = true)
    (k_are_some : PySem.W.keepIn K (.ref f_are_some) = true)
    (a_filled_back : PySem.W.nsIn K mainGlobals "filled_back" = some (some (.ref f_filled_back)))
    (l_filled_back : K.lookup f_filled_back = some ⟨oc27, od27, .func (PySem.W.fnOf "filled_back" "filled_back" (defArgs s_filled_back) (defBody s_filled_back) (defScope s_filled_back) .none kV27 dc27 pm27 an27 cd27 ct27), sl27⟩)
    (c_filled_back : PySem.W.codeIn K cd27 "filled_back" = true)
    (k_filled_back : PySem.W.keepIn K (.ref f_filled_back) = true)
    (a_in_order : PySem.W.nsIn K mainGlobals "in_order" = some (some (.ref f_in_order)))
    (l_in_order : K.lookup f_in_order = some ⟨oc28, od28, .func (PySem.W.fnOf "in_order" "in_order" (defArgs s_in_order) (defBody s_in_order) (defScope s_in_order) .none kV28 dc28 pm28 an28 cd28 ct28), sl28⟩)
    (c_in_order : PySem.W.codeIn K cd28 "in_order" = true)
    (k_in_order : PySem.W.keepIn K (.ref f_in_order) = true)
    (a_struck_in_turn : PySem.W.nsIn K mainGlobals "struck_in_turn" = some (some (.ref f_struck_in_turn)))
    (l_struck_in_turn : K.lookup f_struck_in_turn = some ⟨oc29, od29, .func (PySem.W.fnOf "struck_in_turn" "struck_in_turn" (defArgs s_struck_in_turn) (defBody s_struck_in_turn) (defScope s_struck_in_turn) .none kV29 dc29 pm29 an29 cd29 ct29), sl29⟩)
    (c_struck_in_turn : PySem.W.codeIn K cd29 "struck_in_turn" = true)
    (k_struck_in_turn : PySem.W.keepIn K (.ref f_struck_in_turn) = true)
    (a_scales : PySem.W.nsIn K mainGlobals "scales" = some (some (.ref f_scales)))
    (l_scales : K.lookup f_scales = some ⟨oc30, od30, .func (PySem.W.fnOf "scales" "scales" (defArgs s_scales) (defBody s_scales) (defScope s_scales) .none kV30 dc30 pm30 an30 cd30 ct30), sl30⟩)
    (c_scales : PySem.W.codeIn K cd30 "scales" = true)
    (k_scales : PySem.W.keepIn K (.ref f_scales) = true)
    (a_is_scales : PySem.W.nsIn K mainGlobals "is_scales" = some (some (.ref f_is_scales)))
    (l_is_scales : K.lookup f_is_scales = some ⟨oc31, od31, .func (PySem.W.fnOf "is_scales" "is_scales" (defArgs s_is_scales) (defBody s_is_scales) (defScope s_is_scales) .none kV31 dc31 pm31 an31 cd31 ct31), sl31⟩)
    (c_is_scales : PySem.W.codeIn K cd31 "is_scales" = true)
    (k_is_scales : PySem.W.keepIn K (.ref f_is_scales) = true)
    (a_l_deck : PySem.W.nsIn K mainGlobals "_law_deck" = some (some (.ref f_l_deck)))
    (l_l_deck : K.lookup f_l_deck = some ⟨oc32, od32, .func (PySem.W.fnOf "_law_deck" "_law_deck" (defArgs s_l_deck) (defBody s_l_deck) (defScope s_l_deck) .none kV32 dc32 pm32 an32 cd32 ct32), sl32⟩)
    (c_l_deck : PySem.W.codeIn K cd32 "_law_deck" = true)
    (k_l_deck : PySem.W.keepIn K (.ref f_l_deck) = true)
    (a_l_pick : PySem.W.nsIn K mainGlobals "_law_pick" = some (some (.ref f_l_pick)))
    (l_l_pick : K.lookup f_l_pick = some ⟨oc33, od33, .func (PySem.W.fnOf "_law_pick" "_law_pick" (defArgs s_l_pick) (defBody s_l_pick) (defScope s_l_pick) .none kV33 dc33 pm33 an33 cd33 ct33), sl33⟩)
    (c_l_pick : PySem.W.codeIn K cd33 "_law_pick" = true)
    (k_l_pick : PySem.W.keepIn K (.ref f_l_pick) = true)
    (a_l_divisor : PySem.W.nsIn K mainGlobals "_law_divisor" = some (some (.ref f_l_divisor)))
    (l_l_divisor : K.lookup f_l_divisor = some ⟨oc34, od34, .func (PySem.W.fnOf "_law_divisor" "_law_divisor" (defArgs s_l_divisor) (defBody s_l_divisor) (defScope s_l_divisor) .none kV34 dc34 pm34 an34 cd34 ct34), sl34⟩)
    (c_l_divisor : PySem.W.codeIn K cd34 "_law_divisor" = true)
    (k_l_divisor : PySem.W.keepIn K (.ref f_l_divisor) = true)
    (a_l_made : PySem.W.nsIn K mainGlobals "_law_made" = some (some (.ref f_l_made)))
    (l_l_made : K.lookup f_l_made = some ⟨oc35, od35, .func (PySem.W.fnOf "_law_made" "_law_made" (defArgs s_l_made) (defBody s_l_made) (defScope s_l_made) .none kV35 dc35 pm35 an35 cd35 ct35), sl35⟩)
    (c_l_made : PySem.W.codeIn K cd35 "_law_made" = true)
    (k_l_made : PySem.W.keepIn K (.ref f_l_made) = true)
    (a_l_added : PySem.W.nsIn K mainGlobals "_law_added" = some (some (.ref f_l_added)))
    (l_l_added : K.lookup f_l_added = some ⟨oc36, od36, .func (PySem.W.fnOf "_law_added" "_law_added" (defArgs s_l_added) (defBody s_l_added) (defScope s_l_added) .none kV36 dc36 pm36 an36 cd36 ct36), sl36⟩)
    (c_l_added : PySem.W.codeIn K cd36 "_law_added" = true)
    (k_l_added : PySem.W.keepIn K (.ref f_l_added) = true)
    (a_l_taken : PySem.W.nsIn K mainGlobals "_law_taken" = some (some (.ref f_l_taken)))
    (l_l_taken : K.lookup f_l_taken = some ⟨oc37, od37, .func (PySem.W.fnOf "_law_taken" "_law_taken" (defArgs s_l_taken) (defBody s_l_taken) (defScope s_l_taken) .none kV37 dc37 pm37 an37 cd37 ct37), sl37⟩)
    (c_l_taken : PySem.W.codeIn K cd37 "_law_taken" = true)
    (k_l_taken : PySem.W.keepIn K (.ref f_l_taken) = true)
    (a_l_product : PySem.W.nsIn K mainGlobals "_law_product" = some (some (.ref f_l_product)))
    (l_l_product : K.lookup f_l_product = some ⟨oc38, od38, .func (PySem.W.fnOf "_law_product" "_law_product" (defArgs s_l_product) (defBody s_l_product) (defScope s_l_product) .none kV38 dc38 pm38 an38 cd38 ct38), sl38⟩)
    (c_l_product : PySem.W.codeIn K cd38 "_law_product" = true)
    (k_l_product : PySem.W.keepIn K (.ref f_l_product) = true)
    (a_l_amount : PySem.W.nsIn K mainGlobals "_law_amount" = some (some (.ref f_l_amount)))
    (l_l_amount : K.lookup f_l_amount = some ⟨oc39, od39, .func (PySem.W.fnOf "_law_amount" "_law_amount" (defArgs s_l_amount) (defBody s_l_amount) (defScope s_l_amount) .none kV39 dc39 pm39 an39 cd39 ct39), sl39⟩)
    (c_l_amount : PySem.W.codeIn K cd39 "_law_amount" = true)
    (k_l_amount : PySem.W.keepIn K (.ref f_l_amount) = true)
    (a_l_stall : PySem.W.nsIn K mainGlobals "_law_stall" = some (some (.ref f_l_stall)))
    (l_l_stall : K.lookup f_l_stall = some ⟨oc40, od40, .func (PySem.W.fnOf "_law_stall" "_law_stall" (defArgs s_l_stall) (defBody s_l_stall) (defScope s_l_stall) .none kV40 dc40 pm40 an40 cd40 ct40), sl40⟩)
    (c_l_stall : PySem.W.codeIn K cd40 "_law_stall" = true)
    (k_l_stall : PySem.W.keepIn K (.ref f_l_stall) = true)
    (a_l_held : PySem.W.nsIn K mainGlobals "_law_held" = some (some (.ref f_l_held)))
    (l_l_held : K.lookup f_l_held = some ⟨oc41, od41, .func (PySem.W.fnOf "_law_held" "_law_held" (defArgs s_l_held) (defBody s_l_held) (defScope s_l_held) .none kV41 dc41 pm41 an41 cd41 ct41), sl41⟩)
    (c_l_held : PySem.W.codeIn K cd41 "_law_held" = true)
    (k_l_held : PySem.W.keepIn K (.ref f_l_held) = true)
    (a_l_pulls : PySem.W.nsIn K mainGlobals "_law_pulls" = some (some (.ref f_l_pulls)))
    (l_l_pulls : K.lookup f_l_pulls = some ⟨oc42, od42, .func (PySem.W.fnOf "_law_pulls" "_law_pulls" (defArgs s_l_pulls) (defBody s_l_pulls) (defScope s_l_pulls) .none kV42 dc42 pm42 an42 cd42 ct42), sl42⟩)
    (c_l_pulls : PySem.W.codeIn K cd42 "_law_pulls" = true)
    (k_l_pulls : PySem.W.keepIn K (.ref f_l_pulls) = true)
    (a_l_edge : PySem.W.nsIn K mainGlobals "_law_edge" = some (some (.ref f_l_edge)))
    (l_l_edge : K.lookup f_l_edge = some ⟨oc43, od43, .func (PySem.W.fnOf "_law_edge" "_law_edge" (defArgs s_l_edge) (defBody s_l_edge) (defScope s_l_edge) .none kV43 dc43 pm43 an43 cd43 ct43), sl43⟩)
    (c_l_edge : PySem.W.codeIn K cd43 "_law_edge" = true)
    (k_l_edge : PySem.W.keepIn K (.ref f_l_edge) = true)
    (a_l_deep : PySem.W.nsIn K mainGlobals "_law_deep" = some (some (.ref f_l_deep)))
    (l_l_deep : K.lookup f_l_deep = some ⟨oc44, od44, .func (PySem.W.fnOf "_law_deep" "_law_deep" (defArgs s_l_deep) (defBody s_l_deep) (defScope s_l_deep) .none kV44 dc44 pm44 an44 cd44 ct44), sl44⟩)
    (c_l_deep : PySem.W.codeIn K cd44 "_law_deep" = true)
    (k_l_deep : PySem.W.keepIn K (.ref f_l_deep) = true)
    (a_l_changed : PySem.W.nsIn K mainGlobals "_law_changed" = some (some (.ref f_l_changed)))
    (l_l_changed : K.lookup f_l_changed = some ⟨oc45, od45, .func (PySem.W.fnOf "_law_changed" "_law_changed" (defArgs s_l_changed) (defBody s_l_changed) (defScope s_l_changed) .none kV45 dc45 pm45 an45 cd45 ct45), sl45⟩)
    (c_l_changed : PySem.W.codeIn K cd45 "_law_changed" = true)
    (k_l_changed : PySem.W.keepIn K (.ref f_l_changed) = true)
    (a_l_are_some : PySem.W.nsIn K mainGlobals "_law_are_some" = some (some (.ref f_l_are_some)))
    (l_l_are_some : K.lookup f_l_are_some = some ⟨oc46, od46, .func (PySem.W.fnOf "_law_are_some" "_law_are_some" (defArgs s_l_are_some) (defBody s_l_are_some) (defScope s_l_are_some) .none kV46 dc46 pm46 an46 cd46 ct46), sl46⟩)
    (c_l_are_some : PySem.W.codeIn K cd46 "_law_are_some" = true)
    (k_l_are_some : PySem.W.keepIn K (.ref f_l_are_some) = true)
    (a_l_due : PySem.W.nsIn K mainGlobals "_law_due" = some (some (.ref f_l_due)))
    (l_l_due : K.lookup f_l_due = some ⟨oc47, od47, .func (PySem.W.fnOf "_law_due" "_law_due" (defArgs s_l_due) (defBody s_l_due) (defScope s_l_due) .none kV47 dc47 pm47 an47 cd47 ct47), sl47⟩)
    (c_l_due : PySem.W.codeIn K cd47 "_law_due" = true)
    (k_l_due : PySem.W.keepIn K (.ref f_l_due) = true)
    (a_l_is_judged : PySem.W.nsIn K mainGlobals "_law_is_judged" = some (some (.ref f_l_is_judged)))
    (l_l_is_judged : K.lookup f_l_is_judged = some ⟨oc48, od48, .func (PySem.W.fnOf "_law_is_judged" "_law_is_judged" (defArgs s_l_is_judged) (defBody s_l_is_judged) (defScope s_l_is_judged) .none kV48 dc48 pm48 an48 cd48 ct48), sl48⟩)
    (c_l_is_judged : PySem.W.codeIn K cd48 "_law_is_judged" = true)
    (k_l_is_judged : PySem.W.keepIn K (.ref f_l_is_judged) = true)
    (a_l_word : PySem.W.nsIn K mainGlobals "_law_word" = some (some (.ref f_l_word)))
    (l_l_word : K.lookup f_l_word = some ⟨oc49, od49, .func (PySem.W.fnOf "_law_word" "_law_word" (defArgs s_l_word) (defBody s_l_word) (defScope s_l_word) .none kV49 dc49 pm49 an49 cd49 ct49), sl49⟩)
    (c_l_word : PySem.W.codeIn K cd49 "_law_word" = true)
    (k_l_word : PySem.W.keepIn K (.ref f_l_word) = true)
    (a_law : PySem.W.nsIn K mainGlobals "law" = some (some (.ref f_law)))
    (l_law : K.lookup f_law = some ⟨oc50, od50, .func (PySem.W.fnOf "law" "law" (defArgs s_law) (defBody s_law) (defScope s_law) .none kV50 dc50 pm50 an50 cd50 ct50), sl50⟩)
    (c_law : PySem.W.codeIn K cd50 "law" = true)
    (k_law : PySem.W.keepIn K (.ref f_law) = true)
    (l_Web_init : K.lookup f_Web_init = some ⟨oc51, od51, .func (PySem.W.fnOf "__init__" "Web.__init__" (defArgs s_Web_init) (defBody s_Web_init) (defScope s_Web_init) .none kV51 dc51 pm51 an51 cd51 ct51), sl51⟩)
    (c_Web_init : PySem.W.codeIn K cd51 "Web.__init__" = true)
    (k_Web_init : PySem.W.keepIn K (.ref f_Web_init) = true)
    (l_Table_init : K.lookup f_Table_init = some ⟨oc52, od52, .func (PySem.W.fnOf "__init__" "Table.__init__" (defArgs s_Table_init) (defBody s_Table_init) (defScope s_Table_init) .none kV52 dc52 pm52 an52 cd52 ct52), sl52⟩)
    (c_Table_init : PySem.W.codeIn K cd52 "Table.__init__" = true)
    (k_Table_init : PySem.W.keepIn K (.ref f_Table_init) = true)
    (mi_Table_wrong_sign : PySem.W.findIn K (.ref c_Table) "wrong_sign" = some (some (.ref f_Table_wrong_sign)))
    (l_Table_wrong_sign : K.lookup f_Table_wrong_sign = some ⟨oc53, od53, .func (PySem.W.fnOf "wrong_sign" "Table.wrong_sign" (defArgs s_Table_wrong_sign) (defBody s_Table_wrong_sign) (defScope s_Table_wrong_sign) .none kV53 dc53 pm53 an53 cd53 ct53), sl53⟩)
    (c_Table_wrong_sign : PySem.W.codeIn K cd53 "Table.wrong_sign" = true)
    (k_Table_wrong_sign : PySem.W.keepIn K (.ref f_Table_wrong_sign) = true)
    (mf_Table_wrong_sign : PySem.W.isFn K (.ref f_Table_wrong_sign) = true)
    (mi_Table_behind : PySem.W.findIn K (.ref c_Table) "behind" = some (some (.ref f_Table_behind)))
    (l_Table_behind : K.lookup f_Table_behind = some ⟨oc54, od54, .func (PySem.W.fnOf "behind" "Table.behind" (defArgs s_Table_behind) (defBody s_Table_behind) (defScope s_Table_behind) .none kV54 dc54 pm54 an54 cd54 ct54), sl54⟩)
    (c_Table_behind : PySem.W.codeIn K cd54 "Table.behind" = true)
    (k_Table_behind : PySem.W.keepIn K (.ref f_Table_behind) = true)
    (mf_Table_behind : PySem.W.isFn K (.ref f_Table_behind) = true)
    (mi_Table_ties_without : PySem.W.findIn K (.ref c_Table) "ties_without" = some (some (.ref f_Table_ties_without)))
    (l_Table_ties_without : K.lookup f_Table_ties_without = some ⟨oc55, od55, .func (PySem.W.fnOf "ties_without" "Table.ties_without" (defArgs s_Table_ties_without) (defBody s_Table_ties_without) (defScope s_Table_ties_without) .none kV55 dc55 pm55 an55 cd55 ct55), sl55⟩)
    (c_Table_ties_without : PySem.W.codeIn K cd55 "Table.ties_without" = true)
    (k_Table_ties_without : PySem.W.keepIn K (.ref f_Table_ties_without) = true)
    (mf_Table_ties_without : PySem.W.isFn K (.ref f_Table_ties_without) = true)
    : ∃ fd : FuncData, (∀ (s : Shared) (v : Value), BindsTo s fd ⟨[v], []⟩ [("_law_script", v)]) ∧ ∀ base : Heap, K.In base → base.Ns mainGlobals mg → FnOk l.prog w K mg base CX0 9 fa fd ["_law_script"] (sp_law K) := by
  have e := hfa.symm.trans (PySem.W.mg_of X G a_law)
  cases e
  have T : Txt K mg f__wall f_is_integer f_is_row f_is_fraction f_is_amount f_is_some f_are_amounts f_added f_negated f_lessened f_multiplied f_divided f_squared f_summed f_lies_below f_is_stall f_hold_of f_stalls_of f_kept_of f_held f_roots f_check_purse f_check_wish f_may_stay f_table_of f_strike_row f_are_some f_filled_back f_in_order f_struck_in_turn f_scales f_is_scales f_l_deck f_l_pick f_l_divisor f_l_made f_l_added f_l_taken f_l_product f_l_amount f_l_stall f_l_held f_l_pulls f_l_edge f_l_deep f_l_changed f_l_are_some f_l_due f_l_is_judged f_l_word fa f_Web_init f_Table_init f_Table_wrong_sign f_Table_behind f_Table_ties_without c_BadPurse c_BadWish c_Table c_Web c_ONE c_ZERO _ _ _ _ _ _ _ _ _ _ _ _ _ _ _ _ _ _ _ _ _ _ _ _ _ _ _ _ _ _ _ _ _ _ _ _ _ _ _ _ _ _ _ _ _ _ _ _ _ _ _ _ _ _ _ _ := {
    z_abs := PySem.W.mg_none_of X G z_abs
    z_all := PySem.W.mg_none_of X G z_all
    z_bool := PySem.W.mg_none_of X G z_bool
    z_dict := PySem.W.mg_none_of X G z_dict
    z_enumerate := PySem.W.mg_none_of X G z_enumerate
    z_int := PySem.W.mg_none_of X G z_int
    z_isinstance := PySem.W.mg_none_of X G z_isinstance
    z_len := PySem.W.mg_none_of X G z_len
    z_list := PySem.W.mg_none_of X G z_list
    z_max := PySem.W.mg_none_of X G z_max
    z_min := PySem.W.mg_none_of X G z_min
    z_range := PySem.W.mg_none_of X G z_range
    z_reversed := PySem.W.mg_none_of X G z_reversed
    z_tuple := PySem.W.mg_none_of X G z_tuple
    m_gcd := PySem.W.mg_of X G m_gcd
    c_BadPurse := ⟨PySem.W.mg_of X G a_BadPurse, ex_BadPurse, kp_BadPurse, be_BadPurse, ty_BadPurse, ic_BadPurse, sf_BadPurse⟩
    c_BadWish := ⟨PySem.W.mg_of X G a_BadWish, ex_BadWish, kp_BadWish, be_BadWish, ty_BadWish, ic_BadWish, sf_BadWish⟩
    w_Table := ⟨PySem.W.mg_of X G a_Table, ⟨mk_Table, in_Table, fn_Table, kp_Table⟩, ⟨⟨pg_Table, hd_Table, po_Table, sa_Table⟩, ha_Table, hn_Table, ht_Table, mo_Table, i_int_Table, i_bool_Table, i_tuple_Table, i_list_Table⟩⟩
    n_Table_slants := na_Table_slants
    n_Table_ties := na_Table_ties
    w_Web := ⟨PySem.W.mg_of X G a_Web, ⟨mk_Web, in_Web, fn_Web, kp_Web⟩, ⟨⟨pg_Web, hd_Web, po_Web, sa_Web⟩, ha_Web, hn_Web, ht_Web, mo_Web, i_int_Web, i_bool_Web, i_tuple_Web, i_list_Web⟩⟩
    n_Web_wares := na_Web_wares
    n_Web_stalls := na_Web_stalls
    x_BadWish_BadPurse := x_BadWish_BadPurse
    v_ONE := PySem.W.mg_of X G v_ONE
    t_ONE := .inr ⟨_, _, _, o_ONE, rfl, rfl, tv_ONE.2, tv_ONE.1⟩
    v_ZERO := PySem.W.mg_of X G v_ZERO
    t_ZERO := .inr ⟨_, _, _, o_ZERO, rfl, rfl, tv_ZERO.2, tv_ZERO.1⟩
    v_MOST_STALLS := ⟨_, PySem.W.mg_of X G v_MOST_STALLS, ⟨_, rfl⟩⟩
    v_MOST_WARES := ⟨_, PySem.W.mg_of X G v_MOST_WARES, ⟨_, rfl⟩⟩
    g__wall := PySem.W.mg_of X G a__wall
    F__wall := fun_mk (st := s__wall) l__wall c__wall k__wall
    k__wall := k__wall
    b__wall := (fun_mk (st := s__wall) l__wall c__wall k__wall).binds (ps := ["k"]) fun _ _ _ _ _ _ us hl => match us, hl with | [_], _ => rfl
    g_is_integer := PySem.W.mg_of X G a_is_integer
    F_is_integer := fun_mk (st := s_is_integer) l_is_integer c_is_integer k_is_integer
    k_is_integer := k_is_integer
    b_is_integer := (fun_mk (st := s_is_integer) l_is_integer c_is_integer k_is_integer).binds (ps := ["thing"]) fun _ _ _ _ _ _ us hl => match us, hl with | [_], _ => rfl
    g_is_row := PySem.W.mg_of X G a_is_row
    F_is_row := fun_mk (st := s_is_row) l_is_row c_is_row k_is_row
    k_is_row := k_is_row
    b_is_row := (fun_mk (st := s_is_row) l_is_row c_is_row k_is_row).binds (ps := ["thing"]) fun _ _ _ _ _ _ us hl => match us, hl with | [_], _ => rfl
    g_is_fraction := PySem.W.mg_of X G a_is_fraction
    F_is_fraction := fun_mk (st := s_is_fraction) l_is_fraction c_is_fraction k_is_fraction
    k_is_fraction := k_is_fraction
    b_is_fraction := (fun_mk (st := s_is_fraction) l_is_fraction c_is_fraction k_is_fraction).binds (ps := ["thing"]) fun _ _ _ _ _ _ us hl => match us, hl with | [_], _ => rfl
    g_is_amount := PySem.W.mg_of X G a_is_amount
    F_is_amount := fun_mk (st := s_is_amount) l_is_amount c_is_amount k_is_amount
    k_is_amount := k_is_amount
    b_is_amount := (fun_mk (st := s_is_amount) l_is_amount c_is_amount k_is_amount).binds (ps := ["thing"]) fun _ _ _ _ _ _ us hl => match us, hl with | [_], _ => rfl
    g_is_some := PySem.W.mg_of X G a_is_some
    F_is_some := fun_mk (st := s_is_some) l_is_some c_is_some k_is_some
    k_is_some := k_is_some
    b_is_some := (fun_mk (st := s_is_some) l_is_some c_is_some k_is_some).binds (ps := ["thing"]) fun _ _ _ _ _ _ us hl => match us, hl with | [_], _ => rfl
    g_are_amounts := PySem.W.mg_of X G a_are_amounts
    F_are_amounts := fun_mk (st := s_are_amounts) l_are_amounts c_are_amounts k_are_amounts
    k_are_amounts := k_are_amounts
    b_are_amounts := (fun_mk (st := s_are_amounts) l_are_amounts c_are_amounts k_are_amounts).binds (ps := ["things", "number"]) fun _ _ _ _ _ _ us hl => match us, hl with | [_, _], _ => rfl
    g_added := PySem.W.mg_of X G a_added
    F_added := fun_mk (st := s_added) l_added c_added k_added
    k_added := k_added
    b_added := (fun_mk (st := s_added) l_added c_added k_added).binds (ps := ["one", "other"]) fun _ _ _ _ _ _ us hl => match us, hl with | [_, _], _ => rfl
    g_negated := PySem.W.mg_of X G a_negated
    F_negated := fun_mk (st := s_negated) l_negated c_negated k_negated
    k_negated := k_negated
    b_negated := (fun_mk (st := s_negated) l_negated c_negated k_negated).binds (ps := ["one"]) fun _ _ _ _ _ _ us hl => match us, hl with | [_], _ => rfl
    g_lessened := PySem.W.mg_of X G a_lessened
    F_lessened := fun_mk (st := s_lessened) l_lessened c_lessened k_lessened
    k_lessened := k_lessened
    b_lessened := (fun_mk (st := s_lessened) l_lessened c_lessened k_lessened).binds (ps := ["one", "other"]) fun _ _ _ _ _ _ us hl => match us, hl with | [_, _], _ => rfl
    g_multiplied := PySem.W.mg_of X G a_multiplied
    F_multiplied := fun_mk (st := s_multiplied) l_multiplied c_multiplied k_multiplied
    k_multiplied := k_multiplied
    b_multiplied := (fun_mk (st := s_multiplied) l_multiplied c_multiplied k_multiplied).binds (ps := ["one", "other"]) fun _ _ _ _ _ _ us hl => match us, hl with | [_, _], _ => rfl
    g_divided := PySem.W.mg_of X G a_divided
    F_divided := fun_mk (st := s_divided) l_divided c_divided k_divided
    k_divided := k_divided
    b_divided := (fun_mk (st := s_divided) l_divided c_divided k_divided).binds (ps := ["one", "other"]) fun _ _ _ _ _ _ us hl => match us, hl with | [_, _], _ => rfl
    g_squared := PySem.W.mg_of X G a_squared
    F_squared := fun_mk (st := s_squared) l_squared c_squared k_squared
    k_squared := k_squared
    b_squared := (fun_mk (st := s_squared) l_squared c_squared k_squared).binds (ps := ["one"]) fun _ _ _ _ _ _ us hl => match us, hl with | [_], _ => rfl
    g_summed := PySem.W.mg_of X G a_summed
    F_summed := fun_mk (st := s_summed) l_summed c_summed k_summed
    k_summed := k_summed
    b_summed := (fun_mk (st := s_summed) l_summed c_summed k_summed).binds (ps := ["fractions"]) fun _ _ _ _ _ _ us hl => match us, hl with | [_], _ => rfl
    g_lies_below := PySem.W.mg_of X G a_lies_below
    F_lies_below := fun_mk (st := s_lies_below) l_lies_below c_lies_below k_lies_below
    k_lies_below := k_lies_below
    b_lies_below := (fun_mk (st := s_lies_below) l_lies_below c_lies_below k_lies_below).binds (ps := ["one", "other"]) fun _ _ _ _ _ _ us hl => match us, hl with | [_, _], _ => rfl
    g_is_stall := PySem.W.mg_of X G a_is_stall
    F_is_stall := fun_mk (st := s_is_stall) l_is_stall c_is_stall k_is_stall
    k_is_stall := k_is_stall
    b_is_stall := (fun_mk (st := s_is_stall) l_is_stall c_is_stall k_is_stall).binds (ps := ["wares", "thing"]) fun _ _ _ _ _ _ us hl => match us, hl with | [_, _], _ => rfl
    g_hold_of := PySem.W.mg_of X G a_hold_of
    F_hold_of := fun_mk (st := s_hold_of) l_hold_of c_hold_of k_hold_of
    k_hold_of := k_hold_of
    b_hold_of := (fun_mk (st := s_hold_of) l_hold_of c_hold_of k_hold_of).binds (ps := ["stall", "ware"]) fun _ _ _ _ _ _ us hl => match us, hl with | [_, _], _ => rfl
    g_stalls_of := PySem.W.mg_of X G a_stalls_of
    F_stalls_of := fun_mk (st := s_stalls_of) l_stalls_of c_stalls_of k_stalls_of
    k_stalls_of := k_stalls_of
    b_stalls_of := (fun_mk (st := s_stalls_of) l_stalls_of c_stalls_of k_stalls_of).binds (ps := ["ware", "stalls"]) fun _ _ _ _ _ _ us hl => match us, hl with | [_, _], _ => rfl
    g_kept_of := PySem.W.mg_of X G a_kept_of
    F_kept_of := fun_mk (st := s_kept_of) l_kept_of c_kept_of k_kept_of
    k_kept_of := k_kept_of
    b_kept_of := (fun_mk (st := s_kept_of) l_kept_of c_kept_of k_kept_of).binds (ps := ["ware", "stalls"]) fun _ _ _ _ _ _ us hl => match us, hl with | [_, _], _ => rfl
    g_held := PySem.W.mg_of X G a_held
    F_held := fun_mk (st := s_held) l_held c_held k_held
    k_held := k_held
    b_held := (fun_mk (st := s_held) l_held c_held k_held).binds (ps := ["web"]) fun _ _ _ _ _ _ us hl => match us, hl with | [_], _ => rfl
    g_roots := PySem.W.mg_of X G a_roots
    F_roots := fun_mk (st := s_roots) l_roots c_roots k_roots
    k_roots := k_roots
    b_roots := (fun_mk (st := s_roots) l_roots c_roots k_roots).binds (ps := ["web"]) fun _ _ _ _ _ _ us hl => match us, hl with | [_], _ => rfl
    g_check_purse := PySem.W.mg_of X G a_check_purse
    F_check_purse := fun_mk (st := s_check_purse) l_check_purse c_check_purse k_check_purse
    k_check_purse := k_check_purse
    b_check_purse := (fun_mk (st := s_check_purse) l_check_purse c_check_purse k_check_purse).binds (ps := ["web", "purse"]) fun _ _ _ _ _ _ us hl => match us, hl with | [_, _], _ => rfl
    g_check_wish := PySem.W.mg_of X G a_check_wish
    F_check_wish := fun_mk (st := s_check_wish) l_check_wish c_check_wish k_check_wish
    k_check_wish := k_check_wish
    b_check_wish := (fun_mk (st := s_check_wish) l_check_wish c_check_wish k_check_wish).binds (ps := ["web", "wish"]) fun _ _ _ _ _ _ us hl => match us, hl with | [_, _], _ => rfl
    g_may_stay := PySem.W.mg_of X G a_may_stay
    F_may_stay := fun_mk (st := s_may_stay) l_may_stay c_may_stay k_may_stay
    k_may_stay := k_may_stay
    b_may_stay := (fun_mk (st := s_may_stay) l_may_stay c_may_stay k_may_stay).binds (ps := ["web", "purse", "wish"]) fun _ _ _ _ _ _ us hl => match us, hl with | [_, _, _], _ => rfl
    g_table_of := PySem.W.mg_of X G a_table_of
    F_table_of := fun_mk (st := s_table_of) l_table_of c_table_of k_table_of
    k_table_of := k_table_of
    b_table_of := (fun_mk (st := s_table_of) l_table_of c_table_of k_table_of).binds (ps := ["web", "purse", "wish"]) fun _ _ _ _ _ _ us hl => match us, hl with | [_, _, _], _ => rfl
    g_strike_row := PySem.W.mg_of X G a_strike_row
    F_strike_row := fun_mk (st := s_strike_row) l_strike_row c_strike_row k_strike_row
    k_strike_row := k_strike_row
    b_strike_row := (fun_mk (st := s_strike_row) l_strike_row c_strike_row k_strike_row).binds (ps := ["table", "order"]) fun _ _ _ _ _ _ us hl => match us, hl with | [_, _], _ => rfl
    g_are_some := PySem.W.mg_of X G a_are_some
    F_are_some := fun_mk (st := s_are_some) l_are_some c_are_some k_are_some
    k_are_some := k_are_some
    b_are_some := (fun_mk (st := s_are_some) l_are_some c_are_some k_are_some).binds (ps := ["things", "number"]) fun _ _ _ _ _ _ us hl => match us, hl with | [_, _], _ => rfl
    g_filled_back := PySem.W.mg_of X G a_filled_back
    F_filled_back := fun_mk (st := s_filled_back) l_filled_back c_filled_back k_filled_back
    k_filled_back := k_filled_back
    b_filled_back := (fun_mk (st := s_filled_back) l_filled_back c_filled_back k_filled_back).binds (ps := ["steps", "amounts", "alone"]) fun _ _ _ _ _ _ us hl => match us, hl with | [_, _, _], _ => rfl
    g_in_order := PySem.W.mg_of X G a_in_order
    F_in_order := fun_mk (st := s_in_order) l_in_order c_in_order k_in_order
    k_in_order := k_in_order
    b_in_order := (fun_mk (st := s_in_order) l_in_order c_in_order k_in_order).binds (ps := ["filled"]) fun _ _ _ _ _ _ us hl => match us, hl with | [_], _ => rfl
    g_struck_in_turn := PySem.W.mg_of X G a_struck_in_turn
    F_struck_in_turn := fun_mk (st := s_struck_in_turn) l_struck_in_turn c_struck_in_turn k_struck_in_turn
    k_struck_in_turn := k_struck_in_turn
    b_struck_in_turn := (fun_mk (st := s_struck_in_turn) l_struck_in_turn c_struck_in_turn k_struck_in_turn).binds (ps := ["web", "purse", "wish"]) fun _ _ _ _ _ _ us hl => match us, hl with | [_, _, _], _ => rfl
    g_scales := PySem.W.mg_of X G a_scales
    F_scales := fun_mk (st := s_scales) l_scales c_scales k_scales
    k_scales := k_scales
    b_scales := (fun_mk (st := s_scales) l_scales c_scales k_scales).binds (ps := ["web", "purse", "wish"]) fun _ _ _ _ _ _ us hl => match us, hl with | [_, _, _], _ => rfl
    g_is_scales := PySem.W.mg_of X G a_is_scales
    F_is_scales := fun_mk (st := s_is_scales) l_is_scales c_is_scales k_is_scales
    k_is_scales := k_is_scales
    b_is_scales := (fun_mk (st := s_is_scales) l_is_scales c_is_scales k_is_scales).binds (ps := ["web", "purse", "wish", "thing"]) fun _ _ _ _ _ _ us hl => match us, hl with | [_, _, _, _], _ => rfl
    g_l_deck := PySem.W.mg_of X G a_l_deck
    F_l_deck := fun_mk (st := s_l_deck) l_l_deck c_l_deck k_l_deck
    k_l_deck := k_l_deck
    b_l_deck := (fun_mk (st := s_l_deck) l_l_deck c_l_deck k_l_deck).binds (ps := ["_law_script"]) fun _ _ _ _ _ _ us hl => match us, hl with | [_], _ => rfl
    g_l_pick := PySem.W.mg_of X G a_l_pick
    F_l_pick := fun_mk (st := s_l_pick) l_l_pick c_l_pick k_l_pick
    k_l_pick := k_l_pick
    b_l_pick := (fun_mk (st := s_l_pick) l_l_pick c_l_pick k_l_pick).binds (ps := ["_law_deck_here", "_law_many"]) fun _ _ _ _ _ _ us hl => match us, hl with | [_, _], _ => rfl
    g_l_divisor := PySem.W.mg_of X G a_l_divisor
    F_l_divisor := fun_mk (st := s_l_divisor) l_l_divisor c_l_divisor k_l_divisor
    k_l_divisor := k_l_divisor
    b_l_divisor := (fun_mk (st := s_l_divisor) l_l_divisor c_l_divisor k_l_divisor).binds (ps := ["_law_one", "_law_other"]) fun _ _ _ _ _ _ us hl => match us, hl with | [_, _], _ => rfl
    g_l_made := PySem.W.mg_of X G a_l_made
    F_l_made := fun_mk (st := s_l_made) l_l_made c_l_made k_l_made
    k_l_made := k_l_made
    b_l_made := (fun_mk (st := s_l_made) l_l_made c_l_made k_l_made).binds (ps := ["_law_top", "_law_bottom"]) fun _ _ _ _ _ _ us hl => match us, hl with | [_, _], _ => rfl
    g_l_added := PySem.W.mg_of X G a_l_added
    F_l_added := fun_mk (st := s_l_added) l_l_added c_l_added k_l_added
    k_l_added := k_l_added
    b_l_added := (fun_mk (st := s_l_added) l_l_added c_l_added k_l_added).binds (ps := ["_law_one", "_law_other"]) fun _ _ _ _ _ _ us hl => match us, hl with | [_, _], _ => rfl
    g_l_taken := PySem.W.mg_of X G a_l_taken
    F_l_taken := fun_mk (st := s_l_taken) l_l_taken c_l_taken k_l_taken
    k_l_taken := k_l_taken
    b_l_taken := (fun_mk (st := s_l_taken) l_l_taken c_l_taken k_l_taken).binds (ps := ["_law_one", "_law_other"]) fun _ _ _ _ _ _ us hl => match us, hl with | [_, _], _ => rfl
    g_l_product := PySem.W.mg_of X G a_l_product
    F_l_product := fun_mk (st := s_l_product) l_l_product c_l_product k_l_product
    k_l_product := k_l_product
    b_l_product := (fun_mk (st := s_l_product) l_l_product c_l_product k_l_product).binds (ps := ["_law_one", "_law_other"]) fun _ _ _ _ _ _ us hl => match us, hl with | [_, _], _ => rfl
    g_l_amount := PySem.W.mg_of X G a_l_amount
    F_l_amount := fun_mk (st := s_l_amount) l_l_amount c_l_amount k_l_amount
    k_l_amount := k_l_amount
    b_l_amount := (fun_mk (st := s_l_amount) l_l_amount c_l_amount k_l_amount).binds (ps := ["_law_deck_here"]) fun _ _ _ _ _ _ us hl => match us, hl with | [_], _ => rfl
    g_l_stall := PySem.W.mg_of X G a_l_stall
    F_l_stall := fun_mk (st := s_l_stall) l_l_stall c_l_stall k_l_stall
    k_l_stall := k_l_stall
    b_l_stall := (fun_mk (st := s_l_stall) l_l_stall c_l_stall k_l_stall).binds (ps := ["_law_deck_here", "_law_wares"]) fun _ _ _ _ _ _ us hl => match us, hl with | [_, _], _ => rfl
    g_l_held := PySem.W.mg_of X G a_l_held
    F_l_held := fun_mk (st := s_l_held) l_l_held c_l_held k_l_held
    k_l_held := k_l_held
    b_l_held := (fun_mk (st := s_l_held) l_l_held c_l_held k_l_held).binds (ps := ["_law_wares", "_law_stalls"]) fun _ _ _ _ _ _ us hl => match us, hl with | [_, _], _ => rfl
    g_l_pulls := PySem.W.mg_of X G a_l_pulls
    F_l_pulls := fun_mk (st := s_l_pulls) l_l_pulls c_l_pulls k_l_pulls
    k_l_pulls := k_l_pulls
    b_l_pulls := (fun_mk (st := s_l_pulls) l_l_pulls c_l_pulls k_l_pulls).binds (ps := ["_law_wares", "_law_stalls", "_law_scale"]) fun _ _ _ _ _ _ us hl => match us, hl with | [_, _, _], _ => rfl
    g_l_edge := PySem.W.mg_of X G a_l_edge
    F_l_edge := fun_mk (st := s_l_edge) l_l_edge c_l_edge k_l_edge
    k_l_edge := k_l_edge
    b_l_edge := (fun_mk (st := s_l_edge) l_l_edge c_l_edge k_l_edge).binds (ps := ["_law_wares", "_law_stalls", "_law_purse", "_law_scale"]) fun _ _ _ _ _ _ us hl => match us, hl with | [_, _, _, _], _ => rfl
    g_l_deep := PySem.W.mg_of X G a_l_deep
    F_l_deep := fun_mk (st := s_l_deep) l_l_deep c_l_deep k_l_deep
    k_l_deep := k_l_deep
    b_l_deep := (fun_mk (st := s_l_deep) l_l_deep c_l_deep k_l_deep).binds (ps := ["_law_deck_here"]) fun _ _ _ _ _ _ us hl => match us, hl with | [_], _ => rfl
    g_l_changed := PySem.W.mg_of X G a_l_changed
    F_l_changed := fun_mk (st := s_l_changed) l_l_changed c_l_changed k_l_changed
    k_l_changed := k_l_changed
    b_l_changed := (fun_mk (st := s_l_changed) l_l_changed c_l_changed k_l_changed).binds (ps := ["_law_deck_here", "_law_web", "_law_thing"]) fun _ _ _ _ _ _ us hl => match us, hl with | [_, _, _], _ => rfl
    g_l_are_some := PySem.W.mg_of X G a_l_are_some
    F_l_are_some := fun_mk (st := s_l_are_some) l_l_are_some c_l_are_some k_l_are_some
    k_l_are_some := k_l_are_some
    b_l_are_some := (fun_mk (st := s_l_are_some) l_l_are_some c_l_are_some k_l_are_some).binds (ps := ["_law_thing", "_law_wares"]) fun _ _ _ _ _ _ us hl => match us, hl with | [_, _], _ => rfl
    g_l_due := PySem.W.mg_of X G a_l_due
    F_l_due := fun_mk (st := s_l_due) l_l_due c_l_due k_l_due
    k_l_due := k_l_due
    b_l_due := (fun_mk (st := s_l_due) l_l_due c_l_due k_l_due).binds (ps := ["_law_web", "_law_purse", "_law_wish", "_law_thing"]) fun _ _ _ _ _ _ us hl => match us, hl with | [_, _, _, _], _ => rfl
    g_l_is_judged := PySem.W.mg_of X G a_l_is_judged
    F_l_is_judged := fun_mk (st := s_l_is_judged) l_l_is_judged c_l_is_judged k_l_is_judged
    k_l_is_judged := k_l_is_judged
    b_l_is_judged := (fun_mk (st := s_l_is_judged) l_l_is_judged c_l_is_judged k_l_is_judged).binds (ps := ["_law_web", "_law_purse", "_law_wish", "_law_thing"]) fun _ _ _ _ _ _ us hl => match us, hl with | [_, _, _, _], _ => rfl
    g_l_word := PySem.W.mg_of X G a_l_word
    F_l_word := fun_mk (st := s_l_word) l_l_word c_l_word k_l_word
    k_l_word := k_l_word
    b_l_word := (fun_mk (st := s_l_word) l_l_word c_l_word k_l_word).binds (ps := ["_law_web", "_law_purse", "_law_wish", "_law_thing"]) fun _ _ _ _ _ _ us hl => match us, hl with | [_, _, _, _], _ => rfl
    g_law := PySem.W.mg_of X G a_law
    F_law := fun_mk (st := s_law) l_law c_law k_law
    k_law := k_law
    b_law := (fun_mk (st := s_law) l_law c_law k_law).binds (ps := ["_law_script"]) fun _ _ _ _ _ _ us hl => match us, hl with | [_], _ => rfl
    F_Web_init := fun_mk (st := s_Web_init) l_Web_init c_Web_init k_Web_init
    b_Web_init := (fun_mk (st := s_Web_init) l_Web_init c_Web_init k_Web_init).binds (ps := ["self", "wares", "stalls"]) fun _ _ _ _ _ _ us hl => match us, hl with | [_, _, _], _ => rfl
    F_Table_init := fun_mk (st := s_Table_init) l_Table_init c_Table_init k_Table_init
    b_Table_init := (fun_mk (st := s_Table_init) l_Table_init c_Table_init k_Table_init).binds (ps := ["self", "slants", "ties"]) fun _ _ _ _ _ _ us hl => match us, hl with | [_, _, _], _ => rfl
    i_Table_wrong_sign := mi_Table_wrong_sign
    fn_Table_wrong_sign := mf_Table_wrong_sign
    F_Table_wrong_sign := fun_mk (st := s_Table_wrong_sign) l_Table_wrong_sign c_Table_wrong_sign k_Table_wrong_sign
    k_Table_wrong_sign := k_Table_wrong_sign
    b_Table_wrong_sign := (fun_mk (st := s_Table_wrong_sign) l_Table_wrong_sign c_Table_wrong_sign k_Table_wrong_sign).binds (ps := ["self", "ware"]) fun _ _ _ _ _ _ us hl => match us, hl with | [_, _], _ => rfl
    i_Table_behind := mi_Table_behind
    fn_Table_behind := mf_Table_behind
    F_Table_behind := fun_mk (st := s_Table_behind) l_Table_behind c_Table_behind k_Table_behind
    k_Table_behind := k_Table_behind
    b_Table_behind := (fun_mk (st := s_Table_behind) l_Table_behind c_Table_behind k_Table_behind).binds (ps := ["self", "ware"]) fun _ _ _ _ _ _ us hl => match us, hl with | [_, _], _ => rfl
    i_Table_ties_without := mi_Table_ties_without
    fn_Table_ties_without := mf_Table_ties_without
    F_Table_ties_without := fun_mk (st := s_Table_ties_without) l_Table_ties_without c_Table_ties_without k_Table_ties_without
    k_Table_ties_without := k_Table_ties_without
    b_Table_ties_without := (fun_mk (st := s_Table_ties_without) l_Table_ties_without c_Table_ties_without k_Table_ties_without).binds (ps := ["self", "one", "ware"]) fun _ _ _ _ _ _ us hl => match us, hl with | [_, _, _], _ => rfl
  }
  exact ⟨_, fun s v => .of_eq rfl, fun base _ _ => ok_all T⟩
end My
open PySem PySem.W PyProof.Rows
set_option maxRecDepth 100000 in
set_option maxHeartbeats 0 in
theorem PySem.Challenge.cw_rootstalls_k17_scales_judged_holds : PySem.Challenge.rw_rootstalls_k17_scales_judged.Holds := by
  w_on; o_law; k_head; (case hw => w_witness2)
  k_fill
  refine L2.walk_ofB (l := PySem.Challenge.rw_rootstalls_k17_scales_judged) (n := 63) (k := 9) (x := "_law_script") (CX := fun _ => L2.CX0) (sp := fun w => My.sp_law _) rfl (by decide) rfl ⟨rfl, by decide, by decide⟩ (fun w h Y => PySem.W.kIn_of Y) ?F (fun _ _ a ns hl hb _ hS => ⟨a, ns, rfl, hS, hl, hb, fun _ => rfl⟩) (fun _ _ _ _ _ h => h)
  case F =>
    intro w mg fa h KX G hmg
    refine' My.all_mk KX G hmg ?z_abs ?z_all ?z_bool ?z_dict ?z_enumerate ?z_int ?z_isinstance ?z_len ?z_list ?z_max ?z_min ?z_range ?z_reversed ?z_tuple ?m_gcd ?a_BadPurse ?ex_BadPurse ?kp_BadPurse ?be_BadPurse ?ty_BadPurse ?ic_BadPurse ?sf_BadPurse ?a_BadWish ?ex_BadWish ?kp_BadWish ?be_BadWish ?ty_BadWish ?ic_BadWish ?sf_BadWish ?a_Table ?mk_Table ?in_Table ?fn_Table ?kp_Table ?pg_Table ?hd_Table ?po_Table ?sa_Table ?ha_Table ?hn_Table ?ht_Table ?mo_Table ?i_int_Table ?i_bool_Table ?i_tuple_Table ?i_list_Table ?na_Table_slants ?na_Table_ties ?a_Web ?mk_Web ?in_Web ?fn_Web ?kp_Web ?pg_Web ?hd_Web ?po_Web ?sa_Web ?ha_Web ?hn_Web ?ht_Web ?mo_Web ?i_int_Web ?i_bool_Web ?i_tuple_Web ?i_list_Web ?na_Web_wares ?na_Web_stalls ?x_BadWish_BadPurse ?v_ONE ?o_ONE ?tv_ONE ?v_ZERO ?o_ZERO ?tv_ZERO ?v_MOST_STALLS ?v_MOST_WARES ?a__wall ?l__wall ?c__wall ?k__wall ?a_is_integer ?l_is_integer ?c_is_integer ?k_is_integer ?a_is_row ?l_is_row ?c_is_row ?k_is_row ?a_is_fraction ?l_is_fraction ?c_is_fraction ?k_is_fraction ?a_is_amount ?l_is_amount ?c_is_amount ?k_is_amount ?a_is_some ?l_is_some ?c_is_some ?k_is_some ?a_are_amounts ?l_are_amounts ?c_are_amounts ?k_are_amounts ?a_added ?l_added ?c_added ?k_added ?a_negated ?l_negated ?c_negated ?k_negated ?a_lessened ?l_lessened ?c_lessened ?k_lessened ?a_multiplied ?l_multiplied ?c_multiplied ?k_multiplied ?a_divided ?l_divided ?c_divided ?k_divided ?a_squared ?l_squared ?c_squared ?k_squared ?a_summed ?l_summed ?c_summed ?k_summed ?a_lies_below ?l_lies_below ?c_lies_below ?k_lies_below ?a_is_stall ?l_is_stall ?c_is_stall ?k_is_stall ?a_hold_of ?l_hold_of ?c_hold_of ?k_hold_of ?a_stalls_of ?l_stalls_of ?c_stalls_of ?k_stalls_of ?a_kept_of ?l_kept_of ?c_kept_of ?k_kept_of ?a_held ?l_held ?c_held ?k_held ?a_roots ?l_roots ?c_roots ?k_roots ?a_check_purse ?l_check_purse ?c_check_purse ?k_check_purse ?a_check_wish ?l_check_wish ?c_check_wish ?k_check_wish ?a_may_stay ?l_may_stay ?c_may_stay ?k_may_stay ?a_table_of ?l_table_of ?c_table_of ?k_table_of ?a_strike_row ?l_strike_row ?c_strike_row ?k_strike_row ?a_are_some ?l_are_some ?c_are_some ?k_are_some ?a_filled_back ?l_filled_back ?c_filled_back ?k_filled_back ?a_in_order ?l_in_order ?c_in_order ?k_in_order ?a_struck_in_turn ?l_struck_in_turn ?c_struck_in_turn ?k_struck_in_turn ?a_scales ?l_scales ?c_scales ?k_scales ?a_is_scales ?l_is_scales ?c_is_scales ?k_is_scales ?a_l_deck ?l_l_deck ?c_l_deck ?k_l_deck ?a_l_pick ?l_l_pick ?c_l_pick ?k_l_pick ?a_l_divisor ?l_l_divisor ?c_l_divisor ?k_l_divisor ?a_l_made ?l_l_made ?c_l_made ?k_l_made ?a_l_added ?l_l_added ?c_l_added ?k_l_added ?a_l_taken ?l_l_taken ?c_l_taken ?k_l_taken ?a_l_product ?l_l_product ?c_l_product ?k_l_product ?a_l_amount ?l_l_amount ?c_l_amount ?k_l_amount ?a_l_stall ?l_l_stall ?c_l_stall ?k_l_stall ?a_l_held ?l_l_held ?c_l_held ?k_l_held ?a_l_pulls ?l_l_pulls ?c_l_pulls ?k_l_pulls ?a_l_edge ?l_l_edge ?c_l_edge ?k_l_edge ?a_l_deep ?l_l_deep ?c_l_deep ?k_l_deep ?a_l_changed ?l_l_changed ?c_l_changed ?k_l_changed ?a_l_are_some ?l_l_are_some ?c_l_are_some ?k_l_are_some ?a_l_due ?l_l_due ?c_l_due ?k_l_due ?a_l_is_judged ?l_l_is_judged ?c_l_is_judged ?k_l_is_judged ?a_l_word ?l_l_word ?c_l_word ?k_l_word ?a_law ?l_law ?c_law ?k_law ?l_Web_init ?c_Web_init ?k_Web_init ?l_Table_init ?c_Table_init ?k_Table_init ?mi_Table_wrong_sign ?l_Table_wrong_sign ?c_Table_wrong_sign ?k_Table_wrong_sign ?mf_Table_wrong_sign ?mi_Table_behind ?l_Table_behind ?c_Table_behind ?k_Table_behind ?mf_Table_behind ?mi_Table_ties_without ?l_Table_ties_without ?c_Table_ties_without ?k_Table_ties_without ?mf_Table_ties_without
    (case z_abs => k_is)
    (case z_all => k_is)
    (case z_bool => k_is)
    (case z_dict => k_is)
    (case z_enumerate => k_is)
    (case z_int => k_is)
    (case z_isinstance => k_is)
    (case z_len => k_is)
    (case z_list => k_is)
    (case z_max => k_is)
    (case z_min => k_is)
    (case z_range => k_is)
    (case z_reversed => k_is)
    (case z_tuple => k_is)
    (case m_gcd => k_is)
    (case a_BadPurse => k_is)
    (case ex_BadPurse => first | k_exc | k_is)
    (case kp_BadPurse => k_is)
    (case be_BadPurse => k_is)
    (case ty_BadPurse => k_is)
    (case ic_BadPurse => k_is)
    (case sf_BadPurse => first | rfl | k_is)
    (case a_BadWish => k_is)
    (case ex_BadWish => first | k_exc | k_is)
    (case kp_BadWish => k_is)
    (case be_BadWish => k_is)
    (case ty_BadWish => k_is)
    (case ic_BadWish => k_is)
    (case sf_BadWish => first | rfl | k_is)
    (case a_Table => k_is)
    (case mk_Table => k_is)
    (case in_Table => k_is)
    (case fn_Table => k_is)
    (case kp_Table => k_is)
    (case pg_Table => k_is)
    (case hd_Table => k_is)
    (case po_Table => k_is)
    (case sa_Table => k_is)
    (case ha_Table => k_is)
    (case hn_Table => k_is)
    (case ht_Table => k_is)
    (case mo_Table => k_is)
    (case i_int_Table => first | rfl | k_is | decide +kernel)
    (case i_bool_Table => first | rfl | k_is | decide +kernel)
    (case i_tuple_Table => first | rfl | k_is | decide +kernel)
    (case i_list_Table => first | rfl | k_is | decide +kernel)
    (case na_Table_slants => k_is)
    (case na_Table_ties => k_is)
    (case a_Web => k_is)
    (case mk_Web => k_is)
    (case in_Web => k_is)
    (case fn_Web => k_is)
    (case kp_Web => k_is)
    (case pg_Web => k_is)
    (case hd_Web => k_is)
    (case po_Web => k_is)
    (case sa_Web => k_is)
    (case ha_Web => k_is)
    (case hn_Web => k_is)
    (case ht_Web => k_is)
    (case mo_Web => k_is)
    (case i_int_Web => first | rfl | k_is | decide +kernel)
    (case i_bool_Web => first | rfl | k_is | decide +kernel)
    (case i_tuple_Web => first | rfl | k_is | decide +kernel)
    (case i_list_Web => first | rfl | k_is | decide +kernel)
    (case na_Web_wares => k_is)
    (case na_Web_stalls => k_is)
    (case x_BadWish_BadPurse => k_is)
    (case v_ONE => k_is)
    (case o_ONE => k_is)
    (case tv_ONE => exact ⟨(.cons ⟨_, rfl⟩ (.cons ⟨_, rfl⟩ .nil)), by decide⟩)
    (case v_ZERO => k_is)
    (case o_ZERO => k_is)
    (case tv_ZERO => exact ⟨(.cons ⟨_, rfl⟩ (.cons ⟨_, rfl⟩ .nil)), by decide⟩)
    (case v_MOST_STALLS => k_is)
    (case v_MOST_WARES => k_is)
    (case a__wall => k_is)
    (case l__wall => k_is)
    (case c__wall => k_is)
    (case k__wall => k_is)
    (case a_is_integer => k_is)
    (case l_is_integer => k_is)
    (case c_is_integer => k_is)
    (case k_is_integer => k_is)
    (case a_is_row => k_is)
    (case l_is_row => k_is)
    (case c_is_row => k_is)
    (case k_is_row => k_is)
    (case a_is_fraction => k_is)
    (case l_is_fraction => k_is)
    (case c_is_fraction => k_is)
    (case k_is_fraction => k_is)
    (case a_is_amount => k_is)
    (case l_is_amount => k_is)
    (case c_is_amount => k_is)
    (case k_is_amount => k_is)
    (case a_is_some => k_is)
    (case l_is_some => k_is)
    (case c_is_some => k_is)
    (case k_is_some => k_is)
    (case a_are_amounts => k_is)
    (case l_are_amounts => k_is)
    (case c_are_amounts => k_is)
    (case k_are_amounts => k_is)
    (case a_added => k_is)
    (case l_added => k_is)
    (case c_added => k_is)
    (case k_added => k_is)
    (case a_negated => k_is)
    (case l_negated => k_is)
    (case c_negated => k_is)
    (case k_negated => k_is)
    (case a_lessened => k_is)
    (case l_lessened => k_is)
    (case c_lessened => k_is)
    (case k_lessened => k_is)
    (case a_multiplied => k_is)
    (case l_multiplied => k_is)
    (case c_multiplied => k_is)
    (case k_multiplied => k_is)
    (case a_divided => k_is)
    (case l_divided => k_is)
    (case c_divided => k_is)
    (case k_divided => k_is)
    (case a_squared => k_is)
    (case l_squared => k_is)
    (case c_squared => k_is)
    (case k_squared => k_is)
    (case a_summed => k_is)
    (case l_summed => k_is)
    (case c_summed => k_is)
    (case k_summed => k_is)
    (case a_lies_below => k_is)
    (case l_lies_below => k_is)
    (case c_lies_below => k_is)
    (case k_lies_below => k_is)
    (case a_is_stall => k_is)
    (case l_is_stall => k_is)
    (case c_is_stall => k_is)
    (case k_is_stall => k_is)
    (case a_hold_of => k_is)
    (case l_hold_of => k_is)
    (case c_hold_of => k_is)
    (case k_hold_of => k_is)
    (case a_stalls_of => k_is)
    (case l_stalls_of => k_is)
    (case c_stalls_of => k_is)
    (case k_stalls_of => k_is)
    (case a_kept_of => k_is)
    (case l_kept_of => k_is)
    (case c_kept_of => k_is)
    (case k_kept_of => k_is)
    (case a_held => k_is)
    (case l_held => k_is)
    (case c_held => k_is)
    (case k_held => k_is)
    (case a_roots => k_is)
    (case l_roots => k_is)
    (case c_roots => k_is)
    (case k_roots => k_is)
    (case a_check_purse => k_is)
    (case l_check_purse => k_is)
    (case c_check_purse => k_is)
    (case k_check_purse => k_is)
    (case a_check_wish => k_is)
    (case l_check_wish => k_is)
    (case c_check_wish => k_is)
    (case k_check_wish => k_is)
    (case a_may_stay => k_is)
    (case l_may_stay => k_is)
    (case c_may_stay => k_is)
    (case k_may_stay => k_is)
    (case a_table_of => k_is)
    (case l_table_of => k_is)
    (case c_table_of => k_is)
    (case k_table_of => k_is)
    (case a_strike_row => k_is)
    (case l_strike_row => k_is)
    (case c_strike_row => k_is)
    (case k_strike_row => k_is)
    (case a_are_some => k_is)
    (case l_are_some => k_is)
    (case c_are_some => k_is)
    (case k_are_some => k_is)
    (case a_filled_back => k_is)
    (case l_filled_back => k_is)
    (case c_filled_back => k_is)
    (case k_filled_back => k_is)
    (case a_in_order => k_is)
    (case l_in_order => k_is)
    (case c_in_order => k_is)
    (case k_in_order => k_is)
    (case a_struck_in_turn => k_is)
    (case l_struck_in_turn => k_is)
    (case c_struck_in_turn => k_is)
    (case k_struck_in_turn => k_is)
    (case a_scales => k_is)
    (case l_scales => k_is)
    (case c_scales => k_is)
    (case k_scales => k_is)
    (case a_is_scales => k_is)
    (case l_is_scales => k_is)
    (case c_is_scales => k_is)
    (case k_is_scales => k_is)
    (case a_l_deck => k_is)
    (case l_l_deck => k_is)
    (case c_l_deck => k_is)
    (case k_l_deck => k_is)
    (case a_l_pick => k_is)
    (case l_l_pick => k_is)
    (case c_l_pick => k_is)
    (case k_l_pick => k_is)
    (case a_l_divisor => k_is)
    (case l_l_divisor => k_is)
    (case c_l_divisor => k_is)
    (case k_l_divisor => k_is)
    (case a_l_made => k_is)
    (case l_l_made => k_is)
    (case c_l_made => k_is)
    (case k_l_made => k_is)
    (case a_l_added => k_is)
    (case l_l_added => k_is)
    (case c_l_added => k_is)
    (case k_l_added => k_is)
    (case a_l_taken => k_is)
    (case l_l_taken => k_is)
    (case c_l_taken => k_is)
    (case k_l_taken => k_is)
    (case a_l_product => k_is)
    (case l_l_product => k_is)
    (case c_l_product => k_is)
    (case k_l_product => k_is)
    (case a_l_amount => k_is)
    (case l_l_amount => k_is)
    (case c_l_amount => k_is)
    (case k_l_amount => k_is)
    (case a_l_stall => k_is)
    (case l_l_stall => k_is)
    (case c_l_stall => k_is)
    (case k_l_stall => k_is)
    (case a_l_held => k_is)
    (case l_l_held => k_is)
    (case c_l_held => k_is)
    (case k_l_held => k_is)
    (case a_l_pulls => k_is)
    (case l_l_pulls => k_is)
    (case c_l_pulls => k_is)
    (case k_l_pulls => k_is)
    (case a_l_edge => k_is)
    (case l_l_edge => k_is)
    (case c_l_edge => k_is)
    (case k_l_edge => k_is)
    (case a_l_deep => k_is)
    (case l_l_deep => k_is)
    (case c_l_deep => k_is)
    (case k_l_deep => k_is)
    (case a_l_changed => k_is)
    (case l_l_changed => k_is)
    (case c_l_changed => k_is)
    (case k_l_changed => k_is)
    (case a_l_are_some => k_is)
    (case l_l_are_some => k_is)
    (case c_l_are_some => k_is)
    (case k_l_are_some => k_is)
    (case a_l_due => k_is)
    (case l_l_due => k_is)
    (case c_l_due => k_is)
    (case k_l_due => k_is)
    (case a_l_is_judged => k_is)
    (case l_l_is_judged => k_is)
    (case c_l_is_judged => k_is)
    (case k_l_is_judged => k_is)
    (case a_l_word => k_is)
    (case l_l_word => k_is)
    (case c_l_word => k_is)
    (case k_l_word => k_is)
    (case a_law => k_is)
    (case l_law => k_is)
    (case c_law => k_is)
    (case k_law => k_is)
    (case l_Web_init => k_is)
    (case c_Web_init => k_is)
    (case k_Web_init => k_is)
    (case l_Table_init => k_is)
    (case c_Table_init => k_is)
    (case k_Table_init => k_is)
    (case mi_Table_wrong_sign => k_is)
    (case l_Table_wrong_sign => k_is)
    (case c_Table_wrong_sign => k_is)
    (case k_Table_wrong_sign => k_is)
    (case mf_Table_wrong_sign => k_is)
    (case mi_Table_behind => k_is)
    (case l_Table_behind => k_is)
    (case c_Table_behind => k_is)
    (case k_Table_behind => k_is)
    (case mf_Table_behind => k_is)
    (case mi_Table_ties_without => k_is)
    (case l_Table_ties_without => k_is)
    (case c_Table_ties_without => k_is)
    (case k_Table_ties_without => k_is)
    (case mf_Table_ties_without => k_is)
