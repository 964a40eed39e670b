import PyProof.Rows.All
import Wide.All
import OpenK.AllK
import Wide.FinOn
import PyProof.NoPylong
import HandS.ForMost
import HandS.Wide
import HandS.Defaults
import HandS.MakeKw
import HandS.MakeKwOnly
import HandS.Exc
import HandS.WordsExc
import HandS.IsInst
import HandS.FStr
import HandS.Style
import HandS.Codes
import HandS.NoneIn
import PyProof.LongRange
import HandS.Walk
import HandS.Zip
import PyProof.P3Eq
import PyProof.EqLayable
import KE.KTupSum
import HandS.SortInts
import HandS.Deep
import HandS.TupSets
import HandS.SortOrd
import HandS.More
import PySem.Challenge.RW_meanmoon_k32_all_unlike_stretches
set_option Elab.async false
set_option linter.all false
set_option maxRecDepth 100000
set_option maxHeartbeats 4000000
namespace MM
/-! fractions as Rat: the program's and the law's lowest terms are num and den -/
theorem gcd_fmod (a b : Int) : Int.gcd b (a.fmod b) = Int.gcd a b := by
  have h : a.fmod b = a - b * a.fdiv b := by have := Int.mul_fdiv_add_fmod a b; omega
  rw [h, Int.gcd_comm a b]
  rw [Int.sub_eq_add_neg, ← Int.mul_neg, Int.gcd_add_mul_left_right]
theorem gcd_emod' (a b : Int) : Int.gcd b (a % b) = Int.gcd a b := by
  have h : a % b = a - b * (a / b) := by have := Int.mul_ediv_add_emod a b; omega
  rw [h, Int.gcd_comm a b]
  rw [Int.sub_eq_add_neg, ← Int.mul_neg, Int.gcd_add_mul_left_right]
theorem fmod_lt (a : Int) {b : Int} (h : b ≠ 0) : (a.fmod b).natAbs < b.natAbs := by
  rcases Int.lt_or_gt_of_ne h with hb | hb
  · have e : a.fmod b = -((-a).fmod (-b)) := by rw [Int.neg_fmod_neg, Int.neg_neg]
    have h1 := Int.fmod_nonneg_of_pos (-a) (show (0 : Int) < -b by omega)
    have h2 := Int.fmod_lt_of_pos (-a) (show (0 : Int) < -b by omega)
    rw [e]
    omega
  · have h1 := Int.fmod_nonneg_of_pos a hb
    have h2 := Int.fmod_lt_of_pos a hb
    omega
theorem gcd_pos {t b : Int} (h : b ≠ 0) : 0 < Int.gcd t b := Int.gcd_pos_of_ne_zero_right t h
/-- the divisor that makes lowest terms -/
def gs (t b : Int) : Int := if b < 0 then -(Int.gcd t b : Int) else (Int.gcd t b : Int)
theorem gs_ne {t b : Int} (h : b ≠ 0) : gs t b ≠ 0 := by
  have := gcd_pos (t := t) h
  unfold gs
  split <;> omega
theorem low_num {t b : Int} (h : b ≠ 0) : t.fdiv (gs t b) = (Rat.divInt t b).num := by
  have hg := gcd_pos (t := t) h
  rw [Rat.num_divInt, Int.gcd_comm b t]
  unfold gs
  split
  · rename_i hb
    rw [Int.sign_eq_neg_one_of_neg hb, Int.neg_one_mul]
    rw [← Int.neg_fdiv_neg, Int.neg_neg, Int.fdiv_eq_ediv_of_nonneg _ (by omega)]
  · rw [Int.sign_eq_one_of_pos (by omega), Int.one_mul, Int.fdiv_eq_ediv_of_nonneg _ (by omega)]
theorem low_den {t b : Int} (h : b ≠ 0) : b.fdiv (gs t b) = ((Rat.divInt t b).den : Int) := by
  have hg := gcd_pos (t := t) h
  rw [Rat.den_divInt, if_neg h, Int.gcd_comm b t, Int.natCast_ediv]
  unfold gs
  split
  · rename_i hb
    rw [← Int.neg_fdiv_neg, Int.neg_neg, Int.fdiv_eq_ediv_of_nonneg _ (by omega)]
    congr 1
    omega
  · rw [Int.fdiv_eq_ediv_of_nonneg _ (by omega)]
    congr 1
    omega
theorem den_pos (q : Rat) : (0 : Int) < (q.den : Int) := by
  have := q.den_pos
  omega
/-- sizes -/
def Sz (n : Nat) (i : Int) : Prop := i.natAbs < 2 ^ n
def Rz (n : Nat) (q : Rat) : Prop := Sz n q.num ∧ Sz n q.den
theorem Sz.mono {n m : Nat} {i : Int} (h : Sz n i) (l : n ≤ m) : Sz m i := Nat.lt_of_lt_of_le h (Nat.pow_le_pow_right (by decide) l)
theorem Rz.mono {n m : Nat} {q : Rat} (h : Rz n q) (l : n ≤ m) : Rz m q := ⟨h.1.mono l, h.2.mono l⟩
theorem Sz.mul {n m : Nat} {i j : Int} (h : Sz n i) (k : Sz m j) : Sz (n + m) (i * j) := by
  unfold Sz
  rw [Int.natAbs_mul, Nat.pow_add]
  exact Nat.mul_lt_mul'' h k
theorem Sz.add {n m : Nat} {i j : Int} (h : Sz n i) (k : Sz n j) (l : n < m) : Sz m (i + j) := by
  have h' : i.natAbs < 2 ^ n := h
  have k' : j.natAbs < 2 ^ n := k
  have e : 2 ^ (n + 1) ≤ 2 ^ m := Nat.pow_le_pow_right (by decide) l
  rw [Nat.pow_succ] at e
  have z := Int.natAbs_add_le i j
  unfold Sz
  omega
theorem Sz.neg {n : Nat} {i : Int} (h : Sz n i) : Sz n (-i) := by
  unfold Sz
  rw [Int.natAbs_neg]
  exact h
theorem Sz.sub {n m : Nat} {i j : Int} (h : Sz n i) (k : Sz n j) (l : n < m) : Sz m (i - j) := by
  rw [Int.sub_eq_add_neg]
  exact h.add k.neg l
theorem natAbs_ediv_le (a : Int) {b : Nat} : (a / (b : Int)).natAbs ≤ a.natAbs := Int.natAbs_ediv_le_natAbs _ _
theorem Rz.divInt {n : Nat} {t b : Int} (h : Sz n t) (k : Sz n b) (h0 : 0 < n) : Rz n (Rat.divInt t b) := by
  refine ⟨?_, ?_⟩
  · unfold Sz
    rw [Rat.num_divInt]
    refine Nat.lt_of_le_of_lt (Int.natAbs_ediv_le_natAbs _ _) ?_
    rw [Int.natAbs_mul]
    refine Nat.lt_of_le_of_lt ?_ h
    have : b.sign.natAbs ≤ 1 := by
      rcases Int.lt_trichotomy b 0 with z | z | z
      · rw [Int.sign_eq_neg_one_of_neg z]; decide
      · rw [z]; decide
      · rw [Int.sign_eq_one_of_pos z]; decide
    calc b.sign.natAbs * t.natAbs ≤ 1 * t.natAbs := Nat.mul_le_mul_right _ this
      _ = t.natAbs := Nat.one_mul _
  · unfold Sz
    rw [Rat.den_divInt]
    split
    · show 1 < 2 ^ n
      exact Nat.one_lt_two_pow (by omega)
    · rw [Int.natAbs_natCast]
      exact Nat.lt_of_le_of_lt (Nat.div_le_self _ _) k
theorem add_eq (p q : Rat) : p + q = Rat.divInt (p.num * q.den + q.num * p.den) ((p.den : Int) * q.den) := by
  have := Rat.divInt_add_divInt p.num q.num (d₁ := p.den) (d₂ := q.den) (by have := den_pos p; omega) (by have := den_pos q; omega)
  rw [Rat.num_divInt_den, Rat.num_divInt_den] at this
  exact this
theorem sub_eq (p q : Rat) : p - q = Rat.divInt (p.num * q.den - q.num * p.den) ((p.den : Int) * q.den) := by
  rw [Rat.sub_eq_add_neg, add_eq]
  rw [Rat.neg_num, Rat.neg_den, Int.neg_mul, ← Int.sub_eq_add_neg]
theorem mul_eq (p q : Rat) : p * q = Rat.divInt (p.num * q.num) ((p.den : Int) * q.den) := by
  have := Rat.divInt_mul_divInt p.num q.num (d₁ := p.den) (d₂ := q.den)
  rw [Rat.num_divInt_den, Rat.num_divInt_den] at this
  exact this
theorem div_eq (p q : Rat) (h : q ≠ 0) : p / q = Rat.divInt (p.num * q.den) ((p.den : Int) * q.num) := by
  rw [Rat.div_def, mul_eq]
  have hq : q.num ≠ 0 := fun z => h (Rat.num_eq_zero.mp z)
  have e : q⁻¹ = Rat.divInt q.den q.num := by
    have := Rat.inv_divInt q.num q.den
    rw [Rat.num_divInt_den] at this
    exact this
  rw [← mul_eq, e]
  have := Rat.divInt_mul_divInt p.num q.den (d₁ := p.den) (d₂ := q.num)
  rw [Rat.num_divInt_den] at this
  exact this
theorem lt_iff' (p q : Rat) : p < q ↔ p.num * q.den < q.num * p.den := Rat.lt_iff p q
theorem Rz.add {n l m : Nat} {p q : Rat} (h : Rz n p) (k : Rz l q) (hl : n + l < m) : Rz m (p + q) := by
  rw [add_eq]
  exact Rz.divInt (Sz.add (n := n + l) ((h.1.mul k.2).mono (by omega)) ((k.1.mul h.2).mono (by omega)) hl) ((h.2.mul k.2).mono (by omega)) (by omega)
theorem Rz.sub {n l m : Nat} {p q : Rat} (h : Rz n p) (k : Rz l q) (hl : n + l < m) : Rz m (p - q) := by
  rw [sub_eq]
  exact Rz.divInt (Sz.sub (n := n + l) ((h.1.mul k.2).mono (by omega)) ((k.1.mul h.2).mono (by omega)) hl) ((h.2.mul k.2).mono (by omega)) (by omega)
theorem Rz.mul {n l m : Nat} {p q : Rat} (h : Rz n p) (k : Rz l q) (hl : n + l < m) : Rz m (p * q) := by
  rw [mul_eq]
  exact Rz.divInt ((h.1.mul k.1).mono (by omega)) ((h.2.mul k.2).mono (by omega)) (by omega)
theorem Rz.div {n l m : Nat} {p q : Rat} (h : Rz n p) (k : Rz l q) (z : q ≠ 0) (hl : n + l < m) : Rz m (p / q) := by
  rw [div_eq p q z]
  exact Rz.divInt ((h.1.mul k.2).mono (by omega)) ((h.2.mul k.1).mono (by omega)) (by omega)
theorem Rz.int {n : Nat} {i : Int} (h : Sz n i) (h0 : 0 < n) : Rz n (i : Rat) := ⟨h, (by show 1 < 2 ^ n; exact Nat.one_lt_two_pow (by omega))⟩
theorem Sz.floor {n : Nat} {q : Rat} (h : Rz n q) : Sz n q.floor := by
  unfold Sz
  rw [Rat.floor_def]
  exact Nat.lt_of_le_of_lt (Int.natAbs_ediv_le_natAbs _ _) h.1
theorem neg_div_ceil (q : Rat) : -(-q.num / (q.den : Int)) = q.ceil := by
  have := Rat.ceil_eq_neg_floor_neg q
  rw [this, Rat.floor_def, Rat.neg_num, Rat.neg_den]
theorem Rz.neg {n : Nat} {q : Rat} (h : Rz n q) : Rz n (-q) := ⟨by rw [Rat.neg_num]; exact h.1.neg, by rw [Rat.neg_den]; exact h.2⟩
theorem Sz.ceil {n : Nat} {q : Rat} (h : Rz n q) : Sz n q.ceil := by
  rw [Rat.ceil_eq_neg_floor_neg]
  exact (Sz.floor h.neg).neg
theorem Sz.of {n : Nat} {i : Int} (h1 : -(2 ^ n) < i) (h2 : i < 2 ^ n) : Sz n i := by
  unfold Sz
  have e : ((2 ^ n : Nat) : Int) = (2 : Int) ^ n := by simp
  omega
end MM
namespace MM
/-! the calendar's mathematics: floor, ceil, and the steps of months and marks -/
structure Fit (m y : Rat) : Prop where
  one : 1 ≤ m
  between : (m.ceil : Rat) ≤ y / 12
  thirteen : y + 1 ≤ 13 * m
theorem Fit.pos {m y : Rat} (f : Fit m y) : 0 < m := by
  have := f.one
  grind
theorem Fit.ypos {m y : Rat} (f : Fit m y) : 0 < y / 12 := by
  have h1 := f.one
  have h2 := f.between
  have h3 : m ≤ (m.ceil : Rat) := Rat.le_ceil
  grind
def stF (m o : Rat) (k : Int) : Int := (o + k * m).floor
def mdF (y k : Rat) (j : Int) : Int := (k + j * (y / 12)).floor
def maF (m o : Rat) (d : Int) : Int := ((((d + 1 : Int) : Rat) - o) / m).ceil - 1
def jF (y k : Rat) (d : Int) : Int := (((d : Rat) - k) / (y / 12)).ceil
theorem lt_ceil_iff {q : Rat} {i : Int} : i < q.ceil ↔ (i : Rat) < q := by
  have h : q.ceil ≤ i ↔ q ≤ (i : Rat) := Rat.ceil_le_iff
  constructor
  · intro hi
    have : ¬ q.ceil ≤ i := by omega
    rw [h] at this
    exact Rat.not_le.mp this
  · intro hi
    have : ¬ q ≤ (i : Rat) := Rat.not_le.mpr hi
    rw [← h] at this
    omega
theorem floor_le_iff {q : Rat} {i : Int} : q.floor ≤ i ↔ q < ((i + 1 : Int) : Rat) := by
  have h := Rat.floor_lt_iff (a := q) (x := i + 1)
  rw [← h]
  omega
/-- the months up to K begin by the day d -/
theorem st_le {m o : Rat} (hm : 0 < m) {k d : Int} : stF m o k ≤ d ↔ k ≤ maF m o d := by
  unfold stF maF
  rw [floor_le_iff]
  have e : k ≤ ((((d + 1 : Int) : Rat) - o) / m).ceil - 1 ↔ k < ((((d + 1 : Int) : Rat) - o) / m).ceil := by omega
  rw [e, lt_ceil_iff, Rat.lt_div_iff hm]
  constructor <;> intro h <;> grind
theorem ma_of {m o : Rat} (hm : 0 < m) {k d : Int} (h1 : stF m o k ≤ d) (h2 : d < stF m o (k + 1)) : maF m o d = k := by
  have a := (st_le hm).mp h1
  have b : ¬ k + 1 ≤ maF m o d := fun z => by
    have := (st_le hm).mpr z
    omega
  omega
theorem st_ma {m o : Rat} (hm : 0 < m) (d : Int) : stF m o (maF m o d) ≤ d := (st_le hm).mpr (Int.le_refl _)
theorem ma_st {m o : Rat} (hm : 0 < m) (d : Int) : d < stF m o (maF m o d + 1) := by
  have : ¬ stF m o (maF m o d + 1) ≤ d := fun z => by
    have := (st_le hm).mp z
    omega
  omega
theorem cast_add1 (k : Int) : ((k + 1 : Int) : Rat) = (k : Rat) + 1 := by
  rw [Rat.intCast_add]
  rfl
theorem st_step {m o : Rat} (hm : 1 ≤ m) (k : Int) : stF m o k + 1 ≤ stF m o (k + 1) := by
  unfold stF
  rw [Rat.le_floor_iff, cast_add1, cast_add1]
  have h := Rat.floor_le (o + (k : Rat) * m)
  grind
theorem md_lt {y k : Rat} (hy : 0 < y / 12) {j d : Int} : mdF y k j < d ↔ j < jF y k d := by
  unfold mdF jF
  rw [Rat.floor_lt_iff, lt_ceil_iff, Rat.lt_div_iff hy]
  constructor <;> intro h <;> grind
theorem md_ge {y k : Rat} (hy : 0 < y / 12) (d : Int) : d ≤ mdF y k (jF y k d) := by
  have : ¬ mdF y k (jF y k d) < d := fun z => by
    have := (md_lt hy).mp z
    omega
  omega
/-- of two months in a row one has a mark -/
theorem two_months {m y o k : Rat} (f : Fit m y) (i : Int) : mdF y k (jF y k (stF m o (i - 1))) < stF m o (i + 1) := by
  have hy := f.ypos
  have h1 : mdF y k (jF y k (stF m o (i - 1)) - 1) < stF m o (i - 1) := (md_lt hy).mpr (by omega)
  unfold mdF at h1 ⊢
  rw [Rat.floor_lt_iff] at h1 ⊢
  have e1 : ((jF y k (stF m o (i - 1)) - 1 : Int) : Rat) = (jF y k (stF m o (i - 1)) : Rat) - 1 := by rw [Rat.intCast_sub]; rfl
  rw [e1] at h1
  have h2 : ((stF m o (i - 1) : Int) : Rat) ≤ o + ((i - 1 : Int) : Rat) * m := Rat.floor_le _
  have h3 : o + ((i + 1 : Int) : Rat) * m - 1 < ((stF m o (i + 1) : Int) : Rat) := Rat.lt_floor
  have e2 : ((i - 1 : Int) : Rat) = (i : Rat) - 1 := by rw [Rat.intCast_sub]; rfl
  rw [e2] at h2
  rw [cast_add1] at h3
  have a := f.one
  have b := f.thirteen
  have c : y / 12 ≤ 2 * m - 1 := by grind
  grind
theorem k0_le {m o : Rat} (hm : 0 < m) (d : Int) : (((d : Rat) - o) / m).floor - 1 ≤ maF m o d := by
  have h : ((((d : Rat) - o) / m).floor - 1) < ((((d + 1 : Int) : Rat) - o) / m).ceil := by
    rw [lt_ceil_iff, Rat.intCast_sub]
    have h1 := Rat.floor_le (((d : Rat) - o) / m)
    have h2 : ((d : Rat) - o) / m < (((d + 1 : Int) : Rat) - o) / m := by
      rw [cast_add1, Rat.lt_div_iff hm, Rat.div_mul_cancel (by grind)]
      grind
    have h3 : ((1 : Int) : Rat) = 1 := rfl
    grind
  unfold maF
  omega
theorem j0_le {y k : Rat} (d : Int) : (((d : Rat) - k) / (y / 12)).floor - 1 ≤ jF y k d := by
  have h : (((d : Rat) - k) / (y / 12)).floor ≤ (((d : Rat) - k) / (y / 12)).ceil := Rat.intCast_le_intCast.mp (Rat.le_trans (Rat.floor_le _) Rat.le_ceil)
  unfold jF
  omega
end MM
namespace MM
theorem floor_divInt {t b : Int} (hb : 0 < b) : (Rat.divInt t b).floor = t / b := by
  rw [Rat.floor_def]
  have h := Rat.num_divInt_den (Rat.divInt t b)
  have hd := den_pos (Rat.divInt t b)
  rw [Rat.divInt_eq_divInt_iff (by omega) (by omega)] at h
  have e1 : t / b = (t * ((Rat.divInt t b).den : Int)) / (b * ((Rat.divInt t b).den : Int)) := (Int.mul_ediv_mul_of_pos_left _ _ hd).symm
  rw [e1, ← h, Int.mul_comm b, Int.mul_ediv_mul_of_pos_left _ _ hb]
theorem inv_eq (q : Rat) : q⁻¹ = Rat.divInt q.den q.num := by
  have := Rat.inv_divInt q.num q.den
  rw [Rat.num_divInt_den] at this
  exact this
theorem div12 (x y : Rat) (hy : y ≠ 0) : Rat.divInt (x.num * 12 * y.den) ((x.den : Int) * y.num) = x / (y / 12) := by
  have e : x / (y / 12) = x * 12 * y⁻¹ := by grind
  rw [e, inv_eq]
  have h1 : x * 12 = Rat.divInt (x.num * 12) ((x.den : Int) * 1) := by
    have h := Rat.divInt_mul_divInt x.num 12 (d₁ := x.den) (d₂ := 1)
    rw [Rat.num_divInt_den] at h
    exact h
  rw [h1, Rat.divInt_mul_divInt, Int.mul_one]
theorem Sz.between {n : Nat} {a x b : Int} (ha : Sz n a) (hb : Sz n b) (h1 : a ≤ x) (h2 : x ≤ b) : Sz n x := by
  unfold Sz at *
  omega
theorem Fit.ypos' {m y : Rat} (f : Fit m y) : 0 < y := by
  have := f.ypos
  grind
theorem num_pos {q : Rat} (h : 0 < q) : 0 < q.num := by
  have := (lt_iff' 0 q).mp h
  rw [show (0 : Rat).num = 0 from rfl, show (0 : Rat).den = 1 from rfl] at this
  omega
end MM
namespace MM
theorem unit_divInt {t b : Int} (h0 : 0 ≤ t) (h1 : t ≤ b) (hb : 0 < b) : 0 ≤ Rat.divInt t b ∧ Rat.divInt t b ≤ 1 := by
  have hb' : (0 : Rat) < (b : Rat) := Rat.intCast_lt_intCast.mpr hb
  have h0' : (0 : Rat) ≤ (t : Rat) := Rat.intCast_le_intCast.mpr h0
  have h1' : (t : Rat) ≤ (b : Rat) := Rat.intCast_le_intCast.mpr h1
  rw [Rat.divInt_eq_div]
  have e : (t : Rat) / (b : Rat) * (b : Rat) = t := Rat.div_mul_cancel (by grind)
  refine ⟨?_, ?_⟩
  · apply Rat.not_lt.mp
    intro z
    have := Rat.mul_lt_mul_of_pos_right z hb'
    grind
  · apply Rat.not_lt.mp
    intro z
    have := Rat.mul_lt_mul_of_pos_right z hb'
    grind
theorem cast_sub1 (w : Int) : ((w - 1 : Int) : Rat) = (w : Rat) - 1 := by
  rw [Rat.intCast_sub]
  rfl
theorem cast_12 (w : Int) : ((12 * w : Int) : Rat) = 12 * (w : Rat) := by
  rw [Rat.intCast_mul]
  rfl
/-- the law's drawn month and year make a calendar -/
theorem fit_drawn {w : Int} (hw : 1 ≤ w) {s r : Rat} (s0 : 0 ≤ s) (s1 : s ≤ 1) (r0 : 0 ≤ r) (r1 : r ≤ 1) :
    Fit ((((12 * w + 1 : Int) : Rat) + s * ((w - 1 : Int) : Rat)) * Rat.divInt 1 13) (((12 * w : Int) : Rat) + r * s * ((w - 1 : Int) : Rat)) := by
  have hW : (1 : Rat) ≤ (w : Rat) := Rat.intCast_le_intCast.mpr hw
  rw [cast_add1, cast_12, cast_sub1, Rat.divInt_eq_div]
  have a0 : 0 ≤ s * ((w : Rat) - 1) := Rat.mul_nonneg s0 (by grind)
  have a1 : s * ((w : Rat) - 1) ≤ 1 * ((w : Rat) - 1) := Rat.mul_le_mul_of_nonneg_right s1 (by grind)
  have b0 : 0 ≤ r * (s * ((w : Rat) - 1)) := Rat.mul_nonneg r0 a0
  have b1 : r * (s * ((w : Rat) - 1)) ≤ 1 * (s * ((w : Rat) - 1)) := Rat.mul_le_mul_of_nonneg_right r1 a0
  have e : r * s * ((w : Rat) - 1) = r * (s * ((w : Rat) - 1)) := Rat.mul_assoc _ _ _
  rw [e]
  have c1 : ((1 : Int) : Rat) = 1 := rfl
  have c13 : ((13 : Int) : Rat) = 13 := rfl
  rw [c1, c13]
  generalize s * ((w : Rat) - 1) = z at *
  generalize r * z = u at *
  refine ⟨by grind, ?_, by grind⟩
  have h : ((12 * (w : Rat) + 1 + z) * (1 / 13)).ceil ≤ w := Rat.ceil_le_iff.mpr (by grind)
  have h' : (((12 * (w : Rat) + 1 + z) * (1 / 13)).ceil : Rat) ≤ (w : Rat) := Rat.intCast_le_intCast.mpr h
  grind
end MM
namespace MM
open PySem PySem.Spec PyProof.Rows L2
/-! ### defs and their calls -/
/-- a def of the module under its name, with its defaults -/
structure Df (K : PySem.W.Frag) (mg : Str → Option Value) (x : Str) (st : Stmt) (dvs : List V) : Prop where
  ex : ∃ (f : Addr) (fd : FuncData), FunD K x x (defArgs st) (defBody st) (defScope st) dvs [] f fd ∧ mg x = some (.ref f)
/-- what is known of a def that is called: its promise, how it is bound -/
structure Ca (P : Program) (w : World) (K : PySem.W.Frag) (mg : Str → Option Value) (base : Heap) (CX : CXT) (k : Nat) (x : Str) (st : Stmt) (dvs : List V) (ps : List Str) (sp : Sp) : Prop where
  ex : ∃ (f : Addr) (fd : FuncData), FunD K x x (defArgs st) (defBody st) (defScope st) dvs [] f fd ∧ mg x = some (.ref f) ∧ FnOk P w K mg base CX k f fd ps sp
/-- the parameters of a def, all given by place -/
def Bd (x qual : Str) (st : Stmt) (ps : List Str) : Prop := ∀ (kV doc pm : Value) (an : Option Addr) (cdv ct : Value) (us : List Value), us.length = ps.length →
  bindArgs (PySem.W.fnOf x qual (defArgs st) (defBody st) (defScope st) .none kV doc pm an cdv ct) ⟨us, []⟩ = pure (ps.zip us)
section
variable {P : Program} {w : World} {K : PySem.W.Frag} {mg : Str → Option Value} {base : Heap} {x : Str} {st : Stmt} {dvs : List V} {N ps : List Str} {k : Nat} {sp : Sp}
theorem ca0 (D : Df K mg x st dvs) (S : FnScope N ps (defScope st)) (len : ∀ vs H Q E, sp vs H Q E → vs.length = ps.length)
    (body : ∀ (f : Addr) (cdv : Value) (A : Around) (outer : List Env) (s : Shared) (H : Hp) (vs : List V) (Q : VK) (E : XK), Room k (A.deeper (envOfC x (defScope st) s.heap.objs.size f cdv)) → sp vs H Q E →
      ∃ t, PSs (cxOf CX0 P w K mg base N x (defScope st) f cdv A outer s H E).nox (defBody st) t ∧ t { nx := fun _ H' => Q .non H', rt := Q } (start N vs) H) : Ca P w K mg base CX0 (k + 1) x st dvs ps sp := by
  obtain ⟨f, fd, F, hm⟩ := D.ex
  refine ⟨f, fd, F, hm, F.ok S len fun cdv A outer s H vs Q E hr h => ?_⟩
  obtain ⟨t, h1, h2⟩ := body f cdv A outer s H vs Q E hr h
  exact ⟨t, h1.nox, h2⟩
theorem caX (D : Df K mg x st dvs) (S : FnScope N ps (defScope st)) (len : ∀ vs H Q E, sp vs H Q E → vs.length = ps.length)
    (body : ∀ (f : Addr) (cdv : Value) (A : Around) (outer : List Env) (s : Shared) (H : Hp) (vs : List V) (Q : VK) (E : XK), Room k (A.deeper (envOfC x (defScope st) s.heap.objs.size f cdv)) → sp vs H Q E →
      ∃ t, PSs (cxOf (L2.CX P w) P w K mg base N x (defScope st) f cdv A outer s H E) (defBody st) t ∧ t { nx := fun _ H' => Q .non H', rt := Q } (start N vs) H) : Ca P w K mg base (L2.CX P w) (k + 1) x st dvs ps sp := by
  obtain ⟨f, fd, F, hm⟩ := D.ex
  exact ⟨f, fd, F, hm, F.ok S len fun cdv A outer s H vs Q E hr h => body f cdv A outer s H vs Q E hr h⟩
theorem FunD.none {qual : Str} {params : Arguments} {bodyS : List Stmt} {scope : Scope} {f : Addr} {fd : FuncData} (F : FunD K x qual params bodyS scope [] [] f fd) :
    ∃ (kV doc pm : Value) (an : Option Addr) (cdv ct : Value), fd = PySem.W.fnOf x qual params bodyS scope .none kV doc pm an cdv ct := by
  obtain ⟨oc, od, dV, kV, doc, pm, an, cdv, ct, osl, rfl, lk, hcd, hD, hK⟩ := F.ex
  rcases hD with ⟨_, rfl⟩ | ⟨e, _⟩
  · exact ⟨kV, doc, pm, an, cdv, ct, rfl⟩
  · exact absurd rfl e
end
section
variable {X : Cx} {CX : CXT} {k j n : Nat} {C : Addr} {x m : Str} {st : Stmt} {sp : Sp} {ps ks : List Str} {dvs : List V} {E : XK} {p pos apos : Pos} {e o : Expr} {es : List Expr} {kws : List Keyword} {ta : TE} {t tk : TA}
/-- f(e, ..), all parameters by place -/
theorem pe_ca (c : Ca X.prog X.w X.K X.mg X.base CX k x st [] ps sp) (b : Bd x x st ps) (hr : Room j X.A) (hk : k ≤ j) (hx : Passes CX X E) (hg : Gl X x) (ha : PA X (e :: es) t)
    (hdb : (x == ("__debug__" : Str)) = false := by decide) (he : starEach (e :: es) X.env = (false, eval e X.env) :: starEach es X.env := by rfl) (hpl : (backTo pos (starEach es X.env)).any (·.1) = false := by rfl) :
    PE X (.Call (.Name x p) (e :: es) [] pos) (tCall sp [] E t) := by
  obtain ⟨f, fd, F, hm, G⟩ := c.ex
  exact pe_call G (hr.mono hk) hg hm F.kp (F.bindsN b) .nil hx ha hdb he hpl
/-- how keywords bind where there is no default: g puts the places' values and the keywords' in order -/
structure Kb (x : Str) (st : Stmt) (n : Nat) (ks ps : List Str) (g : {α : Type} → List α → List α → List α) : Prop where
  bind : ∀ (kV doc pm : Value) (an : Option Addr) (cdv ct : Value) (us ws : List Value), us.length = n → ws.length = ks.length →
    bindArgs (PySem.W.fnOf x x (defArgs st) (defBody st) (defScope st) .none kV doc pm an cdv ct) ⟨us, ks.zip ws⟩ = pure (ps.zip (g us ws))
  rel : ∀ {vs zs : List V} {us ws : List Value}, vs.length = n → zs.length = ks.length → Vals vs us → Vals zs ws → Vals (g vs zs) (g us ws)
/-- f(k = v, ..) of a def without defaults -/
theorem pe_caK {g : {α : Type} → List α → List α → List α} (c : Ca X.prog X.w X.K X.mg X.base CX k x st [] ps sp) (b : Kb x st 0 ks ps g) (hr : Room j X.A) (hk : k ≤ j) (hx : Passes CX X E) (hg : Gl X x) (hkw : PK X kws tk)
    (hall : (backToKw pos (keywordEach kws X.env)).all (·.1.isSome) = true := by rfl) (hks : (backToKw pos (keywordEach kws X.env)).filterMap (·.1) = ks := by rfl) (hdb : (x == ("__debug__" : Str)) = false := by decide)
    (hpl : ((backTo pos (starEach [] X.env)).any (·.1) || (backToKw pos (keywordEach kws X.env)).any (·.1.isNone)) = false := by rfl) :
    PE X (.Call (.Name x p) [] kws pos) (fun σ H Q => tk σ H fun zs H2 => zs.length = ks.length ∧ sp (g [] zs) H2 Q E) := by
  obtain ⟨f, fd, F, hm, G⟩ := c.ex
  obtain ⟨kV, doc, pm, an, cdv, ct, rfl⟩ := FunD.none F
  refine ⟨fun pins s σ H Q I h => ?_⟩
  refine wpAny_Call_Name_kw (ld_glob I hg hm ?_ hdb)
  refine PySem.W.callWith_KW0 (h₀ := X.base) I.ok.mod.kin F.kp hall ?_ hpl
  refine thn (hkw.run pos pins s σ H _ I h) fun ws s2 ⟨zs, H2, I2, rz, l2, q2⟩ => ⟨I2.kIn, ?_⟩
  rw [hks]
  have r2 : Vals (g [] zs) (g [] ws) := b.rel rfl l2 .nil rz
  refine wpAny_call (codeAny_mono (G.run X.A X.stack s2 H2 ⟨[], ks.zip ws⟩ (g [] ws) (g [] zs) Q E (hr.mono hk) I2.env0 (.of_eq (b.bind kV doc pm an cdv ct [] ws rfl (rz.length.symm.trans l2))) r2 q2) fun r s' hq => ?_)
  match r, hq with
  | .error e, hq => exact hx pins σ H2 s2 e s' I2 hq
  | .ok (.ret u), hq => exact I2.after hq
  | .ok .next, hq => exact False.elim hq
  | .ok .brk, hq => exact False.elim hq
  | .ok .cont, hq => exact False.elim hq
end
/-! ### whole numbers -/
section
variable {X : Cx}
/-- // by any divisor but 0 -/
def CDivA (_ j : Int) : Prop := j ≠ 0 ∧ Sz 8900 j
theorem op_fdivA : OpR X (binaryOp .FloorDiv) (rI CDivA fun i j => .int (i.fdiv j)) := opI fun i j _ _ _ _ _ hc q =>
  PyProof.Rows.floordiv_int hc.1 q (.inl (PyProof.noPylong_of_log2 (Nat.lt_of_lt_of_le (PySem.Flt.log2_lt_of (by decide) hc.2) (by decide))))
/-- * of two numbers of some thousand bits -/
def CMulA (i j : Int) : Prop := Sz 100000 i ∧ Sz 100000 j
theorem op_mulA : OpR X (binaryOp .Mult) (rI CMulA fun i j => .int (i * j)) := opI fun i j _ _ _ _ _ hc q =>
  PyProof.Rows.mul_int q (CMulW.ok (wide_mul hc.1 hc.2 (by decide) (by decide) (by decide)))
end
/-! ### a pick out of a written list -/
theorem pick {α : Type} {xs : List α} {z : Int} {P : α → Prop} (h0 : 0 ≤ z) (h1 : z < xs.length) (h : ∀ x ∈ xs, P x) : ∃ v, atI xs z = some v ∧ P v := by
  have hl : z.toNat < xs.length := by omega
  refine ⟨xs[z.toNat], ?_, h _ (List.getElem_mem hl)⟩
  unfold atI ixN
  rw [if_pos h0, if_pos h1]
  exact List.getElem?_eq_getElem hl
end MM
namespace MM
open PySem PySem.Spec PyProof.Rows L2
/-- what binds where some parameters have defaults: n given by place, the defaults from the j-th on fill up -/
def Bd1 (x qual : Str) (st : Stmt) (ps : List Str) (n j m : Nat) : Prop := ∀ (T : Addr) (kV doc pm : Value) (an : Option Addr) (cdv ct : Value) (us its : List Value), us.length = n → its.length = m →
  ∃ k, bindArgs (PySem.W.fnOf x qual (defArgs st) (defBody st) (defScope st) (.ref T) kV doc pm an cdv ct) ⟨us, []⟩ = seqItems? (.ref T) >>= k ∧ k (some its.toArray) = pure (ps.zip (us ++ its.drop j))
/-- the __init__ of a class -/
structure Di (K : PySem.W.Frag) (mg : Str → Option Value) (x : Str) (C : Addr) (qual : Str) (st : Stmt) (dvs : List V) : Prop where
  ex : ∃ (f : Addr) (fd : FuncData), FunD K "__init__" qual (defArgs st) (defBody st) (defScope st) dvs [] f fd ∧ Mk K C f ∧ mg x = some (.ref C)
structure Ci (P : Program) (w : World) (K : PySem.W.Frag) (mg : Str → Option Value) (base : Heap) (CX : CXT) (k : Nat) (x : Str) (C : Addr) (qual : Str) (st : Stmt) (dvs : List V) (ps : List Str) (sp : Sp) : Prop where
  ex : ∃ (f : Addr) (fd : FuncData), FunD K "__init__" qual (defArgs st) (defBody st) (defScope st) dvs [] f fd ∧ Mk K C f ∧ mg x = some (.ref C) ∧ FnOk P w K mg base CX k f fd ps sp
/-- a method of a class -/
structure Dm (K : PySem.W.Frag) (C : Addr) (m qual : Str) (st : Stmt) : Prop where
  ex : ∃ (f : Addr) (fd : FuncData), FunD K m qual (defArgs st) (defBody st) (defScope st) [] [] f fd ∧ Meth K C m f ∧ Cls K C
structure Cm (P : Program) (w : World) (K : PySem.W.Frag) (mg : Str → Option Value) (base : Heap) (CX : CXT) (k : Nat) (C : Addr) (m qual : Str) (st : Stmt) (ps : List Str) (sp : Sp) : Prop where
  ex : ∃ (f : Addr) (fd : FuncData), FunD K m qual (defArgs st) (defBody st) (defScope st) [] [] f fd ∧ Meth K C m f ∧ Cls K C ∧ FnOk P w K mg base CX k f fd ps sp
section
variable {P : Program} {w : World} {K : PySem.W.Frag} {mg : Str → Option Value} {base : Heap} {x m qual : Str} {C : Addr} {st : Stmt} {dvs : List V} {N ps : List Str} {k : Nat} {sp : Sp}
theorem ci0 (D : Di K mg x C qual st dvs) (S : FnScope N ps (defScope st)) (len : ∀ vs H Q E, sp vs H Q E → vs.length = ps.length)
    (body : ∀ (f : Addr) (cdv : Value) (A : Around) (outer : List Env) (s : Shared) (H : Hp) (vs : List V) (Q : VK) (E : XK), Room k (A.deeper (envOfC qual (defScope st) s.heap.objs.size f cdv)) → sp vs H Q E →
      ∃ t, PSs (cxOf CX0 P w K mg base N qual (defScope st) f cdv A outer s H E).nox (defBody st) t ∧ t { nx := fun _ H' => Q .non H', rt := Q } (start N vs) H) : Ci P w K mg base CX0 (k + 1) x C qual st dvs ps sp := by
  obtain ⟨f, fd, F, M, hm⟩ := D.ex
  refine ⟨f, fd, F, M, hm, F.ok S len fun cdv A outer s H vs Q E hr h => ?_⟩
  obtain ⟨t, h1, h2⟩ := body f cdv A outer s H vs Q E hr h
  exact ⟨t, h1.nox, h2⟩
theorem ciX (D : Di K mg x C qual st dvs) (S : FnScope N ps (defScope st)) (len : ∀ vs H Q E, sp vs H Q E → vs.length = ps.length)
    (body : ∀ (f : Addr) (cdv : Value) (A : Around) (outer : List Env) (s : Shared) (H : Hp) (vs : List V) (Q : VK) (E : XK), Room k (A.deeper (envOfC qual (defScope st) s.heap.objs.size f cdv)) → sp vs H Q E →
      ∃ t, PSs (cxOf (L2.CX P w) P w K mg base N qual (defScope st) f cdv A outer s H E) (defBody st) t ∧ t { nx := fun _ H' => Q .non H', rt := Q } (start N vs) H) : Ci P w K mg base (L2.CX P w) (k + 1) x C qual st dvs ps sp := by
  obtain ⟨f, fd, F, M, hm⟩ := D.ex
  exact ⟨f, fd, F, M, hm, F.ok S len fun cdv A outer s H vs Q E hr h => body f cdv A outer s H vs Q E hr h⟩
theorem cm0 (D : Dm K C m qual st) (S : FnScope N ps (defScope st)) (len : ∀ vs H Q E, sp vs H Q E → vs.length = ps.length)
    (body : ∀ (f : Addr) (cdv : Value) (A : Around) (outer : List Env) (s : Shared) (H : Hp) (vs : List V) (Q : VK) (E : XK), Room k (A.deeper (envOfC qual (defScope st) s.heap.objs.size f cdv)) → sp vs H Q E →
      ∃ t, PSs (cxOf CX0 P w K mg base N qual (defScope st) f cdv A outer s H E).nox (defBody st) t ∧ t { nx := fun _ H' => Q .non H', rt := Q } (start N vs) H) : Cm P w K mg base CX0 (k + 1) C m qual st ps sp := by
  obtain ⟨f, fd, F, M, hc⟩ := D.ex
  refine ⟨f, fd, F, M, hc, F.ok S len fun cdv A outer s H vs Q E hr h => ?_⟩
  obtain ⟨t, h1, h2⟩ := body f cdv A outer s H vs Q E hr h
  exact ⟨t, h1.nox, h2⟩
end
section
variable {X : Cx} {CX : CXT} {k j n d : Nat} {C : Addr} {x m qual : Str} {st : Stmt} {sp : Sp} {ps ks : List Str} {dvs : List V} {E : XK} {p pos apos : Pos} {e o : Expr} {es : List Expr} {kws : List Keyword} {ta : TE} {t tk : TA}
/-- C(e, ..): n values, then the defaults from the d-th on; n counts self too -/
theorem pe_ci (c : Ci X.prog X.w X.K X.mg X.base CX k x C qual st dvs ps sp) (b : Bd1 "__init__" qual st ps n d dvs.length) (hd : dvs ≠ []) (hn : n + (dvs.length - d) = ps.length) (hr : Room j X.A) (hk : k + 1 ≤ j) (hx : Passes CX X E) (hg : Gl X x) (ha : PA X (e :: es) t)
    (hdb : (x == ("__debug__" : Str)) = false := by decide) (he : starEach (e :: es) X.env = (false, eval e X.env) :: starEach es X.env := by rfl) (hpl : (backTo pos (starEach es X.env)).any (·.1) = false := by rfl) :
    PE X (.Call (.Name x p) (e :: es) [] pos) (tMake C sp (dvs.drop d) E t) := by
  obtain ⟨f, fd, F, M, hm, G⟩ := c.ex
  obtain ⟨ds, r, bb⟩ := F.binds1 n d hd hn b
  exact pe_make M G (hr.mono hk) hg hm bb r hx ha hdb he hpl
/-- o.m(e, ..) -/
theorem pe_cm {pl : Sem Bool} (c : Cm X.prog X.w X.K X.mg X.base CX k C m qual st ps sp) (b : Bd m qual st ps) (hr : Room j X.A) (hk : k ≤ j) (hx : Passes CX X E) (he : PE X o ta) (ha : PA X (e :: es) t)
    (hst : starEach (e :: es) X.env = (false, eval e X.env) :: starEach es X.env := by rfl) (hpl : (backTo pos (starEach es X.env)).any (·.1) = false := by rfl)
    (ht : eval (.Call (.Attribute o m apos) (e :: es) [] pos) X.env = (eval o X.env >>= fun ov => standAt apos.atName >>= fun _ => holding [ov] (getMethod ov m pl) >>= fun q => callWith pos q.1 q.2 (backTo pos (starEach (e :: es) X.env)) (backToKw pos (keywordEach [] X.env))) := by rfl) :
    PE X (.Call (.Attribute o m apos) (e :: es) [] pos) (tMeth C m sp [] E ta t) := by
  obtain ⟨f, fd, F, M, hc, G⟩ := c.ex
  exact pe_meth (pl := pl) he hc M G (hr.mono hk) (F.bindsN b) .nil hx ha hst hpl ht
/-- how keywords bind in a method, or a def, without defaults -/
structure Kbm (x qual : Str) (st : Stmt) (n : Nat) (ks ps : List Str) (g : {α : Type} → List α → List α → List α) : Prop where
  bind : ∀ (kV doc pm : Value) (an : Option Addr) (cdv ct : Value) (us ws : List Value), us.length = n → ws.length = ks.length →
    bindArgs (PySem.W.fnOf x qual (defArgs st) (defBody st) (defScope st) .none kV doc pm an cdv ct) ⟨us, ks.zip ws⟩ = pure (ps.zip (g us ws))
  rel : ∀ {vs zs : List V} {us ws : List Value}, vs.length = n → zs.length = ks.length → Vals vs us → Vals zs ws → Vals (g vs zs) (g us ws)
/-- o.m(k = v, ..) -/
theorem pe_cmK {pl : Sem Bool} {g : {α : Type} → List α → List α → List α} (c : Cm X.prog X.w X.K X.mg X.base CX k C m qual st ps sp) (b : Kbm m qual st 1 ks ps g) (hr : Room j X.A) (hk : k ≤ j) (hx : Passes CX X E) (he : PE X o ta) (hkw : PK X kws tk)
    (hall : (backToKw pos (keywordEach kws X.env)).all (·.1.isSome) = true := by rfl) (hks : (backToKw pos (keywordEach kws X.env)).filterMap (·.1) = ks := by rfl)
    (hpl : ((backTo pos (starEach [] X.env)).any (·.1) || (backToKw pos (keywordEach kws X.env)).any (·.1.isNone)) = false := by rfl)
    (ht : eval (.Call (.Attribute o m apos) [] kws pos) X.env = (eval o X.env >>= fun ov => standAt apos.atName >>= fun _ => holding [ov] (getMethod ov m pl) >>= fun q => callWith pos q.1 q.2 (backTo pos (starEach [] X.env)) (backToKw pos (keywordEach kws X.env))) := by rfl) :
    PE X (.Call (.Attribute o m apos) [] kws pos) (fun σ H Q => ta σ H fun x H1 => ∃ a dx fs, x = .ref a ∧ H1 a = some (.ins C dx fs) ∧ fs.lookup m = none ∧ tk σ H1 fun zs H2 => zs.length = ks.length ∧ sp (g [.ref a] zs) H2 Q E) := by
  obtain ⟨f, fd, F, M, hc, G⟩ := c.ex
  obtain ⟨kV, doc, pm, an, cdv, ct, rfl⟩ := FunD.none F
  refine ⟨fun pins s σ H Q I h => ?_⟩
  refine PySem.W.methodCall_KW (pl := pl) (thn (he.run pins s σ H _ I h) fun u s1 ⟨y, H1, I1, ry, a, dx, fs, ey, ea, l, q⟩ => ?_) ht
  subst ey
  obtain rfl : u = Value.ref a := ry
  refine getmeth_ok I1 ea hc M l ?_
  refine PySem.W.callWith_KW0 (first := [.ref a]) (h₀ := X.base) I.ok.mod.kin M.kp hall ?_ hpl
  refine thn (hkw.run pos pins s1 σ H1 _ I1 q) fun ws s2 ⟨zs, H2, I2, rz, l2, q2⟩ => ⟨I2.kIn, ?_⟩
  rw [hks]
  have r2 : Vals (g [V.ref a] zs) (g [Value.ref a] ws) := b.rel rfl l2 (.cons rfl .nil) rz
  refine wpAny_call (codeAny_mono (G.run X.A X.stack s2 H2 ⟨[.ref a], ks.zip ws⟩ (g [.ref a] ws) (g [.ref a] zs) Q E (hr.mono hk) I2.env0 (.of_eq (b.bind kV doc pm an cdv ct [.ref a] ws rfl (rz.length.symm.trans l2))) r2 q2) fun r s' hq => ?_)
  match r, hq with
  | .error e, hq => exact hx pins σ H2 s2 e s' I2 hq
  | .ok (.ret u), hq => exact I2.after hq
  | .ok .next, hq => exact False.elim hq
  | .ok .brk, hq => exact False.elim hq
  | .ok .cont, hq => exact False.elim hq
end
/-- the keywords take their places: one self, the keywords in the parameters' order -/
def g1 {α : Type} : List α → List α → List α := fun us ws => us ++ ws
theorem g1_rel {n m : Nat} {vs zs : List V} {us ws : List Value} (_ : vs.length = n) (_ : zs.length = m) (h : Vals vs us) (k : Vals zs ws) : Vals (g1 vs zs) (g1 us ws) := h.append k
/-- how C(.., k = v, ..) binds where __init__ has defaults -/
structure Kd (qual : Str) (st : Stmt) (dn n : Nat) (ks ps : List Str) (g : {α : Type} → List α → List α → List α → List α) : Prop where
  bind : ∀ (T : Addr) (kV doc pm : Value) (an : Option Addr) (cdv ct : Value) (us its ws : List Value), us.length = n → its.length = dn → ws.length = ks.length →
    ∃ k, bindArgs (PySem.W.fnOf "__init__" qual (defArgs st) (defBody st) (defScope st) (.ref T) kV doc pm an cdv ct) ⟨us, ks.zip ws⟩ = seqItems? (.ref T) >>= k ∧ k (some its.toArray) = pure (ps.zip (g us its ws))
  rel : ∀ {vs ds zs : List V} {us its ws : List Value}, Vals vs us → Vals ds its → Vals zs ws → Vals (g vs ds zs) (g us its ws)
section
variable {X : Cx} {CX : CXT} {k j n d : Nat} {C : Addr} {x m qual : Str} {st : Stmt} {sp : Sp} {ps ks : List Str} {dvs : List V} {E : XK} {p pos apos : Pos} {e o : Expr} {es : List Expr} {kws : List Keyword} {ta : TE} {t tk : TA}
theorem pe_ciK0 {g : {α : Type} → List α → List α → List α → List α} (c : Ci X.prog X.w X.K X.mg X.base CX k x C qual st dvs ps sp) (b : Kd qual st dvs.length 1 ks ps g) (hd : dvs ≠ []) (hr : Room j X.A) (hk : k + 1 ≤ j) (hx : Passes CX X E) (hg : Gl X x) (hkw : PK X kws tk)
    (hall : (backToKw pos (keywordEach kws X.env)).all (·.1.isSome) = true := by rfl) (hks : (backToKw pos (keywordEach kws X.env)).filterMap (·.1) = ks := by rfl) (hdb : (x == ("__debug__" : Str)) = false := by decide)
    (hpl : ((backTo pos (starEach [] X.env)).any (·.1) || (backToKw pos (keywordEach kws X.env)).any (·.1.isNone)) = false := by rfl) :
    PE X (.Call (.Name x p) [] kws pos) (tMakeK C 0 ks.length sp (fun vs zs => g vs dvs zs) E tNil tk) := by
  obtain ⟨f, fd, F, M, hm, G⟩ := c.ex
  obtain ⟨its, hb⟩ := F.kbindsD 1 ks g hd b.rel b.bind
  exact pe_makeK0 M G (hr.mono hk) hg hm hb hx hkw hall hks hdb hpl
theorem pe_ciK {g : {α : Type} → List α → List α → List α → List α} (c : Ci X.prog X.w X.K X.mg X.base CX k x C qual st dvs ps sp) (b : Kd qual st dvs.length (n + 1) ks ps g) (hd : dvs ≠ []) (hr : Room j X.A) (hk : k + 1 ≤ j) (hx : Passes CX X E) (hg : Gl X x) (ha : PA X (e :: es) t) (hkw : PK X kws tk)
    (hall : (backToKw pos (keywordEach kws X.env)).all (·.1.isSome) = true := by rfl) (hks : (backToKw pos (keywordEach kws X.env)).filterMap (·.1) = ks := by rfl) (hdb : (x == ("__debug__" : Str)) = false := by decide)
    (he : starEach (e :: es) X.env = (false, eval e X.env) :: starEach es X.env := by rfl) (hpl : ((backTo pos (starEach (e :: es) X.env)).any (·.1) || (backToKw pos (keywordEach kws X.env)).any (·.1.isNone)) = false := by rfl) :
    PE X (.Call (.Name x p) (e :: es) kws pos) (tMakeK C n ks.length sp (fun vs zs => g vs dvs zs) E t tk) := by
  obtain ⟨f, fd, F, M, hm, G⟩ := c.ex
  obtain ⟨its, hb⟩ := F.kbindsD (n + 1) ks g hd b.rel b.bind
  exact pe_makeK M G (hr.mono hk) hg hm hb hx ha hkw hall hks hdb he hpl
end
end MM
namespace MM
open PySem PySem.Spec PyProof.Rows L2
/-! ### range(a, b) of numbers of any size -/
theorem turn_long {P : Program} {w : World} {K : PySem.W.Frag} {tg : Expr} (it : Addr) (lo : Int) (n : Nat) : Turn P w K tg (Itr lo n) [it] it (fun i h => IsLongIter h it (lo + (i : Nat) * 1) ((n : Int) - (i : Nat)) 1) := by
  refine { mem := List.mem_singleton.mpr rfl, obj := fun i h st b hb => ?_, keep := fun i h h' st k => k it (List.mem_singleton.mpr rfl) _ st, item := ?_, done := ?_, self := fun _ _ _ _ _ st h => wpAny_pyIter_longiter st h }
  · cases List.mem_singleton.mp hb
    exact ⟨_, st, fun v z => nomatch (show Data.fields _ = Data.cell v from z)⟩
  · intro X hP hw hK hc i pins s σ H E I hf st hg
    subst hP; subst hw; subst hK
    obtain ⟨f0, f1, f2, f3, f4, f5⟩ := hf it (List.mem_singleton.mpr rfl)
    refine (Walks.longrange (prog := X.prog) (w := X.w) (I.ok.hd hc) it lo 1 n).item i s _ _ hg st fun v h' tk hv st' kk => ?_
    obtain ⟨t, rfl⟩ := hv
    have J : Inv X pins σ H { s with heap := h', toks := tk } := I.turned (fun b o hb e => kk b o (fun z => hb (List.mem_singleton.mp z)) e) f0 f1 f3 f4 f5
    refine ⟨_, rfl, go_of (s := { s with heap := h', toks := tk }) (n := "longrange_iterator") st' rfl rfl (by decide) ⟨.int (lo + i), H, J, ⟨t, ?_⟩, ⟨rfl, rfl⟩, st', fun b hb => (hf b hb).1⟩⟩
    rw [Int.mul_one]
  · intro X hP hw hK hc i pins s σ H E I hf st hg
    subst hP; subst hw; subst hK
    obtain ⟨f0, f1, f2, f3, f4, f5⟩ := hf it (List.mem_singleton.mpr rfl)
    have hl : n ≤ i := hg
    exact wpAny_pyNext_long_end (I.ok.hd hc) st (by omega) fun h' eb => ⟨rfl, I.turned (t' := s.toks) (fun b o hb e => eb b o hb e) f0 f1 f3 f4 f5⟩
section
variable {X : Cx} {tg : Expr}
theorem long_it {pins : List (Addr × Obj)} {σ : L2.St} {H : Hp} {s : Shared} {R : It → Hp → Prop} {E : Value → Shared → Prop} {lo hi : Int} {t u v : Tok} {tk : Nat} (I : Inv X pins σ H s) (q : R (Itr lo (hi - lo).toNat) H) :
    wpAny (model X.prog X.w) X.A (pyIter (.ref s.heap.objs.size)) (PIE X pins σ tg R) E { s with heap := s.heap.push { cls := .type "range", data := .fields #[.int lo t, .int hi u, .int 1 v] }, toks := tk } := by
  have J : Inv X pins σ H { s with heap := s.heap.push { cls := .type "range", data := .fields #[.int lo t, .int hi u, .int 1 v] }, toks := tk } := I.kept fun b o e => Heap.get?_push_of_some _ e
  have e0 : lo + ((0 : Nat) : Int) * 1 = lo := by simp
  have e1 : (((hi - lo).toNat : Nat) : Int) - ((0 : Nat) : Int) = Builtin.Range.rangeSize lo hi 1 := by
    rw [rangeSize_one]
    split <;> omega
  cases hsm : Builtin.Range.small lo hi 1 with
  | true =>
    refine wpAny_pyIter_range (IsRange.new ..) hsm ⟨_, [_], _, _, H, rfl, J.kept (t' := tk) fun b o e => Heap.get?_push_of_some _ e, turn_range _ lo (hi - lo).toNat, ?_, fun b hb => ?_, q⟩
    · show IsRangeIter _ _ (lo + ((0 : Nat) : Int) * 1) ((((hi - lo).toNat : Nat) : Int) - ((0 : Nat) : Int)) 1
      rw [e0, e1]
      exact Heap.get?_push_size _ rfl
    · cases List.mem_singleton.mp hb
      exact J.fpOk (Nat.le_refl _) (J.hok.fresh (Nat.le_refl _))
  | false =>
    refine wpAny_pyIter_longrange (IsRange.new ..) hsm ⟨_, [_], _, _, H, rfl, J.kept (t' := tk) fun b o e => Heap.get?_push_of_some _ e, turn_long _ lo (hi - lo).toNat, ?_, fun b hb => ?_, q⟩
    · show IsLongIter _ _ (lo + ((0 : Nat) : Int) * 1) ((((hi - lo).toNat : Nat) : Int) - ((0 : Nat) : Int)) 1
      rw [e0, e1]
      exact Heap.get?_push_size _ rfl
    · cases List.mem_singleton.mp hb
      exact J.fpOk (Nat.le_refl _) (J.hok.fresh (Nat.le_refl _))
def iRngA (ta : TA) : TI := fun σ H R => ta σ H fun vs H1 => ∃ i j : Int, vs = [.int i, .int j] ∧ R (Itr i (j - i).toNat) H1
theorem pi_rangeA {a b : Expr} {ta : TA} {p pos : Pos} (hg : Gl X "range") (hm : X.mg "range" = none) (ha : PA X [a, b] ta) (hs : starEach [a, b] X.env = [(false, eval a X.env), (false, eval b X.env)] := by rfl) (hs2 : starEach [b] X.env = [(false, eval b X.env)] := by rfl) :
    PI X tg (.Call (.Name "range" p) [a, b] [] pos) (iRngA ta) := by
  refine ⟨fun pins s σ H R I h => Call_ (ld_blt I hg hm boot_range (PyProof.Rows.callWith_type1 (thn (ha.run pos pins s σ H _ I h) fun us s1 ⟨vs, H1, I1, r1, q1⟩ => ?_) (by rw [hs, hs2]) (by rw [hs2]; rfl)))⟩
  obtain ⟨i, j, e, q⟩ := q1
  subst e
  obtain ⟨u1, u2, rfl, ⟨t, rfl⟩, ⟨t', rfl⟩⟩ := vals2 r1
  exact call_range_2 (long_it I1 q)
end
end MM
namespace MM
open PySem PySem.Spec PyProof.Rows L2
section
variable {K : PySem.W.Frag} {h : Heap} {mg : Str → Option Value} {x m qual : Str} {st : Stmt} {f C T : Addr} {oc kV doc pm cdv ct cT : Value} {od an dT : Option Addr} {osl sT : Array (Option Value)} {nT : Nat}
theorem df_mk (X : K.In h) (G : h.Ns mainGlobals mg) (a : PySem.W.nsIn K mainGlobals x = some (some (.ref f))) (l : K.lookup f = some ⟨oc, od, .func (PySem.W.fnOf x x (defArgs st) (defBody st) (defScope st) .none kV doc pm an cdv ct), osl⟩)
    (c : PySem.W.codeIn K cdv x = true) (k : PySem.W.keepIn K (.ref f) = true) : Df K mg x st [] :=
  ⟨f, _, ⟨⟨oc, od, .none, kV, doc, pm, an, cdv, ct, osl, rfl, l, c, .inl ⟨rfl, rfl⟩, .inl rfl⟩, k⟩, PySem.W.mg_of X G a⟩
theorem dm_mk (cl : Cls K C) (a : PySem.W.findIn K (.ref C) m = some (some (.ref f))) (i : PySem.W.isFn K (.ref f) = true) (l : K.lookup f = some ⟨oc, od, .func (PySem.W.fnOf m qual (defArgs st) (defBody st) (defScope st) .none kV doc pm an cdv ct), osl⟩)
    (c : PySem.W.codeIn K cdv qual = true) (k : PySem.W.keepIn K (.ref f) = true) : Dm K C m qual st :=
  ⟨f, _, ⟨⟨oc, od, .none, kV, doc, pm, an, cdv, ct, osl, rfl, l, c, .inl ⟨rfl, rfl⟩, .inl rfl⟩, k⟩, ⟨a, i, k⟩, cl⟩
theorem di_mk {its : List Value} {dvs : List V} (hC : mg x = some (.ref C)) (a : PySem.W.findIn K (.ref C) "__init__" = some (some (.ref f))) (i : PySem.W.isFn K (.ref f) = true)
    (l : K.lookup f = some ⟨oc, od, .func (PySem.W.fnOf "__init__" qual (defArgs st) (defBody st) (defScope st) (.ref T) kV doc pm an cdv ct), osl⟩) (c : PySem.W.codeIn K cdv qual = true) (k : PySem.W.keepIn K (.ref f) = true)
    (mk : PySem.W.makesIn K C = true) (kc : PySem.W.keepIn K (.ref C) = true) {oT : Obj} (lT : K.lookup T = some oT) (eT : oT.data = .seq its.toArray nT) (r : Vals dvs its) (ne : dvs ≠ []) : Di K mg x C qual st dvs :=
  ⟨f, _, ⟨⟨oc, od, .ref T, kV, doc, pm, an, cdv, ct, osl, rfl, l, c, .inr ⟨ne, T, _, its, nT, rfl, lT, eT, r⟩, .inl rfl⟩, k⟩, ⟨mk, a, i, kc⟩, hC⟩
theorem kit_no {t : Value} (iC : PySem.W.isClsIn K C = true) (tC : PySem.W.typeIn K (.ref C) = some (.type "type")) (ht : (t == Value.ref C) = false) (sI : PySem.W.subIn K t (.ref C) = some false) : PySem.W.kitOne K t (.ref C) = some false := by
  unfold PySem.W.kitOne PySem.W.kitCls
  have iC' : (PySem.W.clsIn K C).isSome = true := iC
  rw [ht, if_neg Bool.false_ne_true]
  show (if ((PySem.W.clsIn K C).isSome && PySem.W.typeIn K (.ref C) == some (.type "type")) = true then PySem.W.subIn K t (.ref C) else none) = some false
  rw [iC', tC, if_pos (by simp)]
  exact sI
theorem fund_inj {params : Arguments} {body : List Stmt} {scope : Scope} {dvs : List V} {kws : List (Str × V)} {fd fd' : FuncData} (F : FunD K x qual params body scope dvs kws f fd) (F' : FunD K x qual params body scope dvs kws f fd') : fd = fd' := by
  obtain ⟨oc, od, dV, kV, doc, pm, an, cdv, ct, osl, e, lk, _⟩ := F.ex
  obtain ⟨oc', od', dV', kV', doc', pm', an', cdv', ct', osl', e', lk', _⟩ := F'.ex
  rw [lk] at lk'
  injection lk' with z
  injection z with z1 z2 z3 z4
  injection z3
end
/-- from the law's promise to what the end of the walk asks -/
theorem fin_of {P : Program} {w : World} {K : PySem.W.Frag} {mg : Str → Option Value} {st : Stmt} {k : Nat} {x : Str} {sp : Sp} {fa : Addr} (hfa : mg "law" = some (.ref fa)) (D : Df K mg "law" st []) (b : Bd "law" "law" st [x])
    (h : ∀ base : Heap, Ca P w K mg base CX0 k "law" st [] [x] sp) :
    ∃ fd : FuncData, (∀ (s : Shared) (u : Value), BindsTo s fd ⟨[u], []⟩ [(x, u)]) ∧ ∀ base : Heap, K.In base → base.Ns mainGlobals mg → FnOk P w K mg base CX0 k fa fd [x] sp := by
  obtain ⟨f, fd, F, hm⟩ := D.ex
  have e := hfa.symm.trans hm
  cases e
  refine ⟨fd, fun s u => ?_, fun base _ _ => ?_⟩
  · obtain ⟨kV, doc, pm, an, cdv, ct, rfl⟩ := FunD.none F
    exact .of_eq (b kV doc pm an cdv ct [u] rfl)
  · obtain ⟨f', fd', F', hm', G⟩ := (h base).ex
    have e' := hm.symm.trans hm'
    cases e'
    have e2 := fund_inj F F'
    subst e2
    exact G
end MM
namespace MM
open PySem PySem.Spec PyProof.Rows L2
theorem no' {A B : Prop} {b : Bool} (hb : b = false) (h : B) : if b = true then A else B := by
  subst hb
  exact iteF h
theorem upd_keep {H H1 : Hp} {D : Addr} {o : HO} (nD : H D = none) (s : Same H H1) : Same H (L2.upd H1 D o) := fun b u e => by
  rw [upd_ne (ne_of_none e nD)]
  exact s b u e
section
variable {J : It} {n : Nat} {G : Hp → Prop} {Y : Nat → Hp → V → Hp → Prop}
/-- a comprehension without a test whose i-th thing has Ps i -/
theorem lc_all (w : Walk J n G Y) (hY : ∀ i H x H', Y i H x H' → Same H H') {g : TG} {te : TE} {vs : List Nat} {σ : L2.St} {H : Hp} {D : Addr} {Qd : Hp → Prop} (nD : H D = none) (hn : n < sizeLine) (Ps : Nat → V → Hp → Prop)
    (hm : ∀ j v H1 H2, Same H1 H2 → Ps j v H1 → Ps j v H2) (hp : ∀ j v H1 acc acc', H1 D = some (.lst acc) → Ps j v H1 → Ps j v (L2.upd H1 D (.lst acc'))) (hG : ∀ H', Same H H' → G H')
    (hs : ∀ i x H1 H2 (R : V → Hp → Prop), i < n → Same H H1 → Y i H1 x H2 → (∀ v H3, Same H2 H3 → Ps i v H3 → R v H3) → g x (wipe σ vs) H2 fun σ2 H3 => wipe σ2 vs = wipe σ vs ∧ te σ2 H3 R)
    (hd : ∀ (us : List V) H', us.length = n → H' D = some (.lst us) → Same H H' → (∀ j v, us[j]? = some v → Ps j v H') → Qd H') :
    ∃ W : Nat → Nat → Hp → Prop, (∃ m, W 0 m (L2.upd H D (.lst []))) ∧ ∀ i m H, W i m H →
      (J.stop i H ∧ Qd H) ∨ (J.go i H ∧ ∃ Nx : Hp → Prop, (∀ H', Nx H' → ∃ m', m' < m ∧ W (i + 1) m' H') ∧ ∀ x H', J.yld i H x H' → g x (wipe σ vs) H' fun σ2 H2 => wipe σ2 vs = wipe σ vs ∧ tYes σ2 H2 fun b H3 =>
        if b = true then te σ2 H3 fun y H4 => ∃ acc, H4 D = some (.lst acc) ∧ acc.length < sizeLine ∧ Nx (L2.upd H4 D (.lst (acc ++ [y]))) else Nx H3) := by
  refine lc_it w (fun i H' => ∃ us : List V, us.length = i ∧ H' D = some (.lst us) ∧ Same H H' ∧ ∀ j v, us[j]? = some v → Ps j v H') ⟨[], rfl, upd_same, upd_keep nD (Same.refl H), fun j v h => by simp at h⟩ (fun i H' _ ⟨_, _, _, s, _⟩ => hG H' s) ?_ (fun H' ⟨us, l, e, s, p⟩ => hd us H' l e s p)
  rintro i x H1 H2 hi ⟨us, hl, e, s, p⟩ y
  refine hs i x H1 H2 _ hi s y fun v H3 s3 pv => ?_
  have s2 := hY _ _ _ _ y
  have e3 := s3 _ _ (s2 _ _ e)
  refine ⟨us, e3, by omega, us ++ [v], by rw [List.length_append, hl]; rfl, upd_same, upd_keep nD (s.trans (s2.trans s3)), fun j u hj => ?_⟩
  by_cases hjl : j < us.length
  · rw [List.getElem?_append_left hjl] at hj
    exact hp _ _ _ _ _ e3 (hm _ _ _ _ (s2.trans s3) (p j u hj))
  · rw [List.getElem?_append_right (by omega)] at hj
    have ej : j = us.length := by
      by_cases hz : j - us.length = 0
      · omega
      · have : ([v] : List V)[j - us.length]? = none := List.getElem?_eq_none_iff.mpr (by simp; omega)
        rw [this] at hj
        cases hj
    subst ej
    rw [Nat.sub_self] at hj
    cases hj
    rw [hl]
    exact hp _ _ _ _ _ e3 pv
/-- a comprehension whose i-th thing is the whole number f i -/
theorem lc_ints (w : Walk J n G Y) (hY : ∀ i H x H', Y i H x H' → Same H H') {g : TG} {te : TE} {vs : List Nat} {σ : L2.St} {H : Hp} {D : Addr} {Qd : Hp → Prop} (nD : H D = none) (hn : n < sizeLine) (f : Nat → Int) (hG : ∀ H', Same H H' → G H')
    (hs : ∀ i x H1 H2 (R : V → Hp → Prop), i < n → Same H H1 → Y i H1 x H2 → (∀ H3, Same H2 H3 → R (.int (f i)) H3) → g x (wipe σ vs) H2 fun σ2 H3 => wipe σ2 vs = wipe σ vs ∧ te σ2 H3 R)
    (hd : ∀ H', H' D = some (.lst (((List.range n).map f).map V.int)) → Same H H' → Qd H') :
    ∃ W : Nat → Nat → Hp → Prop, (∃ m, W 0 m (L2.upd H D (.lst []))) ∧ ∀ i m H, W i m H →
      (J.stop i H ∧ Qd H) ∨ (J.go i H ∧ ∃ Nx : Hp → Prop, (∀ H', Nx H' → ∃ m', m' < m ∧ W (i + 1) m' H') ∧ ∀ x H', J.yld i H x H' → g x (wipe σ vs) H' fun σ2 H2 => wipe σ2 vs = wipe σ vs ∧ tYes σ2 H2 fun b H3 =>
        if b = true then te σ2 H3 fun y H4 => ∃ acc, H4 D = some (.lst acc) ∧ acc.length < sizeLine ∧ Nx (L2.upd H4 D (.lst (acc ++ [y]))) else Nx H3) := by
  refine lc_all w hY nD hn (fun i v _ => v = .int (f i)) (fun _ _ _ _ _ h => h) (fun _ _ _ _ _ _ h => h) hG (fun i x H1 H2 R hi s y k => hs i x H1 H2 R hi s y fun H3 s3 => k _ H3 s3 rfl) fun us H' l e s p => ?_
  have eu : us = ((List.range n).map f).map V.int := by
    refine List.ext_getElem? fun j => ?_
    by_cases hj : j < us.length
    · have h1 := List.getElem?_eq_getElem hj
      rw [h1, p j _ h1]
      rw [List.getElem?_map, List.getElem?_map, List.getElem?_range (by omega)]
      rfl
    · rw [List.getElem?_eq_none_iff.mpr (by omega), List.getElem?_eq_none_iff.mpr (by simp; omega)]
  subst eu
  exact hd H' e s
end
theorem yFn_same {f : Nat → V} : ∀ i H x H', YFn f i H x H' → Same H H' := fun _ _ _ _ h => by rw [h.1]; exact Same.refl _
theorem yAt_same {xs : List V} : ∀ i H x H', YAt xs i H x H' → Same H H' := fun _ _ _ _ h => by rw [h.1]; exact Same.refl _
theorem yPair_same {xs ys : Nat → Option V} : ∀ i H x H', YPair xs ys i H x H' → Same H H' := by
  rintro i H x H' ⟨T, a, b, rfl, nT, rfl, _⟩
  exact upd_keep nT (Same.refl H)
/-! ### lists of whole numbers, compared -/
theorem dps_ints {K : PySem.W.Frag} {H : Hp} : ∀ ns : List Int, DpAll K H (ns.map V.int) (ns.map PyData.int)
  | [] => .nil
  | n :: ns => .cons (.int n) (dps_ints ns)
theorem dp_ints {K : PySem.W.Frag} {H : Hp} {a : Addr} {ns : List Int} (h : H a = some (.lst (ns.map V.int))) : Dp K H (.ref a) (.list (ns.map PyData.int)) := .lst (SqL.of h) (dps_ints ns)
theorem lay_ints : ∀ ns : List Int, PyData.canLayAll0 (ns.map PyData.int) = true
  | [] => rfl
  | n :: ns => by
    rw [List.map_cons, PyData.canLayAll0, lay_ints ns]
    rfl
theorem dep_ints : ∀ ns : List Int, PyData.depthAll (ns.map PyData.int) ≤ 1
  | [] => by simp [PyData.depthAll]
  | n :: ns => by
    have h := dep_ints ns
    simp only [List.map_cons, PyData.depthAll, PyData.depth]
    omega
theorem sh_ints (ns : List Int) : SeqAt.shaped (.list (ns.map PyData.int)) = true := by
  have h := dep_ints ns
  show (PyData.canLay0 (.list (ns.map PyData.int)) && decide (PyData.depth (.list (ns.map PyData.int)) ≤ 64)) = true
  rw [Bool.and_eq_true]
  refine ⟨by simp only [PyData.canLay0]; exact lay_ints ns, decide_eq_true ?_⟩
  simp only [PyData.depth]
  omega
theorem eqv_intL (ns : List Int) : PyData.eqv (.list (ns.map PyData.int)) (.list (ns.map PyData.int)) = true := SeqAt.eqv_refl _ (by simp only [PyData.canLay0]; exact lay_ints ns)
/-! ### steps from each to the next -/
def stp (f : Nat → Int) (n : Nat) : List Int := (List.range n).map fun i => f (i + 1) - f i
theorem stp_sum (f : Nat → Int) : ∀ n, (stp f n).sum = f n - f 0
  | 0 => by simp [stp]
  | n + 1 => by
    have h := stp_sum f n
    unfold stp at *
    rw [List.range_succ, List.map_append, List.sum_append, h]
    simp
    omega
end MM
namespace MM
open PySem PySem.Spec PyProof.Rows L2
theorem hu65 {k : Nat} {A : Around} (r : Room k A) : A.units + 65 < cLine := by
  have := r.un
  omega
section
variable {X : Cx}
/-- sum(t) of a tuple of whole numbers -/
def rSumT (K : PySem.W.Frag) : List V → Hp → VK → Prop := fun vs H Q => ∃ (a : Addr) (ns : List Int), vs = [V.ref a] ∧ SqT K H a (ns.map V.int) ∧ Q (.int ns.sum) H
theorem cr_sumT (hc : X.calm = true) : CallR X (.builtin "sum") (rSumT X.K) := by
  intro pins s σ H vs us Q I r h
  obtain ⟨a, ns, rfl, hs, q⟩ := h
  obtain ⟨its, rv, hl, _⟩ := I.tuple hs
  rw [Vals.ref1 r]
  have hi := rv.ints
  obtain ⟨xs, hx⟩ := hi.allInts.items
  have hn : numsOf its.toArray.toList = ns := by rw [show its.toArray.toList = its from rfl, hi.numsOf]
  have hl : s.heap.IsTuple a its.toArray := hl
  rw [hx] at hl hn
  rw [nums_intItems] at hn
  refine PySem.W.ktm_sumG (I.ok.hd hc) hl fun h' tk t' hk => ⟨.int _, H, I.kept hk, ⟨_, rfl⟩, ?_⟩
  rw [preSum_eq, List.take_of_length_le (by simp), hn]
  exact q
end
/-! ### data of rows of whole numbers -/
def tupD (ns : List Int) : PyData := .tuple (ns.map PyData.int)
theorem dp_tup {K : PySem.W.Frag} {H : Hp} {a : Addr} {ns : List Int} (h : H a = some (.tup (ns.map V.int))) : Dp K H (.ref a) (tupD ns) := .tup (SqT.of h) (dps_ints ns)
theorem lay_tups : ∀ zs : List (List Int), PyData.canLayAll0 (zs.map tupD) = true
  | [] => rfl
  | z :: zs => by
    rw [List.map_cons, PyData.canLayAll0, lay_tups zs, tupD, PyData.canLay0, lay_ints]
    rfl
theorem dep_tups : ∀ zs : List (List Int), PyData.depthAll (zs.map tupD) ≤ 3
  | [] => by simp [PyData.depthAll]
  | z :: zs => by
    have h := dep_tups zs
    have h2 := dep_ints z
    simp only [List.map_cons, PyData.depthAll, tupD, PyData.depth]

    omega
theorem sh_tups (zs : List (List Int)) : SeqAt.shaped (.list (zs.map tupD)) = true := by
  have h := dep_tups zs
  show (PyData.canLay0 (.list (zs.map tupD)) && decide (PyData.depth (.list (zs.map tupD)) ≤ 64)) = true
  rw [Bool.and_eq_true]
  refine ⟨by simp only [PyData.canLay0]; exact lay_tups zs, decide_eq_true ?_⟩
  simp only [PyData.depth]
  omega
theorem sh_tup (ns : List Int) : SeqAt.shaped (tupD ns) = true := by
  have h := dep_ints ns
  show (PyData.canLay0 (tupD ns) && decide (PyData.depth (tupD ns) ≤ 64)) = true
  rw [Bool.and_eq_true]
  refine ⟨by simp only [tupD, PyData.canLay0]; exact lay_ints ns, decide_eq_true ?_⟩
  simp only [tupD, PyData.depth]
  omega
theorem eqv_tup (ns : List Int) : PyData.eqv (tupD ns) (tupD ns) = true := SeqAt.eqv_refl _ (by simp only [tupD, PyData.canLay0]; exact lay_ints ns)
/-- a list whose things are the rows zs -/
def Rows (H : Hp) (us : List V) (zs : List (List Int)) : Prop := us.length = zs.length ∧ ∀ (j : Nat) (u : V), us[j]? = some u → ∃ (q : Addr) (z : List Int), u = .ref q ∧ zs[j]? = some z ∧ H q = some (.tup (z.map V.int))
theorem Rows.same {H H1 : Hp} {us : List V} {zs : List (List Int)} (h : Rows H us zs) (s : Same H H1) : Rows H1 us zs := ⟨h.1, fun j u hu => by
  obtain ⟨q, z, e1, e2, e3⟩ := h.2 j u hu
  exact ⟨q, z, e1, e2, s _ _ e3⟩⟩
theorem Rows.dps {K : PySem.W.Frag} {H : Hp} : ∀ {us : List V} {zs : List (List Int)}, Rows H us zs → DpAll K H us (zs.map tupD)
  | [], [], _ => .nil
  | [], _ :: _, h => by have := h.1; simp at this
  | _ :: _, [], h => by have := h.1; simp at this
  | u :: us, z :: zs, h => by
    obtain ⟨q, z', rfl, e2, e3⟩ := h.2 0 u rfl
    cases e2
    refine .cons (dp_tup e3) (Rows.dps ⟨by have := h.1; simpa using this, fun j v hv => h.2 (j + 1) v (by simpa using hv)⟩)
theorem Rows.dp {K : PySem.W.Frag} {H : Hp} {a : Addr} {us : List V} {zs : List (List Int)} (h : Rows H us zs) (e : H a = some (.lst us)) : Dp K H (.ref a) (.list (zs.map tupD)) := .lst (SqL.of e) h.dps
theorem any_row {zs : List (List Int)} {z : List Int} (h : z ∈ zs) : ((zs.map tupD).any fun d => PyData.eqv d (tupD z)) = true := List.any_eq_true.mpr ⟨tupD z, List.mem_map.mpr ⟨z, h, rfl⟩, eqv_tup z⟩
end MM
namespace MM
/-! ### stretches of months, as whole numbers -/
/-- so many whole months lie, from a part of a day on -/
def rowF (a b p : Int) (n : Nat) : Int := (p + n * a) / b
theorem same_div {a b p q : Int} (hb : 0 < b) (n : Nat) (h0 : 0 ≤ q) (h1 : q ≤ p) (h2 : p < b) (hno : ¬ (q < (-(n : Int) * a) % b ∧ (-(n : Int) * a) % b ≤ p)) : rowF a b q n = rowF a b p n := by
  unfold rowF
  have e1 := Int.mul_ediv_add_emod (p + n * a) b
  have e2 := Int.emod_nonneg (p + n * a) (Int.ne_of_gt hb)
  have e3 := Int.emod_lt_of_pos (p + n * a) hb
  have en : -(n : Int) * a = -((n : Int) * a) := Int.neg_mul _ _
  rw [en] at hno
  generalize (n : Int) * a = z at *
  generalize hc : (p + z) / b = c at *
  refine Int.le_antisymm (by rw [← hc]; exact Int.ediv_le_ediv hb (by omega)) ?_
  refine Int.le_ediv_of_mul_le hb ?_
  rw [Int.mul_comm]
  apply Int.not_lt.mp
  intro hlt
  apply hno
  have et : (-z) % b = b * c - z := by
    have : -z = (b * c - z) + b * (-c) := by rw [Int.mul_neg]; omega
    rw [this, Int.add_mul_emod_self_left]
    exact Int.emod_eq_of_lt (by omega) (by omega)
  rw [et]
  omega
theorem max_le {p : Int} : ∀ L : List Int, (∃ t ∈ L, t ≤ p) → ∃ t ∈ L, t ≤ p ∧ ∀ u ∈ L, u ≤ p → u ≤ t
  | [], h => by
    obtain ⟨t, ht, _⟩ := h
    cases ht
  | x :: L, h => by
    by_cases hL : ∃ t ∈ L, t ≤ p
    · obtain ⟨t, ht, htp, hm⟩ := max_le L hL
      by_cases hx : x ≤ p ∧ t < x
      · refine ⟨x, List.mem_cons_self, hx.1, fun u hu hup => ?_⟩
        rcases List.mem_cons.mp hu with rfl | hu
        · exact Int.le_refl _
        · have := hm u hu hup
          omega
      · refine ⟨t, List.mem_cons_of_mem _ ht, htp, fun u hu hup => ?_⟩
        rcases List.mem_cons.mp hu with rfl | hu
        · omega
        · exact hm u hu hup
    · obtain ⟨t, ht, htp⟩ := h
      rcases List.mem_cons.mp ht with rfl | ht
      · refine ⟨t, List.mem_cons_self, htp, fun u hu hup => ?_⟩
        rcases List.mem_cons.mp hu with rfl | hu
        · exact Int.le_refl _
        · exact absurd ⟨u, hu, hup⟩ hL
      · exact absurd ⟨t, ht, htp⟩ hL
/-- the parts at which stretches of n months begin to be other ones -/
def parts (a b : Int) (n : Nat) : List Int := (List.range (min (n + 1) b.toNat)).map fun (i : Nat) => (-(i : Int) * a) % b
theorem parts_mem {a b : Int} (hb : 0 < b) {n i : Nat} (hi : i ≤ n) : (-(i : Int) * a) % b ∈ parts a b n := by
  refine List.mem_map.mpr ⟨i % b.toNat, List.mem_range.mpr ?_, ?_⟩
  · have h1 : i % b.toNat < b.toNat := Nat.mod_lt _ (by omega)
    have h2 : i % b.toNat ≤ i := Nat.mod_le _ _
    omega
  · have e : (i : Int) = ((i % b.toNat : Nat) : Int) + b * ((i / b.toNat : Nat) : Int) := by
      have h := Nat.mod_add_div i b.toNat
      have hbt : ((b.toNat : Nat) : Int) = b := by omega
      have h' : ((i % b.toNat + b.toNat * (i / b.toNat) : Nat) : Int) = (i : Int) := by rw [h]
      rw [← h', Int.natCast_add, Int.natCast_mul, hbt]
    have e2 : -(i : Int) * a = -((i % b.toNat : Nat) : Int) * a + b * (-((i / b.toNat : Nat) : Int) * a) := by
      rw [e]
      generalize ((i % b.toNat : Nat) : Int) = u
      generalize ((i / b.toNat : Nat) : Int) = v
      grind
    rw [e2, Int.add_mul_emod_self_left]
theorem parts_bd {a b : Int} (hb : 0 < b) {n : Nat} {t : Int} (ht : t ∈ parts a b n) : 0 ≤ t ∧ t < b := by
  obtain ⟨i, _, rfl⟩ := List.mem_map.mp ht
  exact ⟨Int.emod_nonneg _ (Int.ne_of_gt hb), Int.emod_lt_of_pos _ hb⟩
/-- each stretch is one that begins at one of the parts -/
theorem part_of {a b : Int} (hb : 0 < b) (n : Nat) {p : Int} (h0 : 0 ≤ p) (h1 : p < b) : ∃ t ∈ parts a b n, ∀ i : Nat, i ≤ n → rowF a b t i = rowF a b p i := by
  have z0 : (0 : Int) ∈ parts a b n := by
    have h := parts_mem (a := a) hb (n := n) (Nat.zero_le n)
    simpa using h
  obtain ⟨t, ht, htp, hm⟩ := max_le (p := p) (parts a b n) ⟨0, z0, h0⟩
  refine ⟨t, ht, fun i hi => same_div hb i (parts_bd hb ht).1 htp h1 fun ⟨k1, k2⟩ => ?_⟩
  have := hm _ (parts_mem hb hi) k2
  omega
theorem row_zero {a b p : Int} (h0 : 0 ≤ p) (h1 : p < b) : rowF a b p 0 = 0 := by
  unfold rowF
  rw [show p + ((0 : Nat) : Int) * a = p by simp]
  exact Int.ediv_eq_zero_of_lt h0 h1
theorem row_two {a b p : Int} (hb : 0 < b) (h0 : 0 ≤ p) (h1 : p < b) (n : Nat) : (n * a) / b ≤ rowF a b p n ∧ rowF a b p n ≤ (n * a) / b + 1 := by
  unfold rowF
  refine ⟨Int.ediv_le_ediv hb (by omega), ?_⟩
  have e1 := Int.mul_ediv_add_emod ((n : Int) * a) b
  have e3 := Int.emod_lt_of_pos ((n : Int) * a) hb
  refine Int.le_of_lt_add_one (Int.ediv_lt_of_lt_mul hb ?_)
  generalize (n : Int) * a / b = c at *
  have : (c + 1 + 1) * b = b * c + b + b := by grind
  rw [this]
  omega
/-- the part of a day at which moon k comes, in parts by the month's bottom -/
def prt (m o : Rat) (k : Int) : Int := ((o + k * m - ((stF m o k : Int) : Rat)) * (m.den : Rat)).floor
theorem den_posR (m : Rat) : (0 : Rat) < (m.den : Rat) := by
  have := m.den_pos
  exact_mod_cast this
theorem frac_bd (x : Rat) : 0 ≤ x - (x.floor : Rat) ∧ x - (x.floor : Rat) < 1 := by
  have h1 : (x.floor : Rat) ≤ x := Rat.floor_le x
  have h2 : x < (x.floor : Rat) + 1 := by rw [← cast_add1]; exact Rat.lt_floor_add_one x
  constructor <;> grind
theorem prt_bd (m o : Rat) (k : Int) : 0 ≤ prt m o k ∧ prt m o k < (m.den : Int) := by
  unfold prt stF
  obtain ⟨h1, h2⟩ := frac_bd (o + k * m)
  have hd := den_posR m
  generalize o + k * m - ((o + k * m).floor : Rat) = f at *
  constructor
  · refine Rat.le_floor_iff.mpr ?_
    show ((0 : Int) : Rat) ≤ f * (m.den : Rat)
    have := Rat.mul_nonneg h1 (Rat.le_of_lt hd)
    simpa using this
  · refine Rat.floor_lt_iff.mpr ?_
    show f * (m.den : Rat) < (((m.den : Nat) : Int) : Rat)
    have : f * (m.den : Rat) < 1 * (m.den : Rat) := Rat.mul_lt_mul_of_pos_right h2 hd
    rw [Rat.one_mul] at this
    exact this
theorem mul_den (m : Rat) : m * (m.den : Rat) = (m.num : Rat) := by
  have hd := den_posR m
  have h : (m.num : Rat) / (m.den : Rat) = m := by
    have e := Rat.num_divInt_den m
    rw [Rat.divInt_eq_div] at e
    exact e
  generalize (m.num : Rat) = a at *
  generalize (m.den : Rat) = b at *
  grind
theorem rr1 (o k n m b S c p : Rat) (h1 : (o + k * m - S) * b < p + 1) (h2 : p + n * (m * b) + 1 ≤ b * c + b) : (o + (k + n) * m) * b < (S + c + 1) * b := by
  have e1 : (o + (k + n) * m) * b = (o + k * m - S) * b + S * b + n * (m * b) := by grind
  have e2 : (S + c + 1) * b = S * b + b * c + b := by grind
  rw [e1, e2]
  generalize (o + k * m - S) * b = u at *
  generalize n * (m * b) = v at *
  generalize S * b = x at *
  generalize b * c = y at *
  grind
theorem rr2 (o k n m b S c p : Rat) (h1 : p ≤ (o + k * m - S) * b) (h2 : b * c ≤ p + n * (m * b)) : (S + c) * b ≤ (o + (k + n) * m) * b := by
  have e1 : (o + (k + n) * m) * b = (o + k * m - S) * b + S * b + n * (m * b) := by grind
  have e2 : (S + c) * b = S * b + b * c := by grind
  rw [e1, e2]
  generalize (o + k * m - S) * b = u at *
  generalize n * (m * b) = v at *
  generalize S * b = x at *
  generalize b * c = y at *
  grind
/-- the days of n months from month k on, by the part at which they begin -/
theorem st_row (m o : Rat) (k : Int) (n : Nat) : stF m o (k + n) - stF m o k = rowF m.num m.den (prt m o k) n := by
  have hd := den_posR m
  have hdI := den_pos m
  obtain ⟨f1, f2⟩ := frac_bd (o + k * m)
  have key : stF m o (k + n) = stF m o k + rowF m.num m.den (prt m o k) n := by
    have hfl : (prt m o k : Rat) ≤ (o + k * m - ((stF m o k : Int) : Rat)) * (m.den : Rat) := Rat.floor_le _
    have hfu : (o + k * m - ((stF m o k : Int) : Rat)) * (m.den : Rat) < ((prt m o k + 1 : Int) : Rat) := Rat.lt_floor_add_one _
    have e1 := Int.mul_ediv_add_emod (prt m o k + n * m.num) m.den
    have e2 := Int.emod_nonneg (prt m o k + n * m.num) (Int.ne_of_gt hdI)
    have e3 := Int.emod_lt_of_pos (prt m o k + n * m.num) hdI
    have hmd := mul_den m
    unfold rowF
    generalize hc : (prt m o k + (n : Int) * m.num) / (m.den : Int) = c at *
    have l1 : (m.den : Int) * c ≤ prt m o k + n * m.num := by omega
    have l2 : prt m o k + n * m.num + 1 ≤ (m.den : Int) * c + m.den := by omega
    have r1 : (m.den : Rat) * (c : Rat) ≤ (prt m o k : Rat) + (n : Rat) * (m.num : Rat) := by exact_mod_cast l1
    have r2 : (prt m o k : Rat) + (n : Rat) * (m.num : Rat) + 1 ≤ (m.den : Rat) * (c : Rat) + (m.den : Rat) := by exact_mod_cast l2
    have hfu' : (o + k * m - ((stF m o k : Int) : Rat)) * (m.den : Rat) < (prt m o k : Rat) + 1 := by rw [← cast_add1]; exact hfu
    have hcast : ((k + n : Int) : Rat) = (k : Rat) + (n : Rat) := by exact_mod_cast rfl
    refine Int.le_antisymm ?_ ?_
    · refine floor_le_iff.mpr ?_
      rw [hcast]
      have e4 : ((stF m o k + c + 1 : Int) : Rat) = ((stF m o k : Int) : Rat) + (c : Rat) + 1 := by exact_mod_cast rfl
      rw [e4]
      rw [← hmd] at r2
      exact Rat.lt_of_mul_lt_mul_right (rr1 _ _ _ _ _ _ _ _ hfu' r2) (Rat.le_of_lt hd)
    · refine Rat.le_floor_iff.mpr ?_
      rw [hcast]
      have e4 : ((stF m o k + c : Int) : Rat) = ((stF m o k : Int) : Rat) + (c : Rat) := by exact_mod_cast rfl
      rw [e4]
      rw [← hmd] at r1
      exact Rat.le_of_mul_le_mul_right (rr2 _ _ _ _ _ _ _ _ hfl r1) hd
  omega
end MM
namespace MM
open PySem PySem.Spec PyProof.Rows L2
/-! ### calls of a def with defaults, which never raises -/
/-- how f(.., k = v, ..) binds where f has defaults -/
structure Kdn (x : Str) (st : Stmt) (dn n : Nat) (ks ps : List Str) (g : {α : Type} → List α → List α → List α → List α) : Prop where
  bind : ∀ (T : Addr) (kV doc pm : Value) (an : Option Addr) (cdv ct : Value) (us its ws : List Value), us.length = n → its.length = dn → ws.length = ks.length →
    ∃ k, bindArgs (PySem.W.fnOf x x (defArgs st) (defBody st) (defScope st) (.ref T) kV doc pm an cdv ct) ⟨us, ks.zip ws⟩ = seqItems? (.ref T) >>= k ∧ k (some its.toArray) = pure (ps.zip (g us its ws))
  rel : ∀ {vs ds zs : List V} {us its ws : List Value}, Vals vs us → Vals ds its → Vals zs ws → Vals (g vs ds zs) (g us its ws)
section
variable {X : Cx} {CX : CXT} {k j n d : Nat} {f : Addr} {fd : FuncData} {ps ks : List Str} {sp : Sp} {dvs : List V} {x : Str} {st : Stmt} {p pos : Pos} {e : Expr} {es : List Expr} {kws : List Keyword} {t tk : TA} {E : XK}
/-- f(e, ..): n values, the defaults from the d-th on -/
theorem pe_caD (c : Ca X.prog X.w X.K X.mg X.base CX k x st dvs ps sp) (b : Bd1 x x st ps n d dvs.length) (hd : dvs ≠ []) (hn : n + (dvs.length - d) = ps.length) (hr : Room j X.A) (hk : k ≤ j) (hx : Passes CX X E) (hg : Gl X x) (ha : PA X (e :: es) t)
    (hdb : (x == ("__debug__" : Str)) = false := by decide) (he : starEach (e :: es) X.env = (false, eval e X.env) :: starEach es X.env := by rfl) (hpl : (backTo pos (starEach es X.env)).any (·.1) = false := by rfl) :
    PE X (.Call (.Name x p) (e :: es) [] pos) (tCall sp (dvs.drop d) E t) := by
  obtain ⟨f, fd, F, hm, G⟩ := c.ex
  obtain ⟨ds, r, bb⟩ := F.binds1 n d hd hn b
  exact pe_call G (hr.mono hk) hg hm F.kp bb r hx ha hdb he hpl
theorem run_fnkP {pins : List (Addr × Obj)} {σ : L2.St} {H : Hp} {s : Shared} {Q : VK} {us ws : List Value} {vs zs : List V} {g : List Value → List Value → List Value} {gV : List V → List V → List V} (F : FnOk X.prog X.w X.K X.mg X.base CX k f fd ps sp) (hr : Room k X.A) (hb : KBn X.K fd ps n ks g gV) (hx : Passes CX X E)
    (I : Inv X pins σ H s) (r : Vals vs us) (rz : Vals zs ws) (l1 : vs.length = n) (l2 : zs.length = ks.length) (h : sp (gV vs zs) H Q E) : wpAny (model X.prog X.w) X.A (call (.ref f) us (ks.zip ws)) (EP X pins σ Q) X.xe s := by
  have r2 := hb.rel r rz
  refine wpAny_call (codeAny_mono (F.run X.A X.stack s H ⟨us, ks.zip ws⟩ (g us ws) (gV vs zs) Q _ hr I.env0 (hb.to s us ws I.kIn (r.length.symm.trans l1) (rz.length.symm.trans l2)) r2 h) fun r s' hq => ?_)
  match r, hq with
  | .error e, hq => exact hx pins σ H s e s' I hq
  | .ok (.ret u), hq => exact I.after hq
  | .ok .next, hq => exact False.elim hq
  | .ok .brk, hq => exact False.elim hq
  | .ok .cont, hq => exact False.elim hq
/-- f(e, .., k = v, ..) -/
theorem pe_caDk {g : {α : Type} → List α → List α → List α → List α} (c : Ca X.prog X.w X.K X.mg X.base CX k x st dvs ps sp) (b : Kdn x st dvs.length n ks ps g) (hd : dvs ≠ []) (hr : Room j X.A) (hk : k ≤ j) (hx : Passes CX X E) (hg : Gl X x) (ha : PA X (e :: es) t) (hkw : PK X kws tk)
    (hall : (backToKw pos (keywordEach kws X.env)).all (·.1.isSome) = true := by rfl) (hks : (backToKw pos (keywordEach kws X.env)).filterMap (·.1) = ks := by rfl) (hdb : (x == ("__debug__" : Str)) = false := by decide)
    (he : starEach (e :: es) X.env = (false, eval e X.env) :: starEach es X.env := by rfl) (hpl : ((backTo pos (starEach (e :: es) X.env)).any (·.1) || (backToKw pos (keywordEach kws X.env)).any (·.1.isNone)) = false := by rfl) :
    PE X (.Call (.Name x p) (e :: es) kws pos) (fun σ H Q => t σ H fun vs H1 => tk σ H1 fun zs H2 => vs.length = n ∧ zs.length = ks.length ∧ sp (g vs dvs zs) H2 Q E) := by
  obtain ⟨f, fd, F, hm, G⟩ := c.ex
  obtain ⟨its, hb⟩ := F.kbindsD n ks g hd b.rel b.bind
  refine ⟨fun pins s σ H Q I h => ?_⟩
  refine wpAny_Call_Name_kw (ld_glob I hg hm ?_ hdb)
  refine PySem.W.callWith_KW (h₀ := X.base) I.ok.mod.kin F.kp hall (thn (ha.run pos pins s σ H _ I h) fun us s1 ⟨vs, H1, I1, r, q⟩ => ?_) hpl he
  refine thn (hkw.run pos pins s1 σ H1 _ I1 q) fun ws s2 ⟨zs, H2, I2, rz, l1, l2, q2⟩ => ⟨I2.kIn, ?_⟩
  rw [hks]
  exact run_fnkP G (hr.mono hk) hb hx I2 r rz l1 l2 q2
/-- f(k = v, ..) -/
theorem pe_caDk0 {g : {α : Type} → List α → List α → List α → List α} (c : Ca X.prog X.w X.K X.mg X.base CX k x st dvs ps sp) (b : Kdn x st dvs.length 0 ks ps g) (hd : dvs ≠ []) (hr : Room j X.A) (hk : k ≤ j) (hx : Passes CX X E) (hg : Gl X x) (hkw : PK X kws tk)
    (hall : (backToKw pos (keywordEach kws X.env)).all (·.1.isSome) = true := by rfl) (hks : (backToKw pos (keywordEach kws X.env)).filterMap (·.1) = ks := by rfl) (hdb : (x == ("__debug__" : Str)) = false := by decide)
    (hpl : ((backTo pos (starEach [] X.env)).any (·.1) || (backToKw pos (keywordEach kws X.env)).any (·.1.isNone)) = false := by rfl) :
    PE X (.Call (.Name x p) [] kws pos) (fun σ H Q => tk σ H fun zs H2 => zs.length = ks.length ∧ sp (g [] dvs zs) H2 Q E) := by
  obtain ⟨f, fd, F, hm, G⟩ := c.ex
  obtain ⟨its, hb⟩ := F.kbindsD 0 ks g hd b.rel b.bind
  refine ⟨fun pins s σ H Q I h => ?_⟩
  refine wpAny_Call_Name_kw (ld_glob I hg hm ?_ hdb)
  refine PySem.W.callWith_KW0 (h₀ := X.base) I.ok.mod.kin F.kp hall ?_ hpl
  refine thn (hkw.run pos pins s σ H _ I h) fun ws s2 ⟨zs, H2, I2, rz, l2, q2⟩ => ⟨I2.kIn, ?_⟩
  rw [hks]
  exact run_fnkP (us := []) (vs := []) G (hr.mono hk) hb hx I2 .nil rz rfl l2 q2
end
end MM
namespace MM
open PySem L2
/-! ### the probing of a set's table comes to every place: tables of up to 2048 places -/
def Mk (m : Nat) : Prop := m = 7 ∨ m = 31 ∨ m = 127 ∨ m = 511 ∨ m = 2047
/-- it isn't at nought again ahead of time -/
def scn (m : Nat) : Nat → Nat → Bool
  | 0, _ => true
  | n + 1, x => (x != 0) && scn m n ((x * 5 + 1) % (m + 1))
theorem scn_ok {m : Nat} : ∀ {n a : Nat}, scn m n (lcgN m a) = true → ∀ k, k < n → lcgN m (a + k) ≠ 0
  | 0, _, _, k, hk => absurd hk (Nat.not_lt_zero k)
  | n + 1, a, h, k, hk => by
    unfold scn at h
    rw [Bool.and_eq_true] at h
    match k with
    | 0 => exact by simpa using h.1
    | k + 1 =>
      have := scn_ok (m := m) (n := n) (a := a + 1) (by rw [lcgN.eq_2]; exact h.2) k (by omega)
      rw [show a + (k + 1) = a + 1 + k by omega]
      exact this
theorem scn_all {m : Nat} (h : Mk m) : scn m m (lcgN m 1) = true := by
  rcases h with rfl | rfl | rfl | rfl | rfl <;> decide +kernel
theorem lcg_rnd {m : Nat} (h : Mk m) : lcgN m (m + 1) = 0 := by
  rcases h with rfl | rfl | rfl | rfl | rfl <;> decide +kernel
theorem lcg_no {m : Nat} (h : Mk m) {k : Nat} (h1 : 1 ≤ k) (h2 : k ≤ m) : lcgN m k ≠ 0 := by
  have := scn_ok (scn_all h) (k - 1) (by omega)
  rw [show 1 + (k - 1) = k by omega] at this
  exact this
theorem lcg_lt (m k : Nat) : lcgN m k < m + 1 := by
  cases k with
  | zero => exact Nat.succ_pos m
  | succ k => exact Nat.mod_lt _ (Nat.succ_pos m)
/-- one step back, from a place to its own -/
theorem lcg_back {m : Nat} (h : Mk m) {x y : Nat} (hx : x < m + 1) (hy : y < m + 1) (e : (x * 5 + 1) % (m + 1) = (y * 5 + 1) % (m + 1)) : x = y := by
  rcases h with rfl | rfl | rfl | rfl | rfl <;> omega
theorem lcg_inj {m : Nat} (h : Mk m) : ∀ {a b : Nat}, lcgN m a = lcgN m (a + b) → b ≤ m → b = 0
  | 0, b, e, hb => by
    by_cases h0 : b = 0
    · exact h0
    · exact absurd (by rw [Nat.zero_add] at e; exact e.symm) (lcg_no h (by omega) hb)
  | a + 1, b, e, hb => by
    rw [show a + 1 + b = (a + b) + 1 by omega, lcgN.eq_2, lcgN.eq_2] at e
    exact lcg_inj h (lcg_back h (lcg_lt m a) (lcg_lt m (a + b)) e) hb
theorem lcg_nd {m : Nat} (h : Mk m) : ((List.range (m + 1)).map (lcgN m)).Nodup := by
  rw [List.nodup_iff_pairwise_ne, List.pairwise_map]
  refine List.Pairwise.imp_of_mem (fun {a b} ha hb hab e => ?_) List.pairwise_lt_range
  have hb := List.mem_range.mp hb
  have := lcg_inj h (a := a) (b := b - a) (by rw [show a + (b - a) = b by omega]; exact e) (by omega)
  omega
theorem lcg_all {m : Nat} (h : Mk m) {j : Nat} (hj : j ≤ m) : ∃ b, b ≤ m ∧ lcgN m b = j := by
  apply Classical.byContradiction
  intro hno
  have nd : (j :: (List.range (m + 1)).map (lcgN m)).Nodup := List.nodup_cons.mpr ⟨fun hm => by
    obtain ⟨b, hb, e⟩ := List.mem_map.mp hm
    exact hno ⟨b, by have := List.mem_range.mp hb; omega, e⟩, lcg_nd h⟩
  have := nd.length_le_of_subset (l₂ := List.range (m + 1)) fun x hx => by
    rcases List.mem_cons.mp hx with rfl | hx
    · exact List.mem_range.mpr (by omega)
    · obtain ⟨b, _, rfl⟩ := List.mem_map.mp hx
      exact List.mem_range.mpr (lcg_lt m b)
  rw [List.length_cons, List.length_map, List.length_range] at this
  omega
theorem lcg_per {m : Nat} (h : Mk m) : ∀ k, lcgN m (m + 1 + k) = lcgN m k
  | 0 => lcg_rnd h
  | k + 1 => by
    rw [show m + 1 + (k + 1) = (m + 1 + k) + 1 by omega, lcgN.eq_2, lcgN.eq_2, lcg_per h k]
theorem lcgI_from {m : Nat} (h : Mk m) {i j : Nat} (hi : i ≤ m) (hj : j ≤ m) : ∃ k, k ≤ m ∧ lcgI m i k = j := by
  obtain ⟨a, ha, rfl⟩ := lcg_all h hi
  obtain ⟨b, hb, rfl⟩ := lcg_all h hj
  by_cases c : a ≤ b
  · exact ⟨b - a, by omega, by rw [lcgN_add, show a + (b - a) = b by omega]⟩
  · exact ⟨m + 1 + b - a, by omega, by rw [lcgN_add, show a + (m + 1 + b - a) = m + 1 + b by omega, lcg_per h]⟩
theorem run_all {m : Nat} (h : Mk m) (z : Int) {j : Nat} (hj : j ≤ m) : ∃ n, n ≤ m + 12 ∧ runI m (SetTable.bits z) n = j := by
  obtain ⟨k, hk, e⟩ := lcgI_from h (runI_le m (SetTable.bits z) 12) hj
  exact ⟨12 + k, by omega, by rw [runI_tail (bits_lt z), e]⟩
theorem nth_all {m : Nat} (h : Mk m) (z : Int) {j : Nat} (hj : j ≤ m) : ∃ k, k < 10 * SetTable.turns m ∧ way m z k = j := by
  obtain ⟨n, hn, e⟩ := run_all h z hj
  obtain ⟨k, hk, e2⟩ := run_nth m (SetTable.bits z) n
  refine ⟨k, ?_, ?_⟩
  · show k < 10 * (m + 15)
    omega
  · show (nth m (runAt m (SetTable.bits z % (m + 1)) (SetTable.bits z)) k).j = j
    rw [e2]
    exact e
theorem way_bd (m : Nat) (z : Int) (k : Nat) : way m z k ≤ m := by
  have h0 : SetTable.bits z % (m + 1) ≤ m := Nat.lt_succ_iff.mp (Nat.mod_lt _ (Nat.succ_pos m))
  have h1 := (runEnd_bd h0).1
  have := nth_in (m := m) k (runAt m (SetTable.bits z % (m + 1)) (SetTable.bits z)) (by
    show SetTable.bits z % (m + 1) + (SetTable.runEnd m (SetTable.bits z % (m + 1)) - SetTable.bits z % (m + 1)) ≤ m
    have := runEnd_ge m (SetTable.bits z % (m + 1))
    omega)
  show (nth m (runAt m (SetTable.bits z % (m + 1)) (SetTable.bits z)) k).j ≤ m
  omega
/-- the first free place of a row being laid -/
theorem fr_find {m : Nat} (hm : Mk m) (owner : Array (Option Nat)) (h : Int) {j : Nat} (hj : j ≤ m) (e : oAt owner j = none) : ∃ K, SetTable.layClean.free m owner (SetTable.turns m) (SetTable.bits h % (m + 1)) (SetTable.bits h) = some (way m h K) ∧ oAt owner (way m h K) = none ∧ ∀ k, k < K → oAt owner (way m h k) ≠ none := by
  obtain ⟨n, hn, e1⟩ := run_all hm h hj
  -- the n-th run begins at off n and has j as its first place
  have e2 : way m h (off m (SetTable.bits h % (m + 1)) (SetTable.bits h) n) = j := by
    show (nth m (runAt m (SetTable.bits h % (m + 1)) (SetTable.bits h)) _).j = j
    rw [nth_off, itL_run]
    exact e1
  obtain ⟨K, hK, hp, hl⟩ := st_least (p := fun k => oAt owner (way m h k) = none) (off m (SetTable.bits h % (m + 1)) (SetTable.bits h) n) (by rw [e2]; exact e)
  refine ⟨K, free_spec m owner (SetTable.turns m) n _ _ K (by show n < m + 15; omega) hK (fun k hk => ?_) ?_, hp, hl⟩
  · cases hq : oAt owner (way m h k) with
    | none => exact absurd hq (hl k hk)
    | some x => rfl
  · show (oAt owner (way m h K)).isNone = true
    rw [hp]
    rfl
theorem own_step {m : Nat} (hm : Mk m) {done : List Int} {owner : Array (Option Nat)} (O : Own m done owner) (hl : done.length ≤ m) (h : Int) :
    ∃ j, SetTable.layClean.free m owner (SetTable.turns m) (SetTable.bits h % (m + 1)) (SetTable.bits h) = some j ∧ Own m (done ++ [h]) (owner.setIfInBounds j (some done.length)) := by
  obtain ⟨ps, lps, hps⟩ := O.ps
  obtain ⟨j0, hj0, hn0⟩ := st_missing ps (m + 1) (by omega)
  have e0 : oAt owner j0 = none := by
    cases hq : oAt owner j0 with
    | none => rfl
    | some x => exact absurd (hps j0 (by omega) (by rw [hq]; simp)) hn0
  obtain ⟨K, e1, e2, e3⟩ := fr_find hm owner h (show j0 ≤ m by omega) e0
  have hw := way_bd m h K
  have hsz : way m h K < owner.size := by rw [O.sz]; omega
  refine ⟨way m h K, e1, ⟨by rw [Array.size_setIfInBounds]; exact O.sz, fun j k hj hk => ?_, fun k hk => ?_, ⟨way m h K :: ps, by rw [List.length_cons, List.length_append, lps]; rfl, fun j hj hn => ?_⟩⟩⟩
  · by_cases c : j = way m h K
    · subst c
      rw [oAt_set_self _ hsz] at hk
      cases hk
      refine ⟨h, K, ?_, rfl, fun k' hk' => ?_⟩
      · rw [List.getElem?_append_right (Nat.le_refl _), Nat.sub_self]
        rfl
      · rw [oAt_set_ne _ (fun z => by
          have := e3 k' hk'
          rw [z] at this
          exact this e2)]
        exact e3 k' hk'
    · rw [oAt_set_ne _ c] at hk
      obtain ⟨h', K', f1, f2, f3⟩ := O.at_ j k hj hk
      refine ⟨h', K', ?_, f2, fun k' hk' => ?_⟩
      · rw [List.getElem?_append_left (List.getElem?_eq_some_iff.mp f1).1]
        exact f1
      · by_cases c2 : way m h' k' = way m h K
        · rw [c2, oAt_set_self _ hsz]
          simp
        · rw [oAt_set_ne _ c2]
          exact f3 k' hk'
  · rw [List.length_append, List.length_cons, List.length_nil] at hk
    by_cases c : k = done.length
    · exact ⟨way m h K, hw, by rw [oAt_set_self _ hsz, c]⟩
    · obtain ⟨j, hj, hk'⟩ := O.all k (by omega)
      refine ⟨j, hj, ?_⟩
      rw [oAt_set_ne _ (fun z => by rw [z, e2] at hk'; cases hk')]
      exact hk'
  · by_cases c : j = way m h K
    · exact List.mem_cons.mpr (.inl c)
    · rw [oAt_set_ne _ c] at hn
      exact List.mem_cons.mpr (.inr (hps j hj hn))
theorem fold_all {m : Nat} (hm : Mk m) : ∀ (rest done : List Int) (owner : Array (Option Nat)), Own m done owner → done.length + rest.length ≤ m → ∃ owner', List.foldl (stepF m) (some (owner, done.length)) rest = some (owner', (done ++ rest).length) ∧ Own m (done ++ rest) owner'
  | [], done, owner, O, _ => ⟨owner, by rw [List.append_nil]; rfl, by rw [List.append_nil]; exact O⟩
  | h :: rest, done, owner, O, hl => by
    rw [List.length_cons] at hl
    obtain ⟨j, e1, O1⟩ := own_step hm O (by omega) h
    obtain ⟨o2, e2, O2⟩ := fold_all hm rest (done ++ [h]) _ O1 (by rw [List.length_append, List.length_cons, List.length_nil]; omega)
    rw [List.append_assoc] at e2 O2
    refine ⟨o2, ?_, O2⟩
    rw [List.foldl_cons, stepF_some e1]
    rw [List.length_append, List.length_cons, List.length_nil] at e2
    exact e2
theorem lay_all {m : Nat} (hm : Mk m) {hs : Array Int} (hl : hs.size ≤ m) : ∃ owner, SetTable.layClean m hs = some owner ∧ Own m hs.toList owner := by
  obtain ⟨o, e, O⟩ := fold_all hm hs.toList [] _ (Own.init m) (by rw [Array.length_toList]; simpa using hl)
  refine ⟨o, ?_, by simpa using O⟩
  rw [layClean_eq]
  have e : List.foldl (stepF m) (some (Array.replicate (m + 1) none, 0)) hs.toList = some (o, ([] ++ hs.toList).length) := e
  rw [e]
  rfl
end MM
namespace MM
open PySem L2
/-! ### a table of a set, and what it knows of its elements' hashes -/
structure Tb (t : SetTable) (hs : List Int) : Prop where
  ris : Ris t.place.toList
  dm : t.dummies = #[]
  sz : t.place.size = hs.length
  mok : Mk t.mask
  bd : ∀ x, x ∈ t.place.toList → x ≤ t.mask
  reach : ∀ (i : Nat) (h : Int) (j : Nat), hs[i]? = some h → t.place.toList[i]? = some j → ∃ k, way t.mask h k = j ∧ ∀ k', k' < k → way t.mask h k' ∈ t.place.toList
theorem Tb.before {t : SetTable} {hs : List Int} (T : Tb t hs) {h : Int} {K i j : Nat} (hK : ¬ way t.mask h K ∈ t.place.toList) (hi : hs[i]? = some h) (hj : t.place.toList[i]? = some j) : ∃ k, k < K ∧ way t.mask h k = j := by
  obtain ⟨k, e, hb⟩ := T.reach i h j hi hj
  refine ⟨k, ?_, e⟩
  apply Nat.lt_of_not_le
  intro z
  rcases Nat.lt_or_eq_of_le z with z | z
  · exact hK (hb K z)
  · rw [z, e] at hK
    exact hK (List.mem_of_getElem? hj)
theorem Tb.first {t : SetTable} {hs : List Int} (T : Tb t hs) (hl : hs.length ≤ t.mask) (h : Int) : ∃ K, K < 10 * SetTable.turns t.mask ∧ ¬ way t.mask h K ∈ t.place.toList ∧ ∀ k, k < K → way t.mask h k ∈ t.place.toList := by
  obtain ⟨j, hj, hn⟩ := st_missing t.place.toList (t.mask + 1) (by rw [Array.length_toList, T.sz]; omega)
  obtain ⟨k, hk, e⟩ := nth_all T.mok h (show j ≤ t.mask by omega)
  obtain ⟨K, hK, hp, hb⟩ := st_least (p := fun k => ¬ way t.mask h k ∈ t.place.toList) k (by rw [e]; exact hn)
  exact ⟨K, by omega, hp, fun c hc => Classical.byContradiction fun z => hb c hc z⟩
theorem ris_ins {l : List Nat} {p j : Nat} (r : Ris l) (hp : p ≤ l.length) (h1 : ∀ (i x : Nat), l[i]? = some x → i < p → x < j) (h2 : ∀ (i x : Nat), l[i]? = some x → p ≤ i → j ≤ x) (hn : ¬ j ∈ l) : Ris (l.take p ++ j :: l.drop p) := by
  have r' : List.Pairwise (· < ·) (l.take p ++ l.drop p) := by rw [List.take_append_drop]; exact r
  rw [List.pairwise_append] at r'
  obtain ⟨ra, rb, rc⟩ := r'
  have hd : ∀ y, y ∈ l.drop p → j < y := fun y hy => by
    obtain ⟨i, hi⟩ := List.mem_iff_getElem?.mp hy
    rw [List.getElem?_drop] at hi
    have a := h2 _ _ hi (Nat.le_add_right _ _)
    rcases Nat.lt_or_eq_of_le a with b | b
    · exact b
    · exact absurd (b ▸ List.mem_of_getElem? hi) hn
  have ht : ∀ x, x ∈ l.take p → x < j := fun x hx => by
    obtain ⟨i, hi⟩ := List.mem_iff_getElem?.mp hx
    rw [List.getElem?_take] at hi
    split at hi
    · exact h1 _ _ hi (by omega)
    · cases hi
  show List.Pairwise (· < ·) (l.take p ++ j :: l.drop p)
  rw [List.pairwise_append, List.pairwise_cons]
  refine ⟨ra, ⟨hd, rb⟩, fun x hx y hy => ?_⟩
  rcases List.mem_cons.mp hy with rfl | hy
  · exact ht x hx
  · exact rc x hx y hy
theorem Tb.put {t : SetTable} {hs : List Int} (T : Tb t hs) {h : Int} {K : Nat} (hK : ¬ way t.mask h K ∈ t.place.toList) (hb : ∀ k, k < K → way t.mask h k ∈ t.place.toList) :
    SetTable.below t.place (way t.mask h K) ≤ hs.length ∧ Tb (t.put (way t.mask h K)).1 (hs.take (SetTable.below t.place (way t.mask h K)) ++ h :: hs.drop (SetTable.below t.place (way t.mask h K))) := by
  obtain ⟨c1, c2, c3⟩ := below_cut T.ris (way t.mask h K)
  have hw := way_bd t.mask h K
  have e := put_place t (way t.mask h K)
  generalize hj : way t.mask h K = j at *
  generalize hp : SetTable.below t.place j = p at *
  have lp : p ≤ t.place.toList.length := by rw [Array.length_toList]; exact c1
  have lh : p ≤ hs.length := by rw [← T.sz]; exact c1
  have hm : (t.put j).1.mask = t.mask := rfl
  refine ⟨lh, ⟨by rw [e]; exact ris_ins T.ris lp c2 c3 hK, put_dm T.dm j, ?_, T.mok, fun x hx => ?_, fun i h' j' hi hj' => ?_⟩⟩
  · rw [← Array.length_toList, e, len_ins _ lp, len_ins _ lh, Array.length_toList, T.sz]
  · rw [e] at hx
    rcases mem_ins.mp hx with rfl | hx
    · exact hw
    · exact T.bd x hx
  · rw [hm, e]
    rw [tins_get _ lh] at hi
    rw [e, tins_get _ lp] at hj'
    have old : ∀ i', hs[i']? = some h' → t.place.toList[i']? = some j' → ∃ k, way t.mask h' k = j' ∧ ∀ k', k' < k → way t.mask h' k' ∈ t.place.toList.take p ++ j :: t.place.toList.drop p := fun i' a b => by
      obtain ⟨k, e1, e2⟩ := T.reach i' h' j' a b
      exact ⟨k, e1, fun k' hk' => mem_ins.mpr (.inr (e2 k' hk'))⟩
    split at hi
    · rename_i c
      rw [if_pos c] at hj'
      exact old i hi hj'
    · rename_i c
      rw [if_neg c] at hj'
      split at hi
      · rename_i c'
        rw [if_pos c'] at hj'
        cases hi
        cases hj'
        exact ⟨K, hj, fun k' hk' => mem_ins.mpr (.inr (hb k' hk'))⟩
      · rename_i c'
        rw [if_neg c'] at hj'
        exact old _ hi hj'
theorem rl_all (t : SetTable) {hs : Array Int} {wanted M : Nat} (hM : SetTable.sizeAbove wanted - 1 = M) (hm : Mk M) (hl : hs.size ≤ M) :
    ∃ t' order, t.relaid hs wanted = some (t', order) ∧ order.toList.Perm (List.range hs.size) ∧ Tb t' (order.toList.map fun i => hs.getD i 0) ∧ t'.mask = M ∧ t'.led = t.led ∧ t'.plain = t.plain := by
  obtain ⟨owner, e1, O⟩ := lay_all hm hl
  have e := relaid_eq t hs wanted
  rw [hM, e1] at e
  have e : t.relaid hs wanted = some (tabOf t M owner, ((liveOf M owner).map fun x => x.2).toArray) := e
  obtain ⟨r1, _⟩ := relaid_ris e
  have pl : (tabOf t M owner).place.toList = (liveOf M owner).map fun x => x.1 := by
    show ((liveOf M owner).map fun x => x.1).toArray.toList = _
    rw [List.toList_toArray]
  rw [pl] at r1
  have ml := fun j k => mem_live (m := M) (owner := owner) O.sz (j := j) (k := k)
  obtain ⟨ps, lps, hps⟩ := O.ps
  have l1 : (liveOf M owner).length ≤ hs.size := by
    have nd : ((liveOf M owner).map fun x => x.1).Nodup := by
      rw [List.nodup_iff_pairwise_ne]
      exact r1.imp fun {a b} h => Nat.ne_of_lt h
    have := nat_nodup_len _ ps nd fun x hx => by
      obtain ⟨⟨j, k⟩, hjk, rfl⟩ := List.mem_map.mp hx
      obtain ⟨a, b⟩ := (ml j k).mp hjk
      exact hps j a (by rw [b]; simp)
    rw [List.length_map, lps, Array.length_toList] at this
    exact this
  have inn : ∀ k, k < hs.size → k ∈ (liveOf M owner).map fun x => x.2 := fun k hk => by
    obtain ⟨j, hj, e⟩ := O.all k (by rw [Array.length_toList]; exact hk)
    exact List.mem_map.mpr ⟨(j, k), (ml j k).mpr ⟨hj, e⟩, rfl⟩
  have l2 : hs.size ≤ (liveOf M owner).length := by
    have := (List.nodup_range (n := hs.size)).length_le_of_subset (l₂ := (liveOf M owner).map fun x => x.2) fun k hk => inn k (List.mem_range.mp hk)
    rw [List.length_range, List.length_map] at this
    exact this
  refine ⟨_, _, e, ?_, ⟨by rw [pl]; exact r1, rfl, ?_, hm, fun x hx => ?_, fun i h j hi hj => ?_⟩, rfl, rfl, rfl⟩
  · rw [List.toList_toArray]
    exact perm_range _ _ (by rw [List.length_map]; omega) inn
  · rw [List.toList_toArray, List.length_map, List.length_map, ← Array.length_toList, pl, List.length_map]
  · rw [pl] at hx
    obtain ⟨⟨a, b⟩, hab, rfl⟩ := List.mem_map.mp hx
    exact ((ml a b).mp hab).1
  · rw [pl, List.getElem?_map] at hj
    rw [List.toList_toArray, List.getElem?_map, List.getElem?_map] at hi
    cases hq : (liveOf M owner)[i]? with
    | none => rw [hq] at hj; cases hj
    | some jk =>
      obtain ⟨j', k'⟩ := jk
      rw [hq] at hj hi
      cases hj
      cases hi
      obtain ⟨a, b⟩ := (ml j' k').mp (List.mem_of_getElem? hq)
      obtain ⟨h2, K, f1, f2, f3⟩ := O.at_ j' k' a b
      have eh : hs.getD k' 0 = h2 := by
        rw [Array.getElem?_toList] at f1
        rw [Array.getD_eq_getD_getElem?, f1]
        rfl
      refine ⟨K, by show way M (hs.getD k' 0) K = j'; rw [eh]; exact f2, fun c hc => ?_⟩
      rw [pl]
      have hn := f3 c hc
      show way M (hs.getD k' 0) c ∈ _
      rw [eh]
      cases hv : oAt owner (way M h2 c) with
      | none => exact absurd hv hn
      | some v => exact List.mem_map.mpr ⟨(_, v), (ml _ v).mpr ⟨way_bd M h2 c, hv⟩, rfl⟩
end MM
namespace MM
open PySem L2
open PySem.Spec PyProof.Rows
/-! ### the steps of a search, counted from its start -/
def pb (m : Nat) (hv : Int) (c : Nat) : SetTable.Probe := nth m (runAt m (SetTable.bits hv % (m + 1)) (SetTable.bits hv)) c
theorem pb_add (m : Nat) (hv : Int) (c q : Nat) : nth m (pb m hv c) q = pb m hv (c + q) := (nth_add m c _ q).symm
theorem nth_dm {m : Nat} : ∀ (n : Nat) (p : SetTable.Probe), p.dummy = none → (nth m p n).dummy = none
  | 0, _, e => e
  | n + 1, p, e => nth_dm n (adv m p) (by unfold adv; split <;> exact e)
theorem pb_dm (m : Nat) (hv : Int) (c : Nat) : (pb m hv c).dummy = none := nth_dm c _ rfl
/-- what a probe from the c-th step on says -/
theorem probe_pb {t : SetTable} (ri : Ris t.place.toList) (dm : t.dummies = #[]) (ha : Nat → Int) (hv : Int) {c K : Nat} (hc : c ≤ K) (hK : K < 10 * SetTable.turns t.mask) (hb : ∀ q, q < K → way t.mask hv q ∈ t.place.toList) (ho : ¬ way t.mask hv K ∈ t.place.toList) :
    (∃ q i, c ≤ q ∧ q < K ∧ t.place.toList[i]? = some (way t.mask hv q) ∧ ha i = hv ∧ (∀ q' i', c ≤ q' → q' < q → t.place.toList[i']? = some (way t.mask hv q') → ha i' ≠ hv) ∧ t.probe ha hv (pb t.mask hv c) = some (.candidate (way t.mask hv q) i (pb t.mask hv (q + 1)))) ∨
    ((∀ q' i', c ≤ q' → q' < K → t.place.toList[i']? = some (way t.mask hv q') → ha i' ≠ hv) ∧ t.probe ha hv (pb t.mask hv c) = some (.empty (way t.mask hv K) none)) := by
  have wj : ∀ q, (nth t.mask (pb t.mask hv c) q).j = way t.mask hv (c + q) := fun q => by rw [pb_add]; rfl
  rcases go_spec t ri dm ha hv (10 * SetTable.turns t.mask) (K - c) (pb t.mask hv c) (pb_dm _ _ _) (by omega) (fun q hq => by rw [wj]; exact hb _ (by omega)) (by rw [wj, show c + (K - c) = K by omega]; exact ho) with ⟨q, i, a1, a2, a3, a4, a5⟩ | ⟨a1, a2⟩
  · rw [wj, pb_add] at a5
    rw [wj] at a2
    refine .inl ⟨c + q, i, by omega, by omega, a2, a3, fun q' i' h1 h2 h3 => ?_, a5⟩
    refine a4 (q' - c) i' (by omega) ?_
    rw [wj, show c + (q' - c) = q' by omega]
    exact h3
  · rw [wj, show c + (K - c) = K by omega] at a2
    refine .inr ⟨fun q' i' h1 h2 h3 => ?_, a2⟩
    refine a1 (q' - c) i' (by omega) ?_
    rw [wj, show c + (q' - c) = q' by omega]
    exact h3
theorem mk_odd {m : Nat} (h : Mk m) : m % 2 = 1 := by
  rcases h with rfl | rfl | rfl | rfl | rfl <;> rfl
theorem mk_le {m : Nat} (h : Mk m) : m ≤ 2047 := by
  rcases h with rfl | rfl | rfl | rfl | rfl <;> decide
/-! ### a set of up to a thousand tuples of whole numbers -/
structure SR (P : Program) (w : World) (hp : Heap) (a : Addr) (L : List (Addr × List Int)) (es : Array (Int × Value)) (n : Nat) (t : SetTable) : Prop where
  obj : ∃ o, hp.get? a = some o ∧ (o.ExactSet ∧ o.data = .set es n t)
  row : es.toList = rowsOf P w L
  tb : Tb t (L.map fun q => thash P w q.2)
  nd : (L.map fun q => q.2).Nodup
  isT : ∀ q, q ∈ L → IsT P w hp q.2 q.1
  pl : t.plain = true
  ld : w.params.followText "set-order" = true ∨ t.led = true
  room : L.length * 5 < t.mask * 3
  few : L.length < 1000
section
variable {P : Program} {w : World} {A : Around} {E : Value → Shared → Prop} {s : Shared} {a : Addr} {L : List (Addr × List Int)} {es : Array (Int × Value)} {n : Nat} {t : SetTable}
theorem rows_size (e : es.toList = rowsOf P w L) : es.size = L.length := by
  rw [← Array.length_toList, e]
  exact List.length_map ..
theorem SR.psz {hp : Heap} (R : SR P w hp a L es n t) : t.place.size = es.size := by
  rw [R.tb.sz, List.length_map, rows_size R.row]
theorem fits_of (dm : t.dummies = #[]) (e : t.place.size = es.size) (h : es.size ≤ t.mask) : t.fits es.size = true := by
  show (_ == _ && decide (t.place.size + t.dummies.size ≤ _)) = true
  rw [dm, e]
  simpa using h
theorem SR.fits {hp : Heap} (R : SR P w hp a L es n t) : t.fits es.size = true := fits_of R.tb.dm R.psz (by
  have h1 := R.room
  have h2 := rows_size R.row
  omega)
theorem row_at (e : es.toList = rowsOf P w L) {i : Nat} {q : Addr × List Int} (h : L[i]? = some q) : es[i]? = some (thash P w q.2, Value.ref q.1) := by
  have h1 : es.toList[i]? = (L.map fun p => (thash P w p.2, Value.ref p.1))[i]? := by rw [e]; rfl
  rw [Array.getElem?_toList, List.getElem?_map, h] at h1
  exact h1
theorem SR.gone {hp : Heap} (R : SR P w hp a L es n t) : ¬ t.gaveWay = true := by
  have h := mk_odd R.tb.mok
  unfold SetTable.gaveWay
  simp [h]
theorem SR.inL {hp : Heap} (R : SR P w hp a L es n t) {i j : Nat} (h : t.place.toList[i]? = some j) : ∃ q, L[i]? = some q := by
  have h1 := (List.getElem?_eq_some_iff.mp h).1
  rw [Array.length_toList, R.psz, rows_size R.row] at h1
  exact ⟨_, List.getElem?_eq_getElem h1⟩
/-- the search for a tuple, from any of its steps on -/
theorem sr_from (R : SR P w s.heap a L es n t) {x : Addr} {k : List Int} {hv : Int} (eh : thash P w k = hv) (hx : IsT P w s.heap k x) (hu : A.units < cLine) {K : Nat} (hK : K < 10 * SetTable.turns t.mask)
    (ho : ¬ way t.mask hv K ∈ t.place.toList) (hb : ∀ q, q < K → way t.mask hv q ∈ t.place.toList) {Q : SetFound → Shared → Prop}
    (yes : (k ∈ L.map fun q => q.2) → Q (.there none) s) (no : (¬ k ∈ L.map fun q => q.2) → Q (.free (way t.mask hv K) false) s) :
    ∀ (f c : Nat) (st : Option SetTable.Probe), st.getD (t.probeStart hv) = pb t.mask hv c → c ≤ K → K < f + c →
      (∀ (i : Nat) q, L[i]? = some q → q.2 = k → ∃ c', c ≤ c' ∧ c' < K ∧ t.place.toList[i]? = some (way t.mask hv c')) →
      wpAny (model P w) A (setSearchFrom a (.ref x) hv true f st) Q E s := by
  intro f
  induction f with
  | zero => intro c st _ h1 h2; omega
  | succ f ih =>
    intro c st es0 hc hf hre
    obtain ⟨o, go, ge, gd⟩ := R.obj
    have hat : ∀ (i : Nat) q, L[i]? = some q → (fun i => (es[i]?.map fun p => p.1).getD 0) i = thash P w q.2 := fun i q e => by
      show (es[i]?.map fun p => p.1).getD 0 = _
      rw [row_at R.row e]
      rfl
    rw [setSearchFrom_succ]
    refine wpAny_bind (wpAny_setState_of go gd R.fits ?_)
    dsimp only
    refine wp_if_neg R.gone ?_
    try refine wpAny_bind (wpAny_pure ?_)
    rw [es0]
    rcases probe_pb R.tb.ris R.tb.dm (fun i => (es[i]?.map fun p => p.1).getD 0) hv hc hK hb ho with ⟨q, i, a1, a2, a3, a4, a5, a6⟩ | ⟨a1, a2⟩
    · rw [a6]
      dsimp only
      obtain ⟨p, hp⟩ := R.inL a3
      have pm : p ∈ L := List.mem_of_getElem? hp
      have pt := R.isT p pm
      have tail : wpAny (model P w) A (searchRest a (.ref x) hv true f es t (way t.mask hv q) i (pb t.mask hv (q + 1))) Q E s := by
        unfold searchRest
        rw [row_at R.row hp]
        dsimp only
        refine wpAny_bind (wpAny_holding (wpAny_eqBool_tuple hu pt hx ?_))
        refine wpAny_bind (wpAny_setState_of go gd R.fits ?_)
        dsimp only
        by_cases e : p.2 = k
        · refine wp_if_pos (by simp [e]) ?_
          exact wpAny_pure (yes (List.mem_map.mpr ⟨p, pm, e⟩))
        · refine wp_if_neg (by simp [e]) ?_
          try refine wpAny_bind (wpAny_pure ?_)
          rw [sameMem]
          dsimp only
          have live := slot_live R.tb.ris a3
          simp only [if_true, live, row_at R.row hp]
          refine wpAny_bind (wpAny_isSame_ref_self (wpAny_bind (wpAny_pure ?_)))
          simp only [if_true]
          refine wp_if_neg (by simp [e]) ?_
          refine ih (q + 1) _ rfl (by omega) (by omega) fun i0 p0 e0 k0 => ?_
          obtain ⟨c', b1, b2, b3⟩ := hre i0 p0 e0 k0
          refine ⟨c', ?_, b2, b3⟩
          have h0 : (fun i => (es[i]?.map fun p => p.1).getD 0) i0 = hv := by rw [hat i0 p0 e0, k0, eh]
          rcases Nat.lt_trichotomy c' q with z | z | z
          · exact absurd h0 (a5 c' i0 b1 z b3)
          · subst z
            have s0 := slot_live R.tb.ris b3
            rw [live] at s0
            injection s0 with s0
            rw [← s0, hp] at e0
            cases e0
            exact absurd k0 e
          · exact z
      by_cases hl : t.led = true
      · refine wp_if_neg (by simp [hl]) ?_
        try refine wpAny_bind (wpAny_pure ?_)
        exact tail
      · refine wp_if_pos (by simp [hl]) ?_
        refine wpAny_bind (seen_tup hx (fun y hy => ?_) ?_)
        · obtain ⟨e, he, rfl⟩ := List.mem_map.mp hy
          have he : e ∈ es.toList := by
            have z : e ∈ es ∧ e.1 = hv := by simpa using he
            simpa using z.1
          rw [R.row] at he
          obtain ⟨p2, hp2, rfl⟩ := List.mem_map.mp he
          exact ⟨p2.2, p2.1, rfl, R.isT p2 hp2⟩
        · refine wp_if_neg (by decide) ?_
          try refine wpAny_bind (wpAny_pure ?_)
          exact tail
    · rw [a2]
      dsimp only
      refine wpAny_pure (no fun hm => ?_)
      obtain ⟨p0, m0, k0⟩ := List.mem_map.mp hm
      obtain ⟨i0, e0⟩ := List.mem_iff_getElem?.mp m0
      obtain ⟨c', b1, b2, b3⟩ := hre i0 p0 e0 k0
      exact a1 c' i0 b1 b2 b3 ((hat i0 p0 e0).trans (by rw [k0, eh]))
/-- the search with which adding begins -/
theorem sr_search (R : SR P w s.heap a L es n t) {x : Addr} {k : List Int} {hv : Int} (eh : thash P w k = hv) (hx : IsT P w s.heap k x) (hu : A.units < cLine) {Q : SetFound → Shared → Prop}
    (yes : (k ∈ L.map fun q => q.2) → Q (.there none) s)
    (no : ∀ K, (¬ k ∈ L.map fun q => q.2) → ¬ way t.mask hv K ∈ t.place.toList → (∀ q, q < K → way t.mask hv q ∈ t.place.toList) → Q (.free (way t.mask hv K) false) s) :
    wpAny (model P w) A (setSearch a (.ref x) hv true) Q E s := by
  have hr := R.room
  obtain ⟨K, k1, k2, k3⟩ := R.tb.first (by rw [List.length_map]; omega) hv
  have km := mk_le R.tb.mok
  have kt : SetTable.turns t.mask = t.mask + 15 := rfl
  unfold setSearch
  refine sr_from R eh hx hu k1 k2 k3 yes (fun z => no K z k2 k3) 100000 0 none rfl (Nat.zero_le _) (by omega) fun i q e ek => ?_
  have hi : (L.map fun q => thash P w q.2)[i]? = some hv := by rw [List.getElem?_map, e, ← eh, ← ek]; rfl
  have il : i < t.place.toList.length := by
    rw [Array.length_toList, R.psz, rows_size R.row]
    exact (List.getElem?_eq_some_iff.mp e).1
  obtain ⟨c, h1, h2⟩ := R.tb.before k2 hi (List.getElem?_eq_getElem il)
  exact ⟨c, Nat.zero_le _, h1, by rw [h2]; exact List.getElem?_eq_getElem il⟩
/-- the table is laid anew, larger -/
theorem sr_relay {o : Obj} (go : s.heap.get? a = some o) (ge : o.ExactSet) (gd : o.data = .set es n t) (er : es.toList = rowsOf P w L) (ez : t.place.size = es.size) (dm : t.dummies = #[]) (hm : es.size ≤ t.mask)
    (nd : (L.map fun q => q.2).Nodup) (ti : ∀ q, q ∈ L → IsT P w s.heap q.2 q.1) (pl : t.plain = true) (ld : w.params.followText "set-order" = true ∨ t.led = true) (fw : L.length < 1000) {wd M : Nat}
    (e1 : SetTable.sizeAbove wd = M + 1) (e2 : Mk M) (e3 : L.length * 5 < M * 3) {Q : Unit → Shared → Prop}
    (hQ : ∀ h2 L2 es2 n2 t2, Heap.SameBut a s.heap h2 → SR P w h2 a L2 es2 n2 t2 → L2.Perm L → Q () { s with heap := h2 }) : wpAny (model P w) A (setRelay a wd) Q E s := by
  have zl := rows_size er
  have hM := mk_le e2
  obtain ⟨t2, od, b1, b2, b3, b4, b5, b6⟩ := rl_all t (hs := es.map fun p => p.1) (wanted := wd) (M := M) (by omega) e2 (by rw [Array.size_map, zl]; omega)
  rw [Array.size_map, zl] at b2
  obtain ⟨L2, c1, c2, c3⟩ := order_rows L es od er b2
  have b3 : Tb t2 (L2.map fun q => thash P w q.2) := by rw [c3]; exact b3
  have cz : (od.filterMap fun i => es[i]?).size = es.size := by
    rw [rows_size (L := L2) c1, c2.length_eq, zl]
  rw [setRelay_eq]
  refine wpAny_bind (wpAny_setState_of go gd (fits_of dm ez hm) ?_)
  dsimp only
  refine wp_if_neg (by rw [e1, sizeLine_eq]; omega) ?_
  try refine wpAny_bind (wpAny_pure ?_)
  rw [b1]
  dsimp only
  refine wpAny_bind ?_
  refine wp_if_neg (by rw [cz]; simp) ?_
  try refine wpAny_bind (wpAny_pure ?_)
  refine wpAny_pure ?_
  dsimp only
  refine wpAny_storeSet_of go gd ?_ (by rw [cz, zl, sizeLine_eq]; omega)
  have sb : Heap.SameBut a s.heap (s.heap.update a (Obj.putSet (od.filterMap fun i => es[i]?) t2)) := Heap.SameBut.update ..
  refine hQ _ L2 _ (n + 1) t2 sb ⟨⟨_, store_at go gd, ⟨ge.1, ge.2.1, ge.2.2⟩, rfl⟩, c1, b3, (c2.map _).nodup_iff.mpr nd, fun q hq => isT_same (ti q (c2.mem_iff.mp hq)) go gd sb, by rw [b6]; exact pl, by rw [b5]; exact ld, ?_, ?_⟩ c2
  · rw [c2.length_eq, b4]
    exact e3
  · rw [c2.length_eq]
    exact fw
theorem sz_308 : SetTable.sizeAbove (SetTable.grown 77) = 511 + 1 := by decide +kernel
theorem sz_1228 : SetTable.sizeAbove (SetTable.grown 307) = 2047 + 1 := by decide +kernel
theorem sz_20 : SetTable.sizeAbove (SetTable.grown 5) = 31 + 1 := by decide +kernel
theorem sz_76 : SetTable.sizeAbove (SetTable.grown 19) = 127 + 1 := by decide +kernel
/-- which mask comes behind which -/
theorem grows {m l : Nat} (hm : Mk m) (h1 : l * 5 < m * 3) (h2 : m * 3 ≤ (l + 1) * 5) (h3 : l < 1000) : ∃ M, SetTable.sizeAbove (SetTable.grown (l + 1)) = M + 1 ∧ Mk M ∧ (l + 1) * 5 < M * 3 ∧ l + 1 ≤ m := by
  rcases hm with rfl | rfl | rfl | rfl | rfl
  · obtain rfl : l = 4 := by omega
    exact ⟨31, sz_20, .inr (.inl rfl), by decide, by decide⟩
  · obtain rfl : l = 18 := by omega
    exact ⟨127, sz_76, .inr (.inr (.inl rfl)), by decide, by decide⟩
  · obtain rfl : l = 76 := by omega
    exact ⟨511, sz_308, .inr (.inr (.inr (.inl rfl))), by decide, by decide⟩
  · obtain rfl : l = 306 := by omega
    exact ⟨2047, sz_1228, .inr (.inr (.inr (.inr rfl))), by decide, by decide⟩
  · omega
/-- a tuple is added -/
theorem sr_add (R : SR P w s.heap a L es n t) {x : Addr} {k : List Int} (hx : IsT P w s.heap k x) (hu : A.units < cLine) (hf : L.length + 1 < 1000) {Q : Bool → Shared → Prop}
    (hQ : ∀ b h2 L2 es2 n2 t2, Heap.SameBut a s.heap h2 → SR P w h2 a L2 es2 n2 t2 → ((k ∈ L.map fun q => q.2) → L2 = L) → ((¬ k ∈ L.map fun q => q.2) → L2.Perm ((x, k) :: L)) → Q b { s with heap := h2 }) :
    wpAny (model P w) A (setAddHashed a (.ref x) (thash P w k)) Q E s := by
  obtain ⟨o, go, ge, gd⟩ := R.obj
  have zl := rows_size R.row
  generalize eh : thash P w k = hv
  unfold setAddHashed
  refine wpAny_holding ?_
  rw [show (100000 : Nat) = 99999 + 1 from rfl, setAddHashedIn_succ]
  refine wpAny_bind (wpAny_setState_of go gd R.fits ?_)
  dsimp only
  refine wp_if_neg (by simp [byScan, Value.scannable]) ?_
  try refine wpAny_bind (wpAny_pure ?_)
  refine wpAny_bind (sr_search R eh hx hu (fun z => wpAny_pure (hQ false s.heap L es n t (Heap.SameBut.refl a s.heap) R (fun _ => rfl) fun y => absurd z y)) fun K z ho hb => ?_)
  dsimp only
  refine wpAny_bind (wpAny_setState_of go gd R.fits ?_)
  dsimp only
  obtain ⟨lp, T1⟩ := R.tb.put ho hb
  have pl1 : (t.put (way t.mask hv K)).1.plain = true := R.pl
  have ld1 : w.params.followText "set-order" = true ∨ (t.put (way t.mask hv K)).1.led = true := R.ld
  have mk1 : (t.put (way t.mask hv K)).1.mask = t.mask := rfl
  have ep1 : (t.put (way t.mask hv K)).2 = SetTable.below t.place (way t.mask hv K) := rfl
  have ins : (SetTable.insertAt es (SetTable.below t.place (way t.mask hv K)) (hv, Value.ref x)).toList = rowsOf P w (L.take (SetTable.below t.place (way t.mask hv K)) ++ (x, k) :: L.drop (SetTable.below t.place (way t.mask hv K))) := by
    rw [SetTable.toList_insertAt, rows_put, R.row, eh]
  generalize SetTable.below t.place (way t.mask hv K) = b at lp T1 ep1 ins
  generalize t.put (way t.mask hv K) = tp at T1 pl1 ld1 mk1 ep1 ⊢
  obtain ⟨t1, b'⟩ := tp
  dsimp only at T1 pl1 ld1 mk1 ep1 ⊢
  subst ep1
  first
    | (refine wpAny_bind ?_; refine wp_if_pos pl1 ?_; refine hashBy_tup hx ?_)
    | refine wp_if_pos pl1 (wpAny_bind (hashBy_tup hx ?_))
  simp only [if_true]
  have pm := put_perm L b' (x, k)
  have T1 : Tb t1 ((L.take b' ++ (x, k) :: L.drop b').map fun q => thash P w q.2) := by
    rw [List.map_append, List.map_cons, List.map_take, List.map_drop, eh]
    exact T1
  generalize L.take b' ++ (x, k) :: L.drop b' = L1 at pm T1 ins
  have l1 : L1.length = L.length + 1 := pm.length_eq
  have z1 := rows_size ins
  generalize SetTable.insertAt es b' (hv, Value.ref x) = es1 at ins z1 ⊢
  have nd1 : (L1.map fun q => q.2).Nodup := (pm.map _).nodup_iff.mpr (List.nodup_cons.mpr ⟨z, R.nd⟩)
  refine wpAny_bind (wpAny_storeSet_of go gd ?_ (by rw [z1, l1, sizeLine_eq]; omega))
  have sb : Heap.SameBut a s.heap (s.heap.update a (Obj.putSet es1 t1)) := Heap.SameBut.update ..
  have go1 := store_at (es' := es1) (t' := t1) go gd
  generalize s.heap.update a (Obj.putSet es1 t1) = h1 at sb go1 ⊢
  have ti1 : ∀ q, q ∈ L1 → IsT P w h1 q.2 q.1 := fun q hq => by
    rcases List.mem_cons.mp (pm.mem_iff.mp hq) with rfl | hq
    · exact isT_same hx go gd sb
    · exact isT_same (R.isT q hq) go gd sb
  have pz : t1.place.size = es1.size := by rw [T1.sz, List.length_map, z1]
  have hfill : t1.fill = L.length + 1 := by
    show t1.place.size + t1.dummies.size = _
    rw [T1.dm, pz, z1, l1]
    rfl
  have full : t1.tooFull = decide (t1.fill * 5 ≥ t1.mask * 3) := rfl
  rw [hfill] at full
  have hr := R.room
  by_cases hg : t1.tooFull = true
  · first
      | (refine wpAny_bind ?_; refine wp_if_pos (by simp [hg]) ?_)
      | (refine wp_if_pos (by simp [hg]) ?_; refine wpAny_bind ?_)
    rw [full, decide_eq_true_eq, mk1] at hg
    rw [zl]
    obtain ⟨M, g1, g2, g3, g4⟩ := grows R.tb.mok hr hg (by omega)
    refine sr_relay (s := { s with heap := h1 }) go1 ⟨ge.1, ge.2.1, ge.2.2⟩ rfl ins pz T1.dm (by rw [z1, l1, mk1]; exact g4) nd1 ti1 pl1 ld1 (by rw [l1]; exact hf) g1 g2 (by rw [l1]; exact g3) fun h2 L2 es2 n2 t2 sb2 R2 pm2 => ?_
    exact wpAny_pure (hQ true h2 L2 es2 n2 t2 (sb.trans sb2) R2 (fun y => absurd y z) fun _ => pm2.trans pm)
  · first
      | refine wp_if_neg (by simp [hg]) ?_
      | (refine wpAny_bind ?_; refine wp_if_neg (by simp [hg]) ?_; refine wpAny_pure ?_)
    have hg' : ¬ (L.length + 1) * 5 ≥ t1.mask * 3 := fun y => hg (by rw [full]; exact decide_eq_true y)
    exact wpAny_pure (hQ true h1 L1 es1 (n + 1) t1 sb ⟨⟨_, go1, ⟨ge.1, ge.2.1, ge.2.2⟩, rfl⟩, ins, T1, nd1, ti1, pl1, ld1, by rw [l1]; omega, by rw [l1]; exact hf⟩ (fun y => absurd y z) fun _ => pm)
end
end MM
namespace MM
open PySem L2
open PySem.Spec PyProof.Rows
/-! ### set(xs) of a list of up to a thousand tuples, and sorted of it -/
section
variable {P : Program} {w : World} {A : Around} {E : Value → Shared → Prop} {s : Shared} {a : Addr} {L : List (Addr × List Int)} {es : Array (Int × Value)} {n : Nat} {t : SetTable}
theorem SR.keep {h1 h2 : Heap} (R : SR P w h1 a L es n t) (ka : ∀ o, h1.get? a = some o → h2.get? a = some o) (kt : ∀ q, q ∈ L → IsT P w h2 q.2 q.1) : SR P w h2 a L es n t :=
  let ⟨o, go, r⟩ := R.obj
  ⟨⟨o, ka o go, r⟩, R.row, R.tb, R.nd, kt, R.pl, R.ld, R.room, R.few⟩
abbrev newSet (w : World) : Obj := { cls := .type "set", dict := none, data := .set #[] 0 (.fresh 0 0 (!w.params.followText "set-order")) }
theorem sr_new {hp : Heap} (e : hp.get? a = some (newSet w)) : SR P w hp a [] #[] 0 (.fresh 0 0 (!w.params.followText "set-order")) := by
  have T : Tb (.fresh 0 0 (!w.params.followText "set-order")) (([] : List (Addr × List Int)).map fun q => thash P w q.2) :=
    { ris := List.Pairwise.nil, dm := rfl, sz := rfl, mok := .inl rfl, bd := (fun x hx => by cases hx), reach := (fun i h j hi _ => by simp at hi) }
  refine ⟨⟨_, e, ⟨rfl, rfl, rfl⟩, rfl⟩, rfl, T, List.nodup_nil, (fun q hq => nomatch hq), rfl, ?_, (by show 0 * 5 < 7 * 3; decide), (by show 0 < 1000; decide)⟩
  show _ ∨ (!w.params.followText "set-order") = true
  cases w.params.followText "set-order"
  · exact .inr rfl
  · exact .inl rfl
/-- the loop of set.update -/
theorem sr_loop {I : Addr} {fp wr : List Addr} {G : Array GenState → Array GenState → Prop} {m : Nat} {Pv : Nat → Value → Prop} {St : Nat → Shared → Prop} {R : Result → Shared → Prop}
    (W : WalksS P w A.in1 I fp wr G m Pv St) (S : Addr) (nS : ¬ S ∈ fp) (ks : List (Addr × List Int)) (em : m = ks.length) (fw : ks.length < 999) (at_ : ∀ i v, Pv i v → ∃ q, ks[i]? = some q ∧ v = .ref q.1)
    (h0 : Heap) (kt : ∀ q, q ∈ ks → IsT P w h0 q.2 q.1) (eS : h0.get? S = none) (ew : ∀ b, b ∈ wr → h0.get? b = none) (hu : A.in1.units < cLine) :
    ∀ (d i : Nat) (s : Shared), i + d = m → St i s → (∀ b o, h0.get? b = some o → s.heap.get? b = some o) → (∃ L es n t, SR P w s.heap S L es n t ∧ Got ks i L) →
      (∀ s2 L es n t, Moved (S :: wr) G s s2 → SR P w s2.heap S L es n t → Got ks m L → (∀ b o, h0.get? b = some o → s2.heap.get? b = some o) → R (.ok (.ret .none)) s2) →
      codeAny (model P w) A (.builtin "set.update.loop" ⟨[.ref S, .ref I], []⟩) R s := by
  have nw : ¬ S ∈ wr := fun h => nS (W.sub _ h)
  have up : ∀ b, b ∈ wr → b ∈ S :: wr := fun b hb => List.mem_cons_of_mem _ hb
  have kept : ∀ {s1 s2 : Shared}, Moved wr G s1 s2 → (∀ b o, h0.get? b = some o → s1.heap.get? b = some o) → ∀ b o, h0.get? b = some o → s2.heap.get? b = some o := fun mv k b o e => by
    refine mv.heap b o (fun hb => ?_) (k b o e)
    rw [ew b hb] at e
    cases e
  have inK : ∀ {L i}, Got ks i L → ∀ q, q ∈ L → IsT P w h0 q.2 q.1 := fun g q hq => kt q (List.mem_of_mem_take (g.sub q hq))
  intro d
  induction d with
  | zero =>
    intro i s ei st k0 ⟨L, es, n, t, hS, g⟩ fin
    obtain rfl : i = m := by omega
    refine codeAny_builtin F.entry_set_update_loop ?_
    rw [Around.under_plainId F.plain_set_update_loop _]
    show wpAny _ A.in1 (pyNext (.ref I) >>= _) _ _ _
    refine wpAny_bind (W.done s _ _ st fun s2 mv => ?_)
    show wpAny _ A.in1 (ret Value.none) _ _ _
    have k2 := kept mv k0
    exact wpAny_pure (fin s2 L es n t (mv.mono up) (hS.keep (fun o e => mv.heap S o nw e) fun q hq => isT_keep (inK g q hq) k2) g k2)
  | succ d ih =>
    intro i s ei st k0 ⟨L, es, n, t, hS, g⟩ fin
    refine codeAny_builtin F.entry_set_update_loop ?_
    rw [Around.under_plainId F.plain_set_update_loop _]
    show wpAny _ A.in1 (pyNext (.ref I) >>= _) _ _ _
    refine wpAny_bind (W.item i s _ _ (by omega) st fun v s1 hv st1 mv => ?_)
    obtain ⟨q, eq1, rfl⟩ := at_ i v hv
    have k1 := kept mv k0
    have hS1 : SR P w s1.heap S L es n t := hS.keep (fun o e => mv.heap S o nw e) fun p hp => isT_keep (inK g p hp) k1
    have hx : IsT P w s1.heap q.2 q.1 := isT_keep (kt q (List.mem_of_getElem? eq1)) k1
    show wpAny _ A.in1 (holding [Value.ref q.1] (setAdd S (.ref q.1)) >>= _) _ _ _
    refine wpAny_bind (wpAny_holding ?_)
    unfold setAdd
    refine wpAny_holding ?_
    refine wpAny_bind (wpAny_pyHash_tuple hu hx ?_)
    refine sr_add (s := { s1 with toks := s1.toks + (q.2.length + 1) }) hS1 hx hu (by have := g.len; omega) fun b h2 L2 es2 n2 t2 sb R2 c1 c2 => ?_
    have g2 : Got ks (i + 1) L2 := by
      by_cases c : q.2 ∈ L.map fun p => p.2
      · rw [c1 c]
        exact g.same eq1 c
      · exact g.more eq1 (c2 c)
    have k2 : ∀ b o, h0.get? b = some o → h2.get? b = some o := fun b o e => by
      rw [sb.2 b fun z => by rw [z, eS] at e; cases e]
      exact k1 b o e
    refine wpAny_pure ⟨plainId_quiet F.plain_set_update_loop _, ih (i + 1) _ (by omega) (W.frame _ s1 _ _ st1 (Nat.le_add_right _ _) fun b hb o e => ?_) k2 ⟨L2, es2, n2, t2, R2, g2⟩ fun s3 L3 es3 n3 t3 mv3 R3 g3 k3 => ?_⟩
    · rw [sb.2 b fun z : b = S => nS (by rw [← z]; exact hb)]
      exact e
    · refine fin s3 L3 es3 n3 t3 (Moved.trans W.gtrans ((mv.mono up).then_heap (Nat.le_add_right _ _) fun b o hb e => ?_) mv3) R3 g3 k3
      rw [sb.2 b fun z : b = S => hb (by rw [z]; exact List.mem_cons_self)]
      exact e
/-- set(xs) -/
theorem call_setL {l : Addr} {items : Array Value} (ks : List (Addr × List Int)) {Q : Value → Shared → Prop} (nh : A.handled = none) (hl : s.heap.IsList l items) (ei : items.toList = ks.map fun q => Value.ref q.1)
    (kt : ∀ q, q ∈ ks → IsT P w s.heap q.2 q.1) (fw : ks.length < 999) (hu : A.units + 3 < cLine)
    (fin : ∀ (h2 : Heap) (tk : Nat) L es n t, SR P w h2 s.heap.objs.size L es n t → Got ks ks.length L → (∀ b o, s.heap.get? b = some o → h2.get? b = some o) → Q (.ref s.heap.objs.size) { s with heap := h2, toks := tk }) :
    wpAny (model P w) A (call (.type "set") [.ref l]) Q E s := by
  have zi : items.size = ks.length := by
    rw [← Array.length_toList, ei]
    exact List.length_map ..
  obtain ⟨c0, c1, hm⟩ := F.called_set.mro
  have f1 := F.called_set.made
  have f2 := F.called_set.sub
  refine wpAny_call (codeAny_of_tree ?_)
  show wpAny _ _ (callAny (.type "set") _) _ _ _
  refine wpAny_pure ⟨Code.quiet_builtin _ (by decide +kernel), codeAny_builtin PySem.F.entry_type_call ?_⟩
  rw [Around.under_plain (weight_type_call_type "set" [.ref l] []) rfl]
  have f3 := F.called_set.notType
  have f4 := F.called_set.canCreate
  have f5 := F.typeCall_set_1 (.ref l)
  repeat (any_goals (first | assumption | wp_step))
  refine codeAny_mono (code_set_led1 (.ref l) (E := E) (Q₁ := fun x s1 => x = .ref s.heap.objs.size ∧ s1 = { s with heap := s.heap.push (newSet w) }) ⟨rfl, rfl⟩) fun r s1 hr => ?_
  cases r with
  | error e => exact hr
  | ok fl =>
    cases fl with
    | ret obj =>
      obtain ⟨rfl, rfl⟩ := hr
      have gS : (s.heap.push (newSet w)).get? s.heap.objs.size = some (newSet w) := Heap.get?_push_size _ rfl
      have tS : Shared.TypeIs { s with heap := s.heap.push (newSet w) } (.ref s.heap.objs.size) "set" := ⟨_, gS, rfl⟩
      have f6 := F.called_set.init.lookup
      have f7 := F.called_set.init.bind (.ref s.heap.objs.size)
      repeat (any_goals (first | assumption | wp_step))
      refine codeAny_mono (codeAny_call_builtin (R := wants (fun r s2 => r = .none ∧ ∃ h2 tk L es n t, s2 = { s with heap := h2, toks := tk } ∧ SR P w h2 s.heap.objs.size L es n t ∧ Got ks ks.length L ∧ ∀ b o, s.heap.get? b = some o → h2.get? b = some o) E) F.called_set.init.plain F.entry_set_init (check_set_init_1 tS ?_)) fun r2 s2 hr2 => ?_
      · obtain ⟨ol, gl, cl, nl, dl⟩ := hl
        obtain ⟨oc, od, odt, osl⟩ := ol
        simp only at cl dl
        subst cl; subst dl
        have gl2 : (s.heap.push (newSet w)).get? l = some { cls := .type "list", dict := od, data := .seq items nl, slots := osl } := Heap.get?_push_of_some _ gl
        have u1 := F.sub_list_set
        have u2 := F.sub_list_frozenset
        have u3 : (Value.type "list" == Value.type "dict") = false := by decide
        have hl2 : (s.heap.push (newSet w)).IsList l items := ⟨_, gl2, rfl, nl, rfl⟩
        unfold Builtin.«set.__init__» noKeywords Builtin.Frozenset.updateFrom
        generalize hPI : pyIter = PI
        wp_walk
        subst hPI
        refine wpAny_pyIter_list hl2 ?_
        refine wpAny_bind (wpAny_runValue ?_)
        have ls : l < s.heap.objs.size := Heap.lt_size gl
        have nh3 : A.in1.in1.in1.handled = none := by simp [nh]
        have nlI : l ≠ (s.heap.push (newSet w)).objs.size := by
          rw [Heap.size_push]
          exact Nat.ne_of_lt (Nat.lt_succ_of_lt ls)
        have nS : ¬ s.heap.objs.size ∈ [(s.heap.push (newSet w)).objs.size, l] := by
          rw [Heap.size_push]
          simp only [List.mem_cons, List.not_mem_nil, or_false, not_or]
          exact ⟨Nat.ne_of_lt (Nat.lt_succ_self _), Nat.ne_of_gt ls⟩
        have at_ : ∀ (i : Nat) (v : Value), items[i]? = some v → ∃ q, ks[i]? = some q ∧ v = .ref q.1 := fun i v hv => by
          have z : (ks.map fun q => Value.ref q.1)[i]? = some v := by
            rw [← ei, Array.getElem?_toList]
            exact hv
          rw [List.getElem?_map] at z
          obtain ⟨q, e1, e2⟩ := Option.map_eq_some_iff.mp z
          exact ⟨q, e1, e2.symm⟩
        have above : ∀ b, s.heap.objs.size ≤ b → s.heap.get? b = none := fun b hb => Heap.get?_none_of_le hb
        refine sr_loop ((Walks.list nh3 _ l nlI items).toS) s.heap.objs.size nS ks zi fw at_ s.heap kt (above _ (Nat.le_refl _)) (fun b hb => above b (by
            rw [List.mem_singleton.mp hb, Heap.size_push]
            omega)) hu items.size 0 _ (by omega)
          ⟨⟨_, Heap.get?_push_size _ rfl, rfl, rfl⟩, (hl2.push _)⟩ (fun b o e => Heap.get?_push_of_some _ (Heap.get?_push_of_some _ e)) ?start ?done
        case start =>
          have g2 : ((s.heap.push (newSet w)).push { cls := .type "list_iterator", data := .fields #[.ref l, .int 0 0] }).get? s.heap.objs.size = some (newSet w) := Heap.get?_push_of_some _ gS
          exact ⟨[], #[], 0, _, sr_new g2, Got.zero ks⟩
        case done =>
          intro s2 L es n t mv R2 g2 k2
          obtain ⟨hp2, gg2, dd2, tk2, os2⟩ := s2
          have e1 : gg2 = s.gens := mv.gens
          have e2 : dd2 = s.drawn := mv.drawn
          have e3 : os2 = s.os := mv.os
          subst e1; subst e2; subst e3
          show wpAny _ _ _ _ _ _
          refine wpAny_pure ?_
          show wpAny _ _ (ret Value.none) _ _ _
          rw [zi] at g2
          exact wpAny_pure ⟨rfl, hp2, tk2, L, es, n, t, rfl, R2, g2, k2⟩
      · cases r2 with
        | error e => exact hr2
        | ok fl2 =>
          cases fl2 with
          | ret r =>
            obtain ⟨rfl, h2, tk, L, es, n, t, rfl, R2, g2, k2⟩ := hr2
            repeat (any_goals (first | assumption | wp_step))
            exact fin _ _ _ _ _ _ R2 g2 k2
          | _ => exact hr2.elim
    | _ => exact hr.elim
end
end MM
namespace MM
open PySem L2
open PySem.Spec PyProof.Rows
/-! ### any number of tuples sorted by their code -/
section
variable {P : Program} {w : World} {A : Around} {E : Value → Shared → Prop} {s : Shared}
def rkB (r : Value → Int) : Value → Value → Bool := fun u v => decide (r u < r v)
theorem rk_no {r : Value → Int} {u v : Value} : rkB r u v = false ↔ r v ≤ r u := by
  unfold rkB
  rw [decide_eq_false_iff_not]
  omega
theorem rk_swo (r : Value → Int) : SrtO.Swo (rkB r) := by
  refine ⟨fun x y h => rk_no.mpr (Int.le_of_lt (of_decide_eq_true h)), fun x y z h1 h2 => ?_⟩
  have a1 := rk_no.mp h1
  have a2 := rk_no.mp h2
  exact rk_no.mpr (Int.le_trans a1 a2)
/-- what tuples are compared by -/
structure Rkd (hp : Heap) (d : Nat) (B : Int) (vs : List Value) (r : Value → Int) : Prop where
  ok : TS.TupsOk hp d B vs
  rk : ∀ v, v ∈ vs → ∀ ks, TS.TupInts hp v ks → r v = TS.code B ks
theorem Rkd.keep {h1 h2 : Heap} {d : Nat} {B : Int} {vs : List Value} {r : Value → Int} (K : Rkd h1 d B vs r) (k : ∀ b o, h1.get? b = some o → o.cls = .type "tuple" → h2.get? b = some o) : Rkd h2 d B vs r := by
  refine ⟨K.ok.keeps k, fun v hv ks t => ?_⟩
  obtain ⟨ks0, t0, _⟩ := K.ok v hv
  rw [← t.ints, (t0.keeps k).ints]
  exact K.rk v hv ks0 t0
theorem rk_cmp {d : Nat} {B : Int} {vs : List Value} {r : Value → Int} (K : Rkd s.heap d B vs r) : SrtO.Cmp P w A s (tuples' true) (fun p => p.1 ∈ vs) (SrtO.lt2 (rkB r)) := by
  rintro ⟨u, u'⟩ ⟨v, v'⟩ hu hv
  have hu : u ∈ vs := hu
  have hv : v ∈ vs := hv
  obtain ⟨k1, t1, l1, b1⟩ := K.ok u hu
  obtain ⟨k2, t2, l2, b2⟩ := K.ok v hv
  have e1 := K.rk u hu k1 t1
  have e2 := K.rk v hv k2 t2
  show wpAny (model P w) A (keyLt' (tuples' true) u v) (fun x s' => s' = s ∧ x = decide (r u < r v)) (fun _ _ => False) s
  rw [e1, e2]
  obtain ⟨p, xs, rfl, ⟨o, go, gc, m, gd⟩, i1⟩ := t1
  obtain ⟨q, ys, rfl, ⟨o', go', gc', m', gd'⟩, i2⟩ := t2
  refine PySem.W.kat_lt go gd go' gd' ?_
  have z1 := i1.length
  have z2 := i2.length
  rw [Array.length_toList] at z1 z2
  rw [decide_eq_false (show ¬ xs.size < ys.size by omega)]
  exact TS.lex_ints 0 i1 i2 (by omega) b1 b2 ⟨rfl, rfl⟩
theorem rk_able {d : Nat} {B : Int} {vs : List Value} {r : Value → Int} {a : Addr} (K : Rkd s.heap d B vs r) (hd : 1 ≤ d) (h0 : 0 < vs.length) (na : ∀ o, s.heap.get? a = some o → o.cls ≠ .type "tuple") : SrtO.SortableO P w A s a vs (rkB r) := by
  intro h2 k
  have K2 : Rkd h2 d B vs r := K.keep fun b o e c => k b o (fun z => by rw [z] at e; exact na o e c) e
  obtain ⟨fs, f1, f2, f3⟩ := TS.firsts_of hd vs K2.ok
  refine ⟨tuples' true, fun Q E hq => ?_, rk_cmp (s := { s with heap := h2 }) K2⟩
  refine PySem.W.kat_kind (T := .type "int") f1 (by omega) (fun f hf => ?_) (by rfl) hq
  obtain ⟨x, t, rfl⟩ := f3 f hf
  exact PySem.W.Looks.now
theorem tupI_of {hp : Heap} {k : List Int} {b : Addr} (h : IsT P w hp k b) : TS.TupInts hp (.ref b) k := L2.tupInts_of h
/-- sorted(xs) of a set of tuples -/
theorem sorted_sr {a : Addr} {L : List (Addr × List Int)} {es : Array (Int × Value)} {n : Nat} {t : SetTable} {Q : Value → Shared → Prop} (R : SR P w s.heap a L es n t) (nh : A.handled = none) {d : Nat} {B : Int} (hd : 1 ≤ d) (hB : ∀ q, q ∈ L → q.2.length = d ∧ TS.Bd B q.2)
    (fin : ∀ s2 p (out : Array Value) (c : Nat) (L2 : List (Addr × List Int)), (∀ b o, s.heap.get? b = some o → s2.heap.get? b = some o) → s2.gens = s.gens → s2.os = s.os → s.heap.objs.size ≤ p → s2.heap.get? p = some (seqObj "list" out c) →
      out.toList = (L2.map fun q => Value.ref q.1) → L2.Perm L → (L2.Pairwise fun q r => TS.code B q.2 ≤ TS.code B r.2) → Q (.ref p) s2) :
    wpAny (model P w) A (call (.builtin "sorted") [.ref a]) Q E s := by
  obtain ⟨o, go, ge, gd⟩ := R.obj
  have zl := rows_size R.row
  have fw := R.few
  refine Calls.call_function_entry kind_sorted plain_sorted entry_sorted (args_sorted1 _) ?_
  unfold Builtin.«sorted»
  refine wpAny_bind (m := checkCount "sorted" 1 1 _) (wpAny_pure ?_)
  refine wpAny_bind (collect_set (A := A.in1) nh ⟨o, go, ge.1, gd⟩ R.fits (by unfold scanBound; omega) R.tb.ris R.ld fun s1 vs k1 z1 g1 o1 pm => ?_)
  have ev : (es.toList.map fun p => p.2) = L.map fun q => Value.ref q.1 := by
    rw [R.row]
    exact List.map_map
  rw [ev] at pm
  have inL : ∀ us : List Value, (∀ v, v ∈ us → ∃ q, q ∈ L ∧ v = Value.ref q.1) → ∃ M : List (Addr × List Int), us = (M.map fun q => Value.ref q.1) ∧ ∀ q, q ∈ M → q ∈ L := by
    intro us
    induction us with
    | nil => exact fun _ => ⟨[], rfl, fun q hq => nomatch hq⟩
    | cons v us ih =>
      intro h
      obtain ⟨q, hq, e⟩ := h v List.mem_cons_self
      obtain ⟨M, e1, e2⟩ := ih fun u hu => h u (List.mem_cons_of_mem _ hu)
      refine ⟨q :: M, by rw [e, e1]; rfl, fun p hp => ?_⟩
      rcases List.mem_cons.mp hp with rfl | hp
      · exact hq
      · exact e2 p hp
  have uniq : ∀ q, q ∈ L → ∀ p, p ∈ L → q.1 = p.1 → q = p := fun q hq p hp e => by
    have t1 := R.isT q hq
    rw [e] at t1
    exact Prod.ext e (t1.inj (R.isT p hp))
  have nL : L.Nodup := nodup_of_map R.nd
  have nR : (L.map fun q => Value.ref q.1).Nodup := by
    refine List.pairwise_map.mpr (nL.imp_of_mem fun hq hp ne e => ?_)
    injection e with e
    exact ne (uniq _ hq _ hp e)
  have vl : vs.length = L.length := by rw [pm.length_eq, List.length_map]
  refine wpAny_bind (wpAny_newList ?_ (by rw [sizeLine_eq]; omega))
  have gL : (s1.heap.push (seqObj "list" vs.toArray 0)).get? s1.heap.objs.size = some (seqObj "list" vs.toArray 0) := Heap.get?_push_size _ rfl
  have tk : ∀ q, q ∈ L → TS.TupInts (s1.heap.push (seqObj "list" vs.toArray 0)) (.ref q.1) q.2 := fun q hq => tupI_of (P := P) (w := w) (isT_keep (R.isT q hq) fun b u e => Heap.get?_push_of_some _ (k1 b u e))
  have vm : ∀ v, v ∈ vs → ∃ q, q ∈ L ∧ v = Value.ref q.1 := fun v hv => by
    obtain ⟨q, hq, e⟩ := List.mem_map.mp (pm.mem_iff.mp hv)
    exact ⟨q, hq, e.symm⟩
  have K : Rkd (s1.heap.push (seqObj "list" vs.toArray 0)) d B vs (fun v => TS.code B (TS.intsOf (s1.heap.push (seqObj "list" vs.toArray 0)) v)) := by
    refine ⟨fun v hv => ?_, fun v hv ks t => by rw [t.ints]⟩
    obtain ⟨q, hq, rfl⟩ := vm v hv
    exact ⟨q.2, tk q hq, (hB q hq).1, (hB q hq).2⟩
  refine wpAny_bind (wpAny_holding (wpAny_call_entry slot_list_sort ⟨_, gL, rfl⟩ entry_list_sort (SrtO.list_sort_ord (s := { s1 with heap := s1.heap.push (seqObj "list" vs.toArray 0) }) (rk_swo _) gL (by rw [sizeLine_eq]; omega)
    (fun h2 => rk_able (s := { s1 with heap := s1.heap.push (seqObj "list" vs.toArray 0) }) K hd (by omega) fun u e => ?_) fun out hs hb => ⟨_, rfl, ?_⟩) (args_list_sort _)))
  · have e' : some (seqObj "list" vs.toArray 0) = some u := gL.symm.trans e
    cases e'
    intro c
    exact absurd (Value.type.inj c) (by decide)
  obtain ⟨c, hc⟩ := sortedHeap_at (vs := vs) (out := out.toArray) gL
  have pv : out.Perm vs := hb.perm
  obtain ⟨M, e1, e2⟩ := inL out fun v hv => vm v (pv.mem_iff.mp hv)
  have pM : M.Perm L := by
    have pr : (M.map fun q => Value.ref q.1).Perm (L.map fun q => Value.ref q.1) := by
      rw [← e1]
      exact pv.trans pm
    refine (List.perm_ext_iff_of_nodup (nodup_of_map (pr.nodup_iff.mpr nR)) nL).mpr fun q => ⟨e2 q, fun hq => ?_⟩
    obtain ⟨p, hp, e⟩ := List.mem_map.mp (pr.mem_iff.mpr (List.mem_map.mpr ⟨q, hq, rfl⟩))
    injection e with e
    rw [← uniq p (e2 p hp) q hq e]
    exact hp
  have pw : M.Pairwise fun q r => TS.code B q.2 ≤ TS.code B r.2 := by
    rw [e1] at hs
    refine (List.pairwise_map.mp hs).imp_of_mem fun {q p} hq hp h => ?_
    have h := rk_no.mp h
    rw [(tk q (e2 q hq)).ints, (tk p (e2 p hp)).ints] at h
    exact h
  refine wpAny_pure ⟨_, rfl, fin _ s1.heap.objs.size out.toArray c M (fun b u e => ?_) g1 o1 z1 hc e1 pM pw⟩
  have q := k1 b u e
  have lt := Heap.lt_size q
  show (sortedHeap (s1.heap.push (seqObj "list" vs.toArray 0)) s1.heap.objs.size vs out.toArray).get? b = some u
  rw [sortedHeap_old (Nat.ne_of_lt lt) (by rw [size_push']; exact Nat.lt_succ_of_lt lt)]
  exact Heap.get?_push_of_some _ q
end
/-! ### the rules of the layer -/
structure S0 (P : Program) (w : World) (hp : Heap) (a : Addr) (L : List (Addr × List Int)) : Prop where
  ex : ∃ (es : Array (Int × Value)) (n : Nat) (t : SetTable), (∃ o, hp.get? a = some o ∧ (o.ExactSet ∧ o.data = .set es n t)) ∧ es.toList = rowsOf P w L ∧ Tb t (L.map fun q => thash P w q.2) ∧ (L.map fun q => q.2).Nodup ∧ t.plain = true ∧
    (w.params.followText "set-order" = true ∨ t.led = true) ∧ L.length * 5 < t.mask * 3 ∧ L.length < 1000
def SO (P : Program) (w : World) (a : Addr) (L : List (Addr × List Int)) : HO := .ext fun hp => S0 P w hp a L
section
variable {P : Program} {w : World}
theorem SR.s0 {hp : Heap} {a : Addr} {L : List (Addr × List Int)} {es : Array (Int × Value)} {n : Nat} {t : SetTable} (R : SR P w hp a L es n t) : S0 P w hp a L :=
  ⟨es, n, t, R.obj, R.row, R.tb, R.nd, R.pl, R.ld, R.room, R.few⟩
theorem S0.sr {hp : Heap} {a : Addr} {L : List (Addr × List Int)} (h : S0 P w hp a L) (kt : ∀ q, q ∈ L → IsT P w hp q.2 q.1) : ∃ es n t, SR P w hp a L es n t := by
  obtain ⟨es, n, t, h1, h2, h3, h4, h5, h6, h7, h8⟩ := h.ex
  exact ⟨es, n, t, h1, h2, h3, h4, kt, h5, h6, h7, h8⟩
theorem so_new {H : Hp} {hp : Heap} {a : Addr} {L : List (Addr × List Int)} (h : S0 P w hp a L) : ObjOk P w H hp a (SO P w a L) := by
  have ⟨es, n, t, ⟨o, go, r⟩, q⟩ := h
  refine ⟨h, ⟨o, go⟩, fun h1 h2 p k => ?_⟩
  have ⟨es', n', t', ⟨o', go', r'⟩, q'⟩ := S0.ex p
  exact ⟨es', n', t', ⟨o', k o' go', r'⟩, q'⟩
end
section
variable {X : Cx}
/-- set(xs), xs a list of fewer than 999 tuples of whole numbers -/
def rSetU (K : PySem.W.Frag) (P : Program) (w : World) : List V → Hp → VK → Prop := fun vs H Q => ∃ (l : Addr) (ks : List (Addr × List Int)), vs = [V.ref l] ∧ SqL K H l (ks.map fun q => V.ref q.1) ∧ (∀ q, q ∈ ks → SqT K H q.1 (q.2.map V.int)) ∧ ks.length < 999 ∧
  ∀ a L, H a = none → (∀ q, q ∈ L → q ∈ ks) → (∀ q, q ∈ ks → q.2 ∈ L.map fun p => p.2) → (L.map fun p => p.2).Nodup → Q (.ref a) (upd H a (SO P w a L))
theorem cr_setU (hc : X.calm = true) (hu : X.A.units + 64 < cLine) : CallR X (.type "set") (rSetU X.K X.prog X.w) := by
  intro pins s σ H vs us Q I r h
  obtain ⟨l, ks, rfl, hl, hk, hf, q⟩ := h
  rw [Vals.ref1 r]
  obtain ⟨its, rv, pl, hz⟩ := I.list hl
  refine call_setL (P := X.prog) (w := X.w) ks (I.ok.hd hc) pl.isList (by simpa using refs_of_vals rv) (fun p hp => I.isT (hk p hp)) hf (by omega) fun h2 tk L es n t R g k => ?_
  refine ⟨.ref s.heap.objs.size, upd H s.heap.objs.size (SO X.prog X.w s.heap.objs.size L), I.laid (t' := tk) k (Nat.le_refl _) (so_new R.s0), rfl, q _ L (I.hok.fresh (Nat.le_refl _)) (fun p hp => List.mem_of_mem_take (g.sub p hp)) (fun p hp => g.all p ?_) R.nd⟩
  rw [List.take_length]
  exact hp
/-- sorted of such a set, its tuples of d numbers from 0 to below B -/
def rSrtU (K : PySem.W.Frag) (P : Program) (w : World) : List V → Hp → VK → Prop := fun vs H Q => ∃ (a : Addr) (L : List (Addr × List Int)) (d : Nat) (B : Int), vs = [V.ref a] ∧ H a = some (SO P w a L) ∧ (∀ q, q ∈ L → SqT K H q.1 (q.2.map V.int)) ∧ 1 ≤ d ∧
  (∀ q, q ∈ L → q.2.length = d ∧ TS.Bd B q.2) ∧ ∀ (L2 : List (Addr × List Int)) (p : Addr), L2.Perm L → (L2.Pairwise fun q r => TS.code B q.2 ≤ TS.code B r.2) → H p = none → Q (.ref p) (upd H p (.lst (L2.map fun q => V.ref q.1)))
theorem cr_srtU (hc : X.calm = true) : CallR X (.builtin "sorted") (rSrtU X.K X.prog X.w) := by
  intro pins s σ H vs us Q I r h
  obtain ⟨a, L, d, B, rfl, ha, hk, hd, hB, q⟩ := h
  have R0 : S0 X.prog X.w s.heap a L := (I.hok a _ ha).1
  obtain ⟨es, n, t, R⟩ := R0.sr fun p hp => I.isT (hk p hp)
  rw [Vals.ref1 r]
  refine sorted_sr R (I.ok.hd hc) hd hB fun s2 p out c L2 k g o hp hg hout pm pw => ?_
  have few := R.few
  have z : (L2.map fun q => V.ref q.1).length ≤ sizeLine := by
    rw [List.length_map, pm.length_eq, sizeLine_eq]
    omega
  have hn : H p = none := I.hok.fresh hp
  have hv : Vals (L2.map fun q => V.ref q.1) out.toList := by rw [hout]; exact vals_of_refs L2
  have J : Inv X pins σ (upd H p (.lst (L2.map fun q => V.ref q.1))) { s with heap := s2.heap, gens := s2.gens, drawn := s2.drawn, toks := s2.toks } :=
    I.call (ch := []) (Un.laid k hp hn) (I.hok.laid k hp ⟨z, out.toList, c, hv, hg⟩) (by rw [g]; exact I.bare) (fun _ y => nomatch y)
  have e : s2 = { s with heap := s2.heap, gens := s2.gens, drawn := s2.drawn, toks := s2.toks } := by
    cases s2
    cases s
    cases o
    rfl
  rw [e]
  exact ⟨.ref p, _, J, rfl, q L2 p pm pw hn⟩
end
end MM
namespace MM
open PySem L2
open PySem.Spec PyProof.Rows
/-! ### rows of whole numbers by their code -/
theorem code_first {B : Int} : ∀ (u v : List Int) (i : Nat), u.length = v.length → TS.Bd B u → TS.Bd B v → (∀ j, j < i → u[j]? = v[j]?) → (∃ x y, u[i]? = some x ∧ v[i]? = some y ∧ x < y) → TS.code B u < TS.code B v
  | [], _, _, _, _, _, _, ⟨_, _, h, _⟩ => by simp at h
  | _ :: _, [], _, h, _, _, _, _ => by simp at h
  | p :: u, q :: v, 0, hl, hu, hv, _, ⟨x, y, h1, h2, h3⟩ => by
    cases h1
    cases h2
    exact TS.code_lt (by simpa using hl) hu.tail hv.tail h3
  | p :: u, q :: v, i + 1, hl, hu, hv, hj, ⟨x, y, h1, h2, h3⟩ => by
    have e := hj 0 (Nat.succ_pos i)
    cases e
    exact (TS.code_same (by simpa using hl)).mpr (code_first u v i (by simpa using hl) hu.tail hv.tail (fun j h => hj (j + 1) (Nat.succ_lt_succ h)) ⟨x, y, h1, h2, h3⟩)
theorem code_inj {B : Int} : ∀ (u v : List Int), u.length = v.length → TS.Bd B u → TS.Bd B v → TS.code B u = TS.code B v → u = v
  | [], [], _, _, _, _ => rfl
  | [], _ :: _, h, _, _, _ => by simp at h
  | _ :: _, [], h, _, _, _ => by simp at h
  | p :: u, q :: v, hl, hu, hv, e => by
    have hl' : u.length = v.length := by simpa using hl
    rcases Int.lt_trichotomy p q with c | c | c
    · have := TS.code_lt hl' hu.tail hv.tail c
      omega
    · subst c
      have n1 : ¬ TS.code B u < TS.code B v := fun z => by
        have := (TS.code_same (d := p) hl').mpr z
        omega
      have n2 : ¬ TS.code B v < TS.code B u := fun z => by
        have := (TS.code_same (d := p) hl'.symm).mpr z
        omega
      rw [code_inj u v hl' hu.tail hv.tail (by omega)]
    · have := TS.code_lt hl'.symm hv.tail hu.tail c
      omega
/-- two rising lists of the same things -/
theorem srt_same {α : Type} (f : α → Int) : ∀ (u v : List α), (u.Pairwise fun x y => f x < f y) → (v.Pairwise fun x y => f x < f y) → (∀ x, x ∈ u ↔ x ∈ v) → u = v
  | [], v, _, _, h => by
    cases v with
    | nil => rfl
    | cons y v => exact absurd ((h y).mpr List.mem_cons_self) (by simp)
  | x :: u, [], _, _, h => absurd ((h x).mp List.mem_cons_self) (by simp)
  | x :: u, y :: v, hu, hv, h => by
    obtain ⟨u1, u2⟩ := List.pairwise_cons.mp hu
    obtain ⟨v1, v2⟩ := List.pairwise_cons.mp hv
    have e : x = y := by
      rcases List.mem_cons.mp ((h x).mp List.mem_cons_self) with e | hx
      · exact e
      rcases List.mem_cons.mp ((h y).mpr List.mem_cons_self) with e | hy
      · exact e.symm
      have a := v1 x hx
      have b := u1 y hy
      omega
    subst e
    rw [srt_same f u v u2 v2 fun z => ⟨fun hz => ?_, fun hz => ?_⟩]
    · rcases List.mem_cons.mp ((h z).mp (List.mem_cons_of_mem _ hz)) with rfl | h'
      · have := u1 z hz
        omega
      · exact h'
    · rcases List.mem_cons.mp ((h z).mpr (List.mem_cons_of_mem _ hz)) with rfl | h'
      · have := v1 z hz
        omega
      · exact h'
/-- what sorted tells of a set's keys -/
theorem keys_same {B : Int} {d : Nat} {M L : List (Addr × List Int)} {zs : List (List Int)} (pm : M.Perm L) (nd : (L.map fun q => q.2).Nodup) (le : M.Pairwise fun q r => TS.code B q.2 ≤ TS.code B r.2) (bd : ∀ q, q ∈ L → q.2.length = d ∧ TS.Bd B q.2)
    (hz : zs.Pairwise fun x y => TS.code B x < TS.code B y) (hm : ∀ x, (x ∈ L.map fun q => q.2) ↔ x ∈ zs) : (M.map fun q => q.2) = zs := by
  have ndM : (M.map fun q => q.2).Nodup := (pm.map _).nodup_iff.mpr nd
  refine srt_same (TS.code B) _ _ ?_ hz fun x => (pm.map _).mem_iff.trans (hm x)
  refine List.pairwise_map.mpr ((le.and (List.pairwise_map.mp ndM)).imp_of_mem fun {q r} hq hr h => ?_)
  obtain ⟨h1, h2⟩ := h
  obtain ⟨l1, b1⟩ := bd q (pm.mem_iff.mp hq)
  obtain ⟨l2, b2⟩ := bd r (pm.mem_iff.mp hr)
  have ne : TS.code B q.2 ≠ TS.code B r.2 := fun e => h2 (code_inj _ _ (by omega) b1 b2 e)
  omega
/-! ### the rows of stretches -/
def rw_ (a b t : Int) (n : Nat) : List Int := stp (rowF a b t) n
theorem rw_len (a b t : Int) (n : Nat) : (rw_ a b t n).length = n := by simp [rw_, stp]
theorem rw_get {a b t : Int} {n j : Nat} (h : j < n) : (rw_ a b t n)[j]? = some (rowF a b t (j + 1) - rowF a b t j) := by
  unfold rw_ stp
  rw [List.getElem?_map, List.getElem?_range h]
  rfl
theorem row_step {a b t : Int} (hb : 0 < b) (ha : 0 ≤ a) (j : Nat) : 0 ≤ rowF a b t (j + 1) - rowF a b t j ∧ rowF a b t (j + 1) - rowF a b t j < a + 1 := by
  unfold rowF
  have e : t + ((j + 1 : Nat) : Int) * a = t + (j : Int) * a + a := by
    rw [Int.natCast_succ, Int.add_mul, Int.one_mul]
    omega
  rw [e]
  generalize t + (j : Int) * a = z
  have h1 : z / b ≤ (z + a) / b := Int.ediv_le_ediv hb (by omega)
  have h2 : (z + a) / b ≤ (z + b * a) / b := by
    refine Int.ediv_le_ediv hb ?_
    have := Int.mul_le_mul_of_nonneg_right (show (1 : Int) ≤ b by omega) ha
    omega
  rw [Int.add_mul_ediv_left _ _ (Int.ne_of_gt hb)] at h2
  omega
theorem rw_bd {a b t : Int} (hb : 0 < b) (ha : 0 ≤ a) (n : Nat) : TS.Bd (a + 1) (rw_ a b t n) := fun x hx => by
  obtain ⟨j, hj, rfl⟩ := List.mem_map.mp hx
  exact row_step hb ha j
theorem row_mono {a b t u : Int} (hb : 0 < b) (h : t ≤ u) (j : Nat) : rowF a b t j ≤ rowF a b u j := Int.ediv_le_ediv hb (by omega)
theorem rw_lt {a b t u : Int} {n m : Nat} (hb : 0 < b) (ha : 0 ≤ a) (h0 : 0 ≤ t) (h1 : t < u) (h2 : u < b) (hm : m ≤ n) (hz : (u + m * a) % b = 0) : TS.code (a + 1) (rw_ a b t n) < TS.code (a + 1) (rw_ a b u n) := by
  have pm : rowF a b t m < rowF a b u m := by
    unfold rowF
    have e := Int.mul_ediv_add_emod (u + m * a) b
    rw [hz, Int.add_zero] at e
    refine Int.ediv_lt_of_lt_mul hb ?_
    rw [Int.mul_comm ((u + (m : Int) * a) / b) b, e]
    omega
  obtain ⟨k, k1, k2, k3⟩ := st_least (p := fun k => rowF a b t k < rowF a b u k) m pm
  have eq : ∀ j, j < k → rowF a b t j = rowF a b u j := fun j hj => Int.le_antisymm (row_mono hb (by omega) j) (Int.not_lt.mp (k3 j hj))
  cases k with
  | zero =>
    have k2 : rowF a b t 0 < rowF a b u 0 := k2
    rw [row_zero h0 (by omega), row_zero (by omega) h2] at k2
    omega
  | succ k =>
    have k2 : rowF a b t (k + 1) < rowF a b u (k + 1) := k2
    refine code_first _ _ k (by rw [rw_len, rw_len]) (rw_bd hb ha n) (rw_bd hb ha n) (fun j hj => ?_) ⟨_, _, rw_get (by omega), rw_get (by omega), ?_⟩
    · rw [rw_get (by omega), rw_get (by omega), eq j (by omega), eq (j + 1) (by omega)]
    · rw [eq k (by omega)]
      omega
theorem part_zero {a b : Int} (hb : 0 < b) {n : Nat} {u : Int} (hu : u ∈ parts a b n) : ∃ m : Nat, m ≤ n ∧ (u + m * a) % b = 0 := by
  obtain ⟨i, hi, rfl⟩ := List.mem_map.mp hu
  have hi := List.mem_range.mp hi
  refine ⟨i, by omega, ?_⟩
  rw [Int.emod_add_emod, Int.neg_mul, Int.add_left_neg]
  exact Int.zero_emod b
theorem parts_nodup {a b : Int} (hb : 0 < b) (hc : Nat.Coprime a.natAbs b.natAbs) (n : Nat) : (parts a b n).Nodup := by
  unfold parts
  refine List.pairwise_map.mpr (List.Pairwise.imp_of_mem (fun {i j} hi hj hij e => ?_) List.pairwise_lt_range)
  have hj := List.mem_range.mp hj
  have hd : b ∣ ((j : Int) - i) * a := by
    have h := Int.emod_emod_of_dvd
    have e' : (-(i : Int) * a - -(j : Int) * a) % b = 0 := Int.emod_eq_emod_iff_emod_sub_eq_zero.mp e
    have := Int.dvd_of_emod_eq_zero e'
    rw [show -(i : Int) * a - -(j : Int) * a = ((j : Int) - i) * a by grind] at this
    exact this
  have h1 := Int.natAbs_dvd_natAbs.mpr hd
  rw [Int.natAbs_mul] at h1
  have h2 : b.natAbs ∣ ((j : Int) - i).natAbs := Nat.Coprime.dvd_of_dvd_mul_right hc.symm h1
  have h3 := Nat.le_of_dvd (by omega) h2
  omega
/-- the rows told rise -/
theorem rows_rise {a b : Int} (hb : 0 < b) (ha : 0 ≤ a) (hc : Nat.Coprime a.natAbs b.natAbs) {n : Nat} {ts : List Int} (perm : ts.Perm (parts a b n)) (ris : ts.Pairwise (· ≤ ·)) : (ts.map fun t => rw_ a b t n).Pairwise fun x y => TS.code (a + 1) x < TS.code (a + 1) y := by
  have nd : ts.Nodup := perm.nodup_iff.mpr (parts_nodup hb hc n)
  refine List.pairwise_map.mpr ((ris.and nd).imp_of_mem fun {t u} ht hu h => ?_)
  obtain ⟨h1, h2⟩ := h
  obtain ⟨m, hm, hz⟩ := part_zero hb (perm.mem_iff.mp hu)
  have b1 := parts_bd hb (perm.mem_iff.mp ht)
  have b2 := parts_bd hb (perm.mem_iff.mp hu)
  exact rw_lt hb ha b1.1 (by omega) b2.2 hm hz
theorem rw_part {a b : Int} (hb : 0 < b) (n : Nat) {p : Int} (h0 : 0 ≤ p) (h1 : p < b) : ∃ t ∈ parts a b n, rw_ a b t n = rw_ a b p n := by
  obtain ⟨t, ht, h⟩ := part_of (a := a) hb n h0 h1
  refine ⟨t, ht, ?_⟩
  unfold rw_ stp
  refine List.map_congr_left fun j hj => ?_
  have hj := List.mem_range.mp hj
  rw [h (j + 1) (by omega), h j (by omega)]
/-- the rows of the parts one after the other, as they come -/
theorem grid_same {a b : Int} (hb : 0 < b) (n : Nat) (ts : List Int) (perm : ts.Perm (parts a b n)) (x : List Int) : (∃ i : Nat, i < n + 1 ∧ x = rw_ a b ((0 - (i : Int) * a) % b) n) ↔ x ∈ ts.map fun t => rw_ a b t n := by
  constructor
  · rintro ⟨i, hi, rfl⟩
    refine List.mem_map.mpr ⟨_, perm.mem_iff.mpr (parts_mem hb (show i ≤ n by omega)), ?_⟩
    rw [Int.neg_mul, Int.zero_sub]
  · intro hx
    obtain ⟨t, ht, rfl⟩ := List.mem_map.mp hx
    obtain ⟨i, hi, rfl⟩ := List.mem_map.mp (perm.mem_iff.mp ht)
    have hi := List.mem_range.mp hi
    refine ⟨i, by omega, ?_⟩
    rw [Int.neg_mul, Int.zero_sub]
/-! ### rows of moons' days -/
theorem floor_addI (x : Rat) (i : Int) : (x + (i : Rat)).floor = x.floor + i := by
  have h1 := Rat.floor_le x
  have h2 : x < (x.floor : Rat) + 1 := by rw [← cast_add1]; exact Rat.lt_floor_add_one x
  refine Int.le_antisymm (floor_le_iff.mpr ?_) (Rat.le_floor_iff.mpr ?_)
  · rw [show ((x.floor + i + 1 : Int) : Rat) = (x.floor : Rat) + (i : Rat) + 1 by exact_mod_cast rfl]
    grind
  · rw [show ((x.floor + i : Int) : Rat) = (x.floor : Rat) + (i : Rat) by exact_mod_cast rfl]
    grind
theorem prt_mod (m o : Rat) (k : Int) : prt m o k = ((o * (m.den : Rat)).floor + k * m.num) % (m.den : Int) := by
  obtain ⟨b0, b1⟩ := prt_bd m o k
  have e : prt m o k = (o * (m.den : Rat)).floor + (k * m.num - stF m o k * (m.den : Int)) := by
    unfold prt
    rw [← floor_addI]
    congr 1
    have hm := mul_den m
    rw [show ((k * m.num - stF m o k * (m.den : Int) : Int) : Rat) = (k : Rat) * (m.num : Rat) - ((stF m o k : Int) : Rat) * (m.den : Rat) by push_cast; rfl, ← hm]
    generalize (m.den : Rat) = b
    generalize ((stF m o k : Int) : Rat) = S
    grind
  rw [show (o * (m.den : Rat)).floor + k * m.num = prt m o k + (m.den : Int) * stF m o k by rw [e, Int.mul_comm (m.den : Int)]; omega, Int.add_mul_emod_self_left, Int.emod_eq_of_lt b0 b1]
theorem row_prt (m o : Rat) (i : Int) (n : Nat) : stp (fun j => stF m o (i + (j : Nat))) n = rw_ m.num m.den (prt m o i) n := by
  unfold rw_ stp
  refine List.map_congr_left fun j hj => ?_
  have e1 := st_row m o i (j + 1)
  have e2 := st_row m o i j
  show stF m o (i + ((j + 1 : Nat) : Int)) - stF m o (i + (j : Int)) = _
  omega
/-- as many parts in a row as there are come to each of them -/
theorem all_parts {a b : Int} (c : Int) (hb : 0 < b) (hc : Nat.Coprime a.natAbs b.natAbs) {t : Int} (h0 : 0 ≤ t) (h1 : t < b) : ∃ k : Nat, (k : Int) < b ∧ (c + k * a) % b = t := by
  apply Classical.byContradiction
  intro no
  have nd : (t.toNat :: (List.range b.toNat).map fun k : Nat => ((c + (k : Int) * a) % b).toNat).Nodup := by
    refine List.nodup_cons.mpr ⟨fun hm => ?_, ?_⟩
    · obtain ⟨k, hk, e⟩ := List.mem_map.mp hm
      have hk := List.mem_range.mp hk
      have := Int.emod_nonneg (c + (k : Int) * a) (Int.ne_of_gt hb)
      exact no ⟨k, by omega, by omega⟩
    · refine List.pairwise_map.mpr (List.Pairwise.imp_of_mem (fun {i j} hi hj hij e => ?_) List.pairwise_lt_range)
      have hj := List.mem_range.mp hj
      have n1 := Int.emod_nonneg (c + (i : Int) * a) (Int.ne_of_gt hb)
      have n2 := Int.emod_nonneg (c + (j : Int) * a) (Int.ne_of_gt hb)
      have e : (c + (j : Int) * a) % b = (c + (i : Int) * a) % b := by omega
      have hd := Int.dvd_of_emod_eq_zero (Int.emod_eq_emod_iff_emod_sub_eq_zero.mp e)
      rw [show c + (j : Int) * a - (c + (i : Int) * a) = ((j : Int) - i) * a by grind] at hd
      have d1 := Int.natAbs_dvd_natAbs.mpr hd
      rw [Int.natAbs_mul] at d1
      have d3 := Nat.le_of_dvd (by omega) (Nat.Coprime.dvd_of_dvd_mul_right hc.symm d1)
      omega
  have := nat_nodup_len _ (List.range b.toNat) nd fun x hx => by
    rcases List.mem_cons.mp hx with rfl | hx
    · exact List.mem_range.mpr (by omega)
    · obtain ⟨k, _, rfl⟩ := List.mem_map.mp hx
      have n1 := Int.emod_nonneg (c + (k : Int) * a) (Int.ne_of_gt hb)
      have n2 := Int.emod_lt_of_pos (c + (k : Int) * a) hb
      exact List.mem_range.mpr (by omega)
  rw [List.length_cons, List.length_map, List.length_range] at this
  omega
theorem cop (m : Rat) : Nat.Coprime m.num.natAbs (m.den : Int).natAbs := m.reduced
theorem moon_rows (m o : Rat) (f : Int) (n : Nat) {ts : List Int} (perm : ts.Perm (parts m.num m.den n)) (x : List Int) : (∃ k : Nat, k < m.den ∧ x = stp (fun j => stF m o (f + (k : Int) + (j : Nat))) n) ↔ x ∈ ts.map fun t => rw_ m.num m.den t n := by
  have hd := den_pos m
  constructor
  · rintro ⟨k, _, rfl⟩
    rw [row_prt]
    obtain ⟨t, ht, e⟩ := rw_part (a := m.num) hd n (prt_bd m o (f + k)).1 (prt_bd m o (f + k)).2
    exact List.mem_map.mpr ⟨t, perm.mem_iff.mpr ht, e⟩
  · intro hx
    obtain ⟨t, ht, rfl⟩ := List.mem_map.mp hx
    obtain ⟨b0, b1⟩ := parts_bd hd (perm.mem_iff.mp ht)
    obtain ⟨k, k1, k2⟩ := all_parts ((o * (m.den : Rat)).floor + f * m.num) hd (cop m) b0 b1
    refine ⟨k, by omega, ?_⟩
    rw [row_prt, prt_mod, ← k2, Int.add_mul, Int.add_assoc]
theorem moon_row (m o : Rat) (i : Int) (n : Nat) {ts : List Int} (perm : ts.Perm (parts m.num m.den n)) : stp (fun j => stF m o (i + (j : Nat))) n ∈ ts.map fun t => rw_ m.num m.den t n := by
  rw [row_prt]
  obtain ⟨t, ht, e⟩ := rw_part (a := m.num) (den_pos m) n (prt_bd m o i).1 (prt_bd m o i).2
  exact List.mem_map.mpr ⟨t, perm.mem_iff.mpr ht, e⟩
end MM
namespace MM
open PySem PySem.Spec PyProof.Rows L2
/-- the text by places -/
def top (i : Nat) : Stmt := PySem.Challenge.pw_meanmoon_k32_all_unlike_stretches.main.body.getD i (.Pass ⟨0, 0, 0, 0⟩)
abbrev s__wall : Stmt := top 0
theorem c__wall : FnScope ["k"] ["k"] (defScope s__wall) := ⟨rfl, rfl, rfl, by decide +kernel, rfl, by decide +kernel, by decide +kernel⟩
theorem b__wall : Bd "_wall" "_wall" s__wall ["k"] := fun _ _ _ _ _ _ us hl => match us, hl with | [_], _ => rfl
abbrev s_stretches : Stmt := top 2
theorem c_stretches : FnScope ["calendar", "many", "month", "parts", "n", "part"] ["calendar", "many"] (defScope s_stretches) := ⟨rfl, rfl, rfl, by decide +kernel, rfl, by decide +kernel, by decide +kernel⟩
theorem b_stretches : Bd "stretches" "stretches" s_stretches ["calendar", "many"] := fun _ _ _ _ _ _ us hl => match us, hl with | [_, _], _ => rfl
abbrev s_stretch_at : Stmt := top 3
theorem c_stretch_at : FnScope ["month", "part", "many", "n"] ["month", "part", "many"] (defScope s_stretch_at) := ⟨rfl, rfl, rfl, by decide +kernel, rfl, by decide +kernel, by decide +kernel⟩
theorem b_stretch_at : Bd "stretch_at" "stretch_at" s_stretch_at ["month", "part", "many"] := fun _ _ _ _ _ _ us hl => match us, hl with | [_, _, _], _ => rfl
abbrev s_steps : Stmt := top 4
theorem c_steps : FnScope ["days", "day", "behind"] ["days"] (defScope s_steps) := ⟨rfl, rfl, rfl, by decide +kernel, rfl, by decide +kernel, by decide +kernel⟩
theorem b_steps : Bd "steps" "steps" s_steps ["days"] := fun _ _ _ _ _ _ us hl => match us, hl with | [_], _ => rfl
abbrev s_NoShare_init : Stmt := inClass (top 6) 0
theorem c_NoShare_init : FnScope ["self", "top"] ["self", "top"] (defScope s_NoShare_init) := ⟨rfl, rfl, rfl, by decide +kernel, rfl, by decide +kernel, by decide +kernel⟩
theorem b_NoShare_init : Bd "__init__" "NoShare.__init__" s_NoShare_init ["self", "top"] := fun _ _ _ _ _ _ us hl => match us, hl with | [_, _], _ => rfl
abbrev s_NoCalendar_init : Stmt := inClass (top 7) 0
theorem c_NoCalendar_init : FnScope ["self", "why"] ["self", "why"] (defScope s_NoCalendar_init) := ⟨rfl, rfl, rfl, by decide +kernel, rfl, by decide +kernel, by decide +kernel⟩
theorem b_NoCalendar_init : Bd "__init__" "NoCalendar.__init__" s_NoCalendar_init ["self", "why"] := fun _ _ _ _ _ _ us hl => match us, hl with | [_, _], _ => rfl
abbrev s_numeral : Stmt := top 10
theorem c_numeral : FnScope ["number", "base", "rest", "signs"] ["number", "base"] (defScope s_numeral) := ⟨rfl, rfl, rfl, by decide +kernel, rfl, by decide +kernel, by decide +kernel⟩
abbrev s_Share_init : Stmt := inClass (top 12) 0
theorem c_Share_init : FnScope ["self", "top", "bottom", "common"] ["self", "top", "bottom"] (defScope s_Share_init) := ⟨rfl, rfl, rfl, by decide +kernel, rfl, by decide +kernel, by decide +kernel⟩
abbrev s_Share_eq : Stmt := inClass (top 12) 1
theorem c_Share_eq : FnScope ["self", "other"] ["self", "other"] (defScope s_Share_eq) := ⟨rfl, rfl, rfl, by decide +kernel, rfl, by decide +kernel, by decide +kernel⟩
theorem b_Share_eq : Bd "__eq__" "Share.__eq__" s_Share_eq ["self", "other"] := fun _ _ _ _ _ _ us hl => match us, hl with | [_, _], _ => rfl
abbrev s_Share_str : Stmt := inClass (top 12) 2
theorem c_Share_str : FnScope ["self"] ["self"] (defScope s_Share_str) := ⟨rfl, rfl, rfl, by decide +kernel, rfl, by decide +kernel, by decide +kernel⟩
theorem b_Share_str : Bd "__str__" "Share.__str__" s_Share_str ["self"] := fun _ _ _ _ _ _ us hl => match us, hl with | [_], _ => rfl
abbrev s_Share_repr : Stmt := inClass (top 12) 3
theorem c_Share_repr : FnScope ["self"] ["self"] (defScope s_Share_repr) := ⟨rfl, rfl, rfl, by decide +kernel, rfl, by decide +kernel, by decide +kernel⟩
theorem b_Share_repr : Bd "__repr__" "Share.__repr__" s_Share_repr ["self"] := fun _ _ _ _ _ _ us hl => match us, hl with | [_], _ => rfl
abbrev s_common_divisor : Stmt := top 13
theorem c_common_divisor : FnScope ["one", "two"] ["one", "two"] (defScope s_common_divisor) := ⟨rfl, rfl, rfl, by decide +kernel, rfl, by decide +kernel, by decide +kernel⟩
theorem b_common_divisor : Bd "common_divisor" "common_divisor" s_common_divisor ["one", "two"] := fun _ _ _ _ _ _ us hl => match us, hl with | [_, _], _ => rfl
abbrev s_as_share : Stmt := top 14
theorem c_as_share : FnScope ["number"] ["number"] (defScope s_as_share) := ⟨rfl, rfl, rfl, by decide +kernel, rfl, by decide +kernel, by decide +kernel⟩
theorem b_as_share : Bd "as_share" "as_share" s_as_share ["number"] := fun _ _ _ _ _ _ us hl => match us, hl with | [_], _ => rfl
abbrev s_plus : Stmt := top 15
theorem c_plus : FnScope ["one", "two", "first", "second"] ["one", "two"] (defScope s_plus) := ⟨rfl, rfl, rfl, by decide +kernel, rfl, by decide +kernel, by decide +kernel⟩
theorem b_plus : Bd "plus" "plus" s_plus ["one", "two"] := fun _ _ _ _ _ _ us hl => match us, hl with | [_, _], _ => rfl
abbrev s_minus : Stmt := top 16
theorem c_minus : FnScope ["one", "two", "first", "second"] ["one", "two"] (defScope s_minus) := ⟨rfl, rfl, rfl, by decide +kernel, rfl, by decide +kernel, by decide +kernel⟩
theorem b_minus : Bd "minus" "minus" s_minus ["one", "two"] := fun _ _ _ _ _ _ us hl => match us, hl with | [_, _], _ => rfl
abbrev s_times : Stmt := top 17
theorem c_times : FnScope ["one", "two", "first", "second"] ["one", "two"] (defScope s_times) := ⟨rfl, rfl, rfl, by decide +kernel, rfl, by decide +kernel, by decide +kernel⟩
theorem b_times : Bd "times" "times" s_times ["one", "two"] := fun _ _ _ _ _ _ us hl => match us, hl with | [_, _], _ => rfl
abbrev s_over : Stmt := top 18
theorem c_over : FnScope ["one", "two", "first", "second"] ["one", "two"] (defScope s_over) := ⟨rfl, rfl, rfl, by decide +kernel, rfl, by decide +kernel, by decide +kernel⟩
theorem b_over : Bd "over" "over" s_over ["one", "two"] := fun _ _ _ _ _ _ us hl => match us, hl with | [_, _], _ => rfl
abbrev s_before : Stmt := top 19
theorem c_before : FnScope ["one", "two", "first", "second"] ["one", "two"] (defScope s_before) := ⟨rfl, rfl, rfl, by decide +kernel, rfl, by decide +kernel, by decide +kernel⟩
theorem b_before : Bd "before" "before" s_before ["one", "two"] := fun _ _ _ _ _ _ us hl => match us, hl with | [_, _], _ => rfl
abbrev s_whole : Stmt := top 20
theorem c_whole : FnScope ["share", "number"] ["share"] (defScope s_whole) := ⟨rfl, rfl, rfl, by decide +kernel, rfl, by decide +kernel, by decide +kernel⟩
theorem b_whole : Bd "whole" "whole" s_whole ["share"] := fun _ _ _ _ _ _ us hl => match us, hl with | [_], _ => rfl
abbrev s_rounded_up : Stmt := top 21
theorem c_rounded_up : FnScope ["share", "number"] ["share"] (defScope s_rounded_up) := ⟨rfl, rfl, rfl, by decide +kernel, rfl, by decide +kernel, by decide +kernel⟩
theorem b_rounded_up : Bd "rounded_up" "rounded_up" s_rounded_up ["share"] := fun _ _ _ _ _ _ us hl => match us, hl with | [_], _ => rfl
abbrev s_Calendar_init : Stmt := inClass (top 24) 0
theorem c_Calendar_init : FnScope ["self", "month", "year", "moon", "mark"] ["self", "month", "year", "moon", "mark"] (defScope s_Calendar_init) := ⟨rfl, rfl, rfl, by decide +kernel, rfl, by decide +kernel, by decide +kernel⟩
abbrev s_Calendar_start : Stmt := inClass (top 24) 1
theorem c_Calendar_start : FnScope ["self", "k"] ["self", "k"] (defScope s_Calendar_start) := ⟨rfl, rfl, rfl, by decide +kernel, rfl, by decide +kernel, by decide +kernel⟩
theorem b_Calendar_start : Bd "start" "Calendar.start" s_Calendar_start ["self", "k"] := fun _ _ _ _ _ _ us hl => match us, hl with | [_, _], _ => rfl
abbrev s_Calendar_month_at : Stmt := inClass (top 24) 2
theorem c_Calendar_month_at : FnScope ["self", "day"] ["self", "day"] (defScope s_Calendar_month_at) := ⟨rfl, rfl, rfl, by decide +kernel, rfl, by decide +kernel, by decide +kernel⟩
theorem b_Calendar_month_at : Bd "month_at" "Calendar.month_at" s_Calendar_month_at ["self", "day"] := fun _ _ _ _ _ _ us hl => match us, hl with | [_, _], _ => rfl
abbrev s_Calendar_mark_day : Stmt := inClass (top 24) 3
theorem c_Calendar_mark_day : FnScope ["self", "j"] ["self", "j"] (defScope s_Calendar_mark_day) := ⟨rfl, rfl, rfl, by decide +kernel, rfl, by decide +kernel, by decide +kernel⟩
theorem b_Calendar_mark_day : Bd "mark_day" "Calendar.mark_day" s_Calendar_mark_day ["self", "j"] := fun _ _ _ _ _ _ us hl => match us, hl with | [_, _], _ => rfl
abbrev s_Calendar_month_with : Stmt := inClass (top 24) 4
theorem c_Calendar_month_with : FnScope ["self", "j"] ["self", "j"] (defScope s_Calendar_month_with) := ⟨rfl, rfl, rfl, by decide +kernel, rfl, by decide +kernel, by decide +kernel⟩
theorem b_Calendar_month_with : Bd "month_with" "Calendar.month_with" s_Calendar_month_with ["self", "j"] := fun _ _ _ _ _ _ us hl => match us, hl with | [_, _], _ => rfl
abbrev s_Calendar_mark_in : Stmt := inClass (top 24) 5
theorem c_Calendar_mark_in : FnScope ["self", "k"] ["self", "k"] (defScope s_Calendar_mark_in) := ⟨rfl, rfl, rfl, by decide +kernel, rfl, by decide +kernel, by decide +kernel⟩
theorem b_Calendar_mark_in : Bd "mark_in" "Calendar.mark_in" s_Calendar_mark_in ["self", "k"] := fun _ _ _ _ _ _ us hl => match us, hl with | [_, _], _ => rfl
abbrev s_Calendar_name_of : Stmt := inClass (top 24) 6
theorem c_Calendar_name_of : FnScope ["self", "k"] ["self", "k"] (defScope s_Calendar_name_of) := ⟨rfl, rfl, rfl, by decide +kernel, rfl, by decide +kernel, by decide +kernel⟩
theorem b_Calendar_name_of : Bd "name_of" "Calendar.name_of" s_Calendar_name_of ["self", "k"] := fun _ _ _ _ _ _ us hl => match us, hl with | [_, _], _ => rfl
abbrev s_Calendar_eq : Stmt := inClass (top 24) 7
theorem c_Calendar_eq : FnScope ["self", "other"] ["self", "other"] (defScope s_Calendar_eq) := ⟨rfl, rfl, rfl, by decide +kernel, rfl, by decide +kernel, by decide +kernel⟩
theorem b_Calendar_eq : Bd "__eq__" "Calendar.__eq__" s_Calendar_eq ["self", "other"] := fun _ _ _ _ _ _ us hl => match us, hl with | [_, _], _ => rfl
abbrev s_Calendar_str : Stmt := inClass (top 24) 8
theorem c_Calendar_str : FnScope ["self"] ["self"] (defScope s_Calendar_str) := ⟨rfl, rfl, rfl, by decide +kernel, rfl, by decide +kernel, by decide +kernel⟩
theorem b_Calendar_str : Bd "__str__" "Calendar.__str__" s_Calendar_str ["self"] := fun _ _ _ _ _ _ us hl => match us, hl with | [_], _ => rfl
abbrev s_Calendar_repr : Stmt := inClass (top 24) 9
theorem c_Calendar_repr : FnScope ["self"] ["self"] (defScope s_Calendar_repr) := ⟨rfl, rfl, rfl, by decide +kernel, rfl, by decide +kernel, by decide +kernel⟩
theorem b_Calendar_repr : Bd "__repr__" "Calendar.__repr__" s_Calendar_repr ["self"] := fun _ _ _ _ _ _ us hl => match us, hl with | [_], _ => rfl
abbrev s_refuse_unfit : Stmt := top 25
theorem c_refuse_unfit : FnScope ["month", "year"] ["month", "year"] (defScope s_refuse_unfit) := ⟨rfl, rfl, rfl, by decide +kernel, rfl, by decide +kernel, by decide +kernel⟩
theorem b_refuse_unfit : Bd "refuse_unfit" "refuse_unfit" s_refuse_unfit ["month", "year"] := fun _ _ _ _ _ _ us hl => match us, hl with | [_, _], _ => rfl
abbrev s_moment_or_nought : Stmt := top 26
theorem c_moment_or_nought : FnScope ["moment"] ["moment"] (defScope s_moment_or_nought) := ⟨rfl, rfl, rfl, by decide +kernel, rfl, by decide +kernel, by decide +kernel⟩
theorem b_moment_or_nought : Bd "moment_or_nought" "moment_or_nought" s_moment_or_nought ["moment"] := fun _ _ _ _ _ _ us hl => match us, hl with | [_], _ => rfl
abbrev s_twelfth : Stmt := top 27
theorem c_twelfth : FnScope ["year"] ["year"] (defScope s_twelfth) := ⟨rfl, rfl, rfl, by decide +kernel, rfl, by decide +kernel, by decide +kernel⟩
theorem b_twelfth : Bd "twelfth" "twelfth" s_twelfth ["year"] := fun _ _ _ _ _ _ us hl => match us, hl with | [_], _ => rfl
abbrev s_kept_form : Stmt := top 28
theorem c_kept_form : FnScope ["calendar", "month", "moon", "first_moon", "mark"] ["calendar"] (defScope s_kept_form) := ⟨rfl, rfl, rfl, by decide +kernel, rfl, by decide +kernel, by decide +kernel⟩
theorem b_kept_form : Bd "kept_form" "kept_form" s_kept_form ["calendar"] := fun _ _ _ _ _ _ us hl => match us, hl with | [_], _ => rfl
abbrev s_least_alike : Stmt := top 29
theorem c_least_alike : FnScope ["first", "step"] ["first", "step"] (defScope s_least_alike) := ⟨rfl, rfl, rfl, by decide +kernel, rfl, by decide +kernel, by decide +kernel⟩
theorem b_least_alike : Bd "least_alike" "least_alike" s_least_alike ["first", "step"] := fun _ _ _ _ _ _ us hl => match us, hl with | [_, _], _ => rfl
abbrev s_l_draws : Stmt := top 31
theorem c_l_draws : FnScope ["_law_cell", "_law_cut", "_law_k"] ["_law_cell"] (defScope s_l_draws) := ⟨rfl, rfl, rfl, by decide +kernel, rfl, by decide +kernel, by decide +kernel⟩
theorem b_l_draws : Bd "_law_draws" "_law_draws" s_l_draws ["_law_cell"] := fun _ _ _ _ _ _ us hl => match us, hl with | [_], _ => rfl
abbrev s_l_next : Stmt := top 32
theorem c_l_next : FnScope ["_law_draws_here", "_law_k", "_law_number"] ["_law_draws_here"] (defScope s_l_next) := ⟨rfl, rfl, rfl, by decide +kernel, rfl, by decide +kernel, by decide +kernel⟩
theorem b_l_next : Bd "_law_next" "_law_next" s_l_next ["_law_draws_here"] := fun _ _ _ _ _ _ us hl => match us, hl with | [_], _ => rfl
abbrev s_l_low : Stmt := top 33
theorem c_l_low : FnScope ["_law_top", "_law_bottom", "_law_one", "_law_two"] ["_law_top", "_law_bottom"] (defScope s_l_low) := ⟨rfl, rfl, rfl, by decide +kernel, rfl, by decide +kernel, by decide +kernel⟩
theorem b_l_low : Bd "_law_low" "_law_low" s_l_low ["_law_top", "_law_bottom"] := fun _ _ _ _ _ _ us hl => match us, hl with | [_, _], _ => rfl
abbrev s_l_plus : Stmt := top 34
theorem c_l_plus : FnScope ["_law_one", "_law_two"] ["_law_one", "_law_two"] (defScope s_l_plus) := ⟨rfl, rfl, rfl, by decide +kernel, rfl, by decide +kernel, by decide +kernel⟩
theorem b_l_plus : Bd "_law_plus" "_law_plus" s_l_plus ["_law_one", "_law_two"] := fun _ _ _ _ _ _ us hl => match us, hl with | [_, _], _ => rfl
abbrev s_l_by : Stmt := top 35
theorem c_l_by : FnScope ["_law_one", "_law_two"] ["_law_one", "_law_two"] (defScope s_l_by) := ⟨rfl, rfl, rfl, by decide +kernel, rfl, by decide +kernel, by decide +kernel⟩
theorem b_l_by : Bd "_law_by" "_law_by" s_l_by ["_law_one", "_law_two"] := fun _ _ _ _ _ _ us hl => match us, hl with | [_, _], _ => rfl
abbrev s_l_part : Stmt := top 36
theorem c_l_part : FnScope ["_law_draws_here", "_law_pick", "_law_far", "_law_bottom"] ["_law_draws_here"] (defScope s_l_part) := ⟨rfl, rfl, rfl, by decide +kernel, rfl, by decide +kernel, by decide +kernel⟩
theorem b_l_part : Bd "_law_part" "_law_part" s_l_part ["_law_draws_here"] := fun _ _ _ _ _ _ us hl => match us, hl with | [_], _ => rfl
abbrev s_l_moment : Stmt := top 37
theorem c_l_moment : FnScope ["_law_draws_here", "_law_part_here", "_law_pick", "_law_far"] ["_law_draws_here"] (defScope s_l_moment) := ⟨rfl, rfl, rfl, by decide +kernel, rfl, by decide +kernel, by decide +kernel⟩
theorem b_l_moment : Bd "_law_moment" "_law_moment" s_l_moment ["_law_draws_here"] := fun _ _ _ _ _ _ us hl => match us, hl with | [_], _ => rfl
abbrev s_l_four : Stmt := top 38
theorem c_l_four : FnScope ["_law_draws_here", "_law_pick", "_law_told", "_law_lune", "_law_sun", "_law_w", "_law_s", "_law_r"] ["_law_draws_here"] (defScope s_l_four) := ⟨rfl, rfl, rfl, by decide +kernel, rfl, by decide +kernel, by decide +kernel⟩
theorem b_l_four : Bd "_law_four" "_law_four" s_l_four ["_law_draws_here"] := fun _ _ _ _ _ _ us hl => match us, hl with | [_], _ => rfl
abbrev s_l_floor : Stmt := top 39
theorem c_l_floor : FnScope ["_law_fraction"] ["_law_fraction"] (defScope s_l_floor) := ⟨rfl, rfl, rfl, by decide +kernel, rfl, by decide +kernel, by decide +kernel⟩
theorem b_l_floor : Bd "_law_floor" "_law_floor" s_l_floor ["_law_fraction"] := fun _ _ _ _ _ _ us hl => match us, hl with | [_], _ => rfl
abbrev s_l_start : Stmt := top 40
theorem c_l_start : FnScope ["_law_four_here", "_law_k"] ["_law_four_here", "_law_k"] (defScope s_l_start) := ⟨rfl, rfl, rfl, by decide +kernel, rfl, by decide +kernel, by decide +kernel⟩
theorem b_l_start : Bd "_law_start" "_law_start" s_l_start ["_law_four_here", "_law_k"] := fun _ _ _ _ _ _ us hl => match us, hl with | [_, _], _ => rfl
abbrev s_l_made : Stmt := top 41
theorem c_l_made : FnScope ["_law_four_here", "_law_way", "_law_lune", "_law_sun", "_law_come", "_law_begun", "_law_top", "_law_bottom"] ["_law_four_here", "_law_way"] (defScope s_l_made) := ⟨rfl, rfl, rfl, by decide +kernel, rfl, by decide +kernel, by decide +kernel⟩
theorem b_l_made : Bd "_law_made" "_law_made" s_l_made ["_law_four_here", "_law_way"] := fun _ _ _ _ _ _ us hl => match us, hl with | [_, _], _ => rfl
abbrev s_l_row : Stmt := top 42
theorem c_l_row : FnScope ["_law_four_here", "_law_k", "_law_count", "_law_days", "_law_at", "_law_soon", "_law_late"] ["_law_four_here", "_law_k", "_law_count"] (defScope s_l_row) := ⟨rfl, rfl, rfl, by decide +kernel, rfl, by decide +kernel, by decide +kernel⟩
theorem b_l_row : Bd "_law_row" "_law_row" s_l_row ["_law_four_here", "_law_k", "_law_count"] := fun _ _ _ _ _ _ us hl => match us, hl with | [_, _, _], _ => rfl
abbrev s_l_small : Stmt := top 43
theorem c_l_small : FnScope ["_law_draws_here", "_law_four_here", "_law_bottom", "_law_top", "_law_lune"] ["_law_draws_here", "_law_four_here"] (defScope s_l_small) := ⟨rfl, rfl, rfl, by decide +kernel, rfl, by decide +kernel, by decide +kernel⟩
theorem b_l_small : Bd "_law_small" "_law_small" s_l_small ["_law_draws_here", "_law_four_here"] := fun _ _ _ _ _ _ us hl => match us, hl with | [_, _], _ => rfl
abbrev s_l_grid : Stmt := top 44
theorem c_l_grid : FnScope ["_law_lune", "_law_count", "_law_rows", "_law_at", "_law_spot", "_law_days", "_law_k", "_law_soon", "_law_late"] ["_law_lune", "_law_count"] (defScope s_l_grid) := ⟨rfl, rfl, rfl, by decide +kernel, rfl, by decide +kernel, by decide +kernel⟩
theorem b_l_grid : Bd "_law_grid" "_law_grid" s_l_grid ["_law_lune", "_law_count"] := fun _ _ _ _ _ _ us hl => match us, hl with | [_, _], _ => rfl
abbrev s_l_right : Stmt := top 45
theorem c_l_right : FnScope ["_law_draws_here", "_law_great", "_law_four_here", "_law_count", "_law_made_here", "_law_told", "_law_first", "_law_rows", "_law_k", "_law_due"] ["_law_draws_here", "_law_great"] (defScope s_l_right) := ⟨rfl, rfl, rfl, by decide +kernel, rfl, by decide +kernel, by decide +kernel⟩
theorem b_l_right : Bd "_law_right" "_law_right" s_l_right ["_law_draws_here", "_law_great"] := fun _ _ _ _ _ _ us hl => match us, hl with | [_, _], _ => rfl
abbrev s_law : Stmt := top 46
theorem c_law : FnScope ["_law_script", "_law_k", "_law_cell"] ["_law_script"] (defScope s_law) := ⟨rfl, rfl, rfl, by decide +kernel, rfl, by decide +kernel, by decide +kernel⟩
theorem b_law : Bd "law" "law" s_law ["_law_script"] := fun _ _ _ _ _ _ us hl => match us, hl with | [_], _ => rfl
/-! ### the greatest common divisor -/
def spGcd : Sp := fun vs H Q _ => ∃ a b : Int, vs = [.int a, .int b] ∧ Q (.int (Int.gcd a b)) H
def mu2 (i : Nat) : L2.St → Hp → Nat := fun σ _ => match σ[i]? with
  | some (some (.int b)) => b.natAbs
  | _ => 0
theorem abs_gcd {a : Int} (c : Int) (h : Int.gcd a 0 = c) : (if a < 0 then -a else a) = c := by
  rw [Int.gcd_zero_right] at h
  split <;> omega
section
variable {P : Program} {w : World} {K : PySem.W.Frag} {mg : Str → Option Value} {base : Heap}
theorem ok_gcd (D : Df K mg "common_divisor" s_common_divisor []) (hab : mg "abs" = none) : Ca P w K mg base CX0 1 "common_divisor" s_common_divisor [] ["one", "two"] spGcd := by
  refine ca0 (k := 0) D c_common_divisor (fun vs H Q E h => ?_) fun f cdv A outer s H vs Q E hr h => ?_
  · obtain ⟨a, b, rfl, _⟩ := h
    rfl
  · obtain ⟨a, b, rfl, q⟩ := h
    refine ⟨_, pss_cons (ps_while PassesOwn.never (pt_cmpR op_ne (pv 1) pe_int (nomark _)) (pss_one (ps_par (i := 0) (j := 1) rfl c_common_divisor.nd rfl rfl (by decide) rfl rfl (pa_cons (pv 1) (pa_cons (pe_op op_modN (pv 0) (pv 1)) pa_nil)) rfl)))
      (pss_one (ps_ret (pe_callB call_abs rfl hab (by decide +kernel) (pa_cons (pv 0) pa_nil)))), ?_⟩
    refine while_by (fun σ H' => ∃ a' b' : Int, σ = [some (.int a'), some (.int b')] ∧ Int.gcd a' b' = Int.gcd a b ∧ H' = H) (mu2 1) ⟨a, b, rfl, rfl, rfl⟩ ?_ (fun σ H' R R' hq ⟨v, h1, h2, k, h3, h4⟩ => ⟨v, h1, h2, k, h3, hq _ _ h4⟩)
    rintro σ H' ⟨a', b', rfl, hg, rfl⟩
    refine ⟨_, rfl, rfl, _, rfl, ?_⟩
    by_cases hb : b' = 0
    · subst hb
      refine iteF ?_
      refine ⟨_, rfl, a', rfl, ?_⟩
      rw [abs_gcd _ (congrArg _ hg)]
      exact q
    · rw [show (!decide (V.int b' = V.int 0)) = true by simpa using hb]
      refine iteT ?_
      refine ⟨_, rfl, _, rfl, _, rfl, _, _, rfl, rfl, hb, _, _, rfl, ⟨b', a'.fmod b', rfl, ?_, rfl⟩, ?_⟩
      · rw [gcd_fmod]
        exact hg
      · exact fmod_lt a' hb
end
/-! ### lowest terms, as the law makes them -/
def spLow : Sp := fun vs H Q _ => ∃ t b : Int, vs = [.int t, .int b] ∧ b ≠ 0 ∧ Sz 8800 t ∧ Sz 8800 b ∧ ∀ p, H p = none → Q (.ref p) (upd H p (.tup [.int (Rat.divInt t b).num, .int (Rat.divInt t b).den]))
theorem gcd_sz {t b : Int} (h : b ≠ 0) (hb : Sz 8800 b) : Sz 8800 (Int.gcd t b : Int) := by
  unfold Sz
  rw [Int.natAbs_natCast]
  exact Nat.lt_of_le_of_lt (Nat.le_of_dvd (by omega) (Int.gcd_dvd_natAbs_right t b)) hb
theorem gs_sz {t b : Int} (h : b ≠ 0) (hb : Sz 8800 b) : Sz 8900 (gs t b) := by
  unfold gs
  split
  · exact (gcd_sz h hb).neg.mono (by decide)
  · exact (gcd_sz h hb).mono (by decide)
section
variable {P : Program} {w : World} {K : PySem.W.Frag} {mg : Str → Option Value} {base : Heap}
theorem ok_low (D : Df K mg "_law_low" s_l_low []) (hab : mg "abs" = none) : Ca P w K mg base CX0 1 "_law_low" s_l_low [] ["_law_top", "_law_bottom"] spLow := by
  refine ca0 (k := 0) D c_l_low (fun vs H Q E h => ?_) fun f cdv A outer s H vs Q E hr h => ?_
  · obtain ⟨t, b, rfl, _⟩ := h
    rfl
  · obtain ⟨t, b, rfl, hb, zt, zb, q⟩ := h
    refine ⟨_, pss_cons (ps_par (i := 2) (j := 3) rfl c_l_low.nd rfl rfl (by decide) rfl rfl (pa_cons (pe_callB call_abs rfl hab (by decide +kernel) (pa_cons (pv 0) pa_nil)) (pa_cons (pe_callB call_abs rfl hab (by decide +kernel) (pa_cons (pv 1) pa_nil)) pa_nil)) rfl)
      (pss_cons (ps_while PassesOwn.never (pt_cmpR op_gt (pv 3) pe_int (nomark _)) (pss_one (ps_par (i := 2) (j := 3) rfl c_l_low.nd rfl rfl (by decide) rfl rfl (pa_cons (pv 3) (pa_cons (pe_op op_mod (pv 2) (pv 3)) pa_nil)) rfl)))
      (pss_cons (ps_if (pt_cmpR op_lt (pv 1) pe_int (nomark _)) (pss_one (ps_set (i := 2) c_l_low.nd rfl (.inl rfl) (pe_op op_sub pe_int (pv 2)))) pss_nil)
      (pss_one (ps_ret (pe_tup (pa_cons (pe_op op_fdivA (pv 0) (pv 2)) (pa_cons (pe_op op_fdivA (pv 1) (pv 2)) pa_nil))))))), ?_⟩
    refine ⟨_, rfl, t, rfl, _, rfl, b, rfl, _, _, rfl, ?_⟩
    refine while_by (fun σ H' => ∃ c d : Int, σ = [some (.int t), some (.int b), some (.int c), some (.int d)] ∧ 0 ≤ c ∧ 0 ≤ d ∧ Int.gcd c d = Int.gcd t b ∧ H' = H) (mu2 3) ⟨_, _, rfl, ?_, ?_, ?_, rfl⟩ ?_ (fun σ H' R R' hq ⟨v, h1, i, j, h2, h3, k, h4, h5⟩ => ⟨v, h1, i, j, h2, h3, k, h4, hq _ _ h5⟩)
    · split <;> omega
    · split <;> omega
    · have e : ∀ x : Int, (if x < 0 then -x else x) = (x.natAbs : Int) := fun x => by split <;> omega
      rw [e, e]
      show Nat.gcd _ _ = Nat.gcd _ _
      rw [Int.natAbs_natCast, Int.natAbs_natCast]
    rintro σ H' ⟨c, d, rfl, hc, hd, hg, rfl⟩
    refine ⟨_, rfl, _, _, rfl, rfl, _, rfl, ?_⟩
    by_cases h0 : 0 < d
    · rw [decide_eq_true h0]
      refine iteT ?_
      refine ⟨_, rfl, _, rfl, _, rfl, _, _, rfl, rfl, h0, _, _, rfl, ⟨d, c % d, rfl, hd, Int.emod_nonneg _ (by omega), ?_, rfl⟩, ?_⟩
      · rw [gcd_emod']
        exact hg
      · have h1 := Int.emod_nonneg c (show d ≠ 0 by omega)
        have h2 := Int.emod_lt_of_pos c h0
        show (c % d).natAbs < d.natAbs
        omega
    · rw [decide_eq_false h0]
      refine iteF ?_
      have d0 : d = 0 := by omega
      subst d0
      have ec : c = (Int.gcd t b : Int) := by
        rw [← hg, Int.gcd_zero_right]
        omega
      subst ec
      have fin : ∀ σ' : L2.St, σ' = [some (.int t), some (.int b), some (.int (gs t b)), some (.int 0)] → (tRet (tTup (tCons (tOp (rI CDivA fun i j => .int (i.fdiv j)) (tVar 0) (tVar 2)) (tCons (tOp (rI CDivA fun i j => .int (i.fdiv j)) (tVar 1) (tVar 2)) tNil)))) { nx := fun _ H' => Q .non H', rt := Q } σ' H' := by
        rintro σ' rfl
        refine ⟨_, rfl, _, rfl, _, _, rfl, rfl, ⟨gs_ne hb, gs_sz hb zb⟩, _, rfl, _, rfl, _, _, rfl, rfl, ⟨gs_ne hb, gs_sz hb zb⟩, (by show 2 ≤ sizeLine; decide), fun p hp => ?_⟩
        have z := q p hp
        rw [← low_num hb, ← low_den hb] at z
        exact z
      refine ⟨_, rfl, _, _, rfl, rfl, _, rfl, ?_⟩
      by_cases hn : b < 0
      · rw [decide_eq_true hn]
        refine iteT ?_
        refine ⟨_, rfl, _, _, rfl, rfl, fin _ ?_⟩
        show [some (V.int t), some (V.int b), some (V.int (0 - (Int.gcd t b : Int))), some (V.int 0)] = _
        unfold gs
        rw [if_pos hn, Int.zero_sub]
      · rw [decide_eq_false hn]
        refine iteF (fin _ ?_)
        unfold gs
        rw [if_neg hn]
end
/-! ### the law's draws -/
theorem md {j : Int} (h : 0 < j := by decide) : 0 < j := h
/-- at l stand draws, of which at most n were taken -/
def Dr (H : Hp) (l : Addr) (n : Nat) : Prop := ∃ (d k : Int) (f : Bool), H l = some (.lst [.int d, .int k, .bl f]) ∧ 0 ≤ k ∧ k ≤ n
/-- all but what stands at l is as it was -/
def But (l : Addr) (H H' : Hp) : Prop := ∀ b o, b ≠ l → H b = some o → H' b = some o
theorem But.refl {l : Addr} {H : Hp} : But l H H := fun _ _ _ h => h
theorem But.trans {l : Addr} {H H1 H2 : Hp} (a : But l H H1) (b : But l H1 H2) : But l H H2 := fun c o hc h => b c o hc (a c o hc h)
theorem But.same {l : Addr} {H H1 : Hp} (a : Same H H1) : But l H H1 := fun c o _ h => a c o h
theorem But.upd {l : Addr} {H H1 : Hp} {p : Addr} {o : HO} (a : But l H H1) (h : H1 p = none) : But l H (upd H1 p o) := fun c u hc e => by
  rw [upd_ne (ne_of_none (a c u hc e) h)]
  exact a c u hc e
theorem But.tup {l p : Addr} {H H1 : Hp} {n : Nat} {xs : List V} (a : But l H H1) (d : Dr H l n) (h : H p = some (.tup xs)) : H1 p = some (.tup xs) := by
  obtain ⟨_, _, _, hl, _⟩ := d
  exact a _ _ (ne_of h hl (by intro z; cases z)) h
theorem But.ins {l p C dx : Addr} {H H1 : Hp} {n : Nat} {fs : List (Str × V)} (a : But l H H1) (d : Dr H l n) (h : H p = some (.ins C dx fs)) : H1 p = some (.ins C dx fs) := by
  obtain ⟨_, _, _, hl, _⟩ := d
  exact a _ _ (ne_of h hl (by intro z; cases z)) h
theorem Same.upd {H H1 : Hp} {p : Addr} {o : HO} (a : Same H H1) (h : H1 p = none) : Same H (upd H1 p o) := fun c u e => by
  rw [upd_ne (ne_of_none (a c u e) h)]
  exact a c u e
theorem Same.new {H : Hp} {p : Addr} {o : HO} (h : H p = none) : Same H (L2.upd H p o) := Same.upd (Same.refl H) h
theorem Dr.same {H H1 : Hp} {l : Addr} {n m : Nat} (d : Dr H l n) (s : Same H H1) (h : n ≤ m) : Dr H1 l m := by
  obtain ⟨d, k, f, hl, h1, h2⟩ := d
  exact ⟨d, k, f, s _ _ hl, h1, by omega⟩
theorem Dr.mono {H : Hp} {l : Addr} {n m : Nat} (d : Dr H l n) (h : n ≤ m) : Dr H l m := d.same (Same.refl H) h
theorem Dr.new {H : Hp} {l p : Addr} {n : Nat} {o : HO} (d : Dr H l n) (h : H p = none) : Dr (L2.upd H p o) l n := d.same (Same.new h) (Nat.le_refl _)
def spDraws : Sp := fun vs H Q _ => ∃ c : Int, vs = [.int c] ∧ ∀ p H', H p = none → Same H H' → Dr H' p 0 → Q (.ref p) H'
def spNext : Sp := fun vs H Q _ => ∃ (l : Addr) (n : Nat), vs = [.ref l] ∧ Dr H l n ∧ n ≤ 1000000 ∧ ∀ v H', 0 ≤ v → v < 306783369 → But l H H' → Dr H' l (n + 1) → Q (.int v) H'
section
variable {P : Program} {w : World} {K : PySem.W.Frag} {mg : Str → Option Value} {base : Heap}
theorem ok_draws (D : Df K mg "_law_draws" s_l_draws []) (hra : mg "range" = none) : Ca P w K mg base CX0 1 "_law_draws" s_l_draws [] ["_law_cell"] spDraws := by
  refine ca0 (k := 0) D c_l_draws (fun vs H Q E h => ?_) fun f cdv A outer s H vs Q E hr h => ?_
  · obtain ⟨c, rfl, _⟩ := h
    rfl
  · obtain ⟨c, rfl, q⟩ := h
    refine ⟨_, pss_cons (ps_set (i := 1) c_l_draws.nd rfl (.inl rfl) (pe_op op_pow pe_int pe_int))
      (pss_cons (ps_for PassesOwn.never rfl (pi_range1 rfl hra (pa_cons pe_int pa_nil)) (pg_name (i := 2) c_l_draws.nd rfl (.inl rfl)) (pss_one (ps_set (i := 1) c_l_draws.nd rfl (.inl rfl) (pe_op op_mulA (pv 1) (pv 1)))))
      (pss_one (ps_ret (pe_lst (pa_cons (pe_op op_mod (pv 0) (pv 1)) (pa_cons pe_int (pa_cons (pe_cmpR op_ge (pv 0) (pe_op op_pow pe_int pe_int) (nomark _)) pa_nil))))))), ?_⟩
    refine ⟨_, _, rfl, rfl, ⟨by decide, by decide, by decide⟩, 7, rfl, by decide, by decide, ?_⟩
    refine for_range (n := 7) (fun i σ H' => ∃ (z : Int) (v : Option V), σ = [some (.int c), some (.int z), v] ∧ 0 < z ∧ Sz (200 * 2 ^ i) z ∧ H' = H) ⟨_, _, rfl, by decide, (by show (10 ^ 60 : Int).natAbs < 2 ^ (200 * 2 ^ 0); decide), rfl⟩ ?_ ?_
    · rintro i σ H' hi ⟨z, v, rfl, h0, hz, rfl⟩
      have l1 : 2 ^ i ≤ 2 ^ 6 := Nat.pow_le_pow_right (by decide) (by omega)
      have hz' : Sz 100000 z := hz.mono (Nat.le_trans (Nat.mul_le_mul_left 200 l1) (by decide))
      refine ⟨_, rfl, _, rfl, _, _, rfl, rfl, ⟨hz', hz'⟩, ⟨z * z, _, rfl, Int.mul_pos h0 h0, ?_, rfl⟩⟩
      exact (hz.mul hz).mono (by rw [Nat.pow_succ]; omega)
    · rintro σ H' ⟨z, v, rfl, h0, hz, rfl⟩
      refine ⟨_, rfl, _, rfl, _, _, rfl, rfl, h0, _, rfl, _, _, rfl, rfl, ⟨by decide, by decide, by decide⟩, _, _, rfl, rfl, (by show 3 ≤ sizeLine; decide), fun p hp => ?_⟩
      exact q p _ hp (Same.new hp) ⟨_, _, _, upd_same, by decide, by decide⟩
end
section
variable {P : Program} {w : World} {K : PySem.W.Frag} {mg : Str → Option Value} {base : Heap}
theorem ok_next (D : Df K mg "_law_next" s_l_next []) : Ca P w K mg base CX0 1 "_law_next" s_l_next [] ["_law_draws_here"] spNext := by
  refine ca0 (k := 0) D c_l_next (fun vs H Q E h => ?_) fun f cdv A outer s H vs Q E hr h => ?_
  · obtain ⟨l, n, rfl, _⟩ := h
    rfl
  · obtain ⟨l, n, rfl, ⟨d, k, fl, hl, k0, k1⟩, hn, q⟩ := h
    refine ⟨_, pss_cons (ps_asg (pe_op op_add (pe_ix ix_list (pv 0) pe_int (fun _ _ => rfl)) pe_int) (pg_sub (pv 0) pe_int set_list))
      (pss_cons (ps_set (i := 1) c_l_next.nd rfl (.inl rfl) (pe_ix ix_list (pv 0) pe_int (fun _ _ => rfl)))
      (pss_cons (ps_if (pt_val (pe_ix ix_list (pv 0) pe_int (fun _ _ => rfl)))
        (pss_cons (ps_set (i := 2) c_l_next.nd rfl (.inl rfl) (pe_op op_mod (pe_ix ix_list (pv 0) pe_int (fun _ _ => rfl)) (pe_op op_pow pe_int pe_int)))
        (pss_cons (ps_asg (pe_op op_fdiv (pe_ix ix_list (pv 0) pe_int (fun _ _ => rfl)) (pe_op op_pow pe_int pe_int)) (pg_sub (pv 0) pe_int set_list))
        (pss_one (ps_ret (pv 2))))) pss_nil)
      (pss_cons (ps_set (i := 2) c_l_next.nd rfl (.inl rfl) (pe_op op_mod (pe_op op_mul (pe_op op_add (pe_op op_add (pe_op op_mod (pe_ix ix_list (pv 0) pe_int (fun _ _ => rfl)) pe_int) (pe_op op_mul (pe_op op_mul (pv 1) (pv 1)) pe_int)) (pv 1)) pe_int) pe_int))
      (pss_cons (ps_set (i := 2) c_l_next.nd rfl (.inl rfl) (pe_op op_mod (pe_op op_mul (pv 2) (pv 2)) pe_int))
      (pss_one (ps_ret (pe_op op_fdiv (pe_op op_mod (pe_op op_mul (pv 2) (pe_op op_add (pv 2) pe_int)) pe_int) pe_int))))))), ?_⟩
    refine ⟨_, rfl, l, _, _, _, rfl, rfl, SqL.of hl, rfl, _, _, rfl, rfl, _, rfl, l, _, _, _, rfl, rfl, hl, rfl, ?_⟩
    refine ⟨_, rfl, l, _, _, _, rfl, rfl, SqL.of upd_same, rfl, ?_⟩
    refine ⟨_, rfl, l, _, _, _, rfl, rfl, SqL.of upd_same, rfl, _, rfl, ?_⟩
    cases fl with
    | true =>
      refine iteT ?_
      refine ⟨_, rfl, l, _, _, _, rfl, rfl, SqL.of upd_same, rfl, _, _, rfl, rfl, ⟨by decide, by decide, by decide⟩, _, _, rfl, rfl, md, ?_⟩
      refine ⟨_, rfl, l, _, _, _, rfl, rfl, SqL.of upd_same, rfl, _, _, rfl, rfl, ⟨by decide, by decide, by decide⟩, _, _, rfl, rfl, ⟨by decide, by decide⟩, _, rfl, l, _, _, _, rfl, rfl, upd_same, rfl, ?_⟩
      refine ⟨_, rfl, ?_⟩
      have h1 := Int.emod_nonneg d (show (1000000 : Int) ≠ 0 by decide)
      have h2 := Int.emod_lt_of_pos d (show (0 : Int) < 1000000 by decide)
      refine q (d % 1000000) _ h1 (by omega) (fun b o hb e => ?_) ⟨_, _, _, upd_same, by omega, by omega⟩
      rw [upd_ne hb, upd_ne hb]
      exact e
    | false =>
      refine iteF ?_
      have g1 := Int.emod_nonneg ((d % 1000003 + (k + 1) * (k + 1) * 7919 + (k + 1)) * 48271) (show (2147483629 : Int) ≠ 0 by decide)
      have g2 := Int.emod_lt_of_pos ((d % 1000003 + (k + 1) * (k + 1) * 7919 + (k + 1)) * 48271) (show (0 : Int) < 2147483629 by decide)
      refine ⟨_, rfl, l, _, _, _, rfl, rfl, SqL.of upd_same, rfl, _, _, rfl, rfl, md, _, rfl, _, rfl, _, _, rfl, rfl, .inl ⟨by omega, by omega⟩, _, _, rfl, rfl, .inr ⟨by decide, by decide⟩, _, _, rfl, rfl, _, rfl, _, _, rfl, rfl, _, _, rfl, rfl, .inr ⟨by decide, by decide⟩, _, _, rfl, rfl, md, ?_⟩
      refine ⟨_, rfl, _, rfl, _, _, rfl, rfl, .inl ⟨Int.lt_of_lt_of_le (by decide) g1, Int.lt_trans g2 (by decide)⟩, _, _, rfl, rfl, md, ?_⟩
      generalize hz : ((d % 1000003 + (k + 1) * (k + 1) * 7919 + (k + 1)) * 48271 % 2147483629) * ((d % 1000003 + (k + 1) * (k + 1) * 7919 + (k + 1)) * 48271 % 2147483629) = z
      have i1 := Int.emod_nonneg z (show (2147483587 : Int) ≠ 0 by decide)
      have i2 := Int.emod_lt_of_pos z (show (0 : Int) < 2147483587 by decide)
      refine ⟨_, rfl, _, rfl, _, _, rfl, rfl, _, _, rfl, rfl, .inl ⟨Int.lt_of_lt_of_le (by decide) i1, Int.lt_trans i2 (by decide)⟩, _, _, rfl, rfl, md, _, _, rfl, rfl, ⟨by decide, by decide⟩, ?_⟩
      have j1 := Int.emod_nonneg (z % 2147483587 * (z % 2147483587 + 2)) (show (2147483579 : Int) ≠ 0 by decide)
      have j2 := Int.emod_lt_of_pos (z % 2147483587 * (z % 2147483587 + 2)) (show (0 : Int) < 2147483579 by decide)
      refine q (z % 2147483587 * (z % 2147483587 + 2) % 2147483579 / 7) _ (by omega) (by omega) (fun b o hb e => ?_) ⟨_, _, _, upd_same, by omega, by omega⟩
      rw [upd_ne hb]
      exact e
end
/-! ### Share -/
def sf (t b : Int) : List (Str × V) := putF "bottom" (.int b) (putF "top" (.int t) [])
theorem tb_ : ¬ (("top" : Str) = "bottom") := by decide +kernel
theorem sf_eq (t b : Int) : sf t b = ([("top", V.int t), ("bottom", V.int b)] : List (Str × V)) := by
  show (if ("top" : Str) = "bottom" then [(("top" : Str), V.int b)] else (("top" : Str), V.int t) :: putF "bottom" (V.int b) []) = _
  rw [if_neg tb_]
  rfl
theorem sf_top (t b : Int) : (sf t b).lookup ("top" : Str) = some (.int t) := by
  unfold sf
  rw [lookup_putF, if_neg tb_, lookup_putF, if_pos rfl]
theorem sf_bottom (t b : Int) : (sf t b).lookup ("bottom" : Str) = some (.int b) := by
  unfold sf
  rw [lookup_putF, if_pos rfl]
/-- what the top says of the class -/
structure ShT (K : PySem.W.Frag) (C : Addr) : Prop where
  cl : Cls K C
  nT : NoAttr K C "top"
  nB : NoAttr K C "bottom"
/-- at p a Share of q -/
def Sh (C : Addr) (H : Hp) (p : Addr) (q : Rat) : Prop := ∃ dx, H p = some (.ins C dx (sf q.num q.den))
theorem Sh.same {C p : Addr} {H H1 : Hp} {q : Rat} (h : Sh C H p q) (s : Same H H1) : Sh C H1 p q := by
  obtain ⟨dx, e⟩ := h
  exact ⟨dx, s _ _ e⟩
/-- Share's __init__, with no bottom of 0 -/
def spShI (C : Addr) : Sp := fun vs H Q _ => ∃ (p dx : Addr) (t b : Int), vs = [.ref p, .int t, .int b] ∧ H p = some (.ins C dx []) ∧ b ≠ 0 ∧ Sz 8800 t ∧ Sz 8800 b ∧
  Q .non (upd H p (.ins C dx (sf (Rat.divInt t b).num (Rat.divInt t b).den)))
section
variable {P : Program} {w : World} {K : PySem.W.Frag} {mg : Str → Option Value} {base : Heap} {C : Addr}
theorem ok_shI (D : Di K mg "Share" C "Share.__init__" s_Share_init [.int 1]) (T : ShT K C) (g : Ca P w K mg base CX0 1 "common_divisor" s_common_divisor [] ["one", "two"] spGcd) : Ci P w K mg base CX0 2 "Share" C "Share.__init__" s_Share_init [.int 1] ["self", "top", "bottom"] (spShI C) := by
  refine ci0 (k := 1) D c_Share_init (fun vs H Q E h => ?_) fun f cdv A outer s H vs Q E hr h => ?_
  · obtain ⟨p, dx, t, b, rfl, _⟩ := h
    rfl
  · obtain ⟨p, dx, t, b, rfl, hp, hb, zt, zb, q⟩ := h
    refine ⟨_, pss_cons (ps_if (pt_cmpR op_eq (pv 2) pe_int (nomark _)) (pss_one ps_never) pss_nil)
      (pss_cons (ps_set (i := 3) c_Share_init.nd rfl (.inl rfl) (pe_ca g b_common_divisor hr (by decide) pass0 rfl (pa_cons (pv 1) (pa_cons (pv 2) pa_nil))))
      (pss_cons (ps_if (pt_cmpR op_lt (pv 2) pe_int (nomark _)) (pss_one (ps_set (i := 3) c_Share_init.nd rfl (.inl rfl) (pe_un un_neg (pv 3)))) pss_nil)
      (pss_cons (ps_fld (pv 0) (pe_op op_fdivA (pv 1) (pv 3)) rfl) (pss_one (ps_fld (pv 0) (pe_op op_fdivA (pv 2) (pv 3)) rfl))))), ?_⟩
    refine ⟨_, rfl, rfl, _, rfl, ?_⟩
    rw [decide_eq_false (show ¬ V.int b = V.int 0 from fun z => hb (V.int.inj z))]
    refine iteF ?_
    refine ⟨_, rfl, _, rfl, t, b, rfl, ?_⟩
    have fin : ∀ σ' : L2.St, σ' = [some (.ref p), some (.int t), some (.int b), some (.int (gs t b))] →
        tSeq (sFld K (tVar 0) (tOp (rI CDivA fun i j => .int (i.fdiv j)) (tVar 1) (tVar 3)) "top") (sFld K (tVar 0) (tOp (rI CDivA fun i j => .int (i.fdiv j)) (tVar 2) (tVar 3)) "bottom") { nx := fun _ H' => Q .non H', rt := Q } σ' H := by
      rintro σ' rfl
      refine ⟨_, rfl, _, rfl, _, _, rfl, rfl, ⟨gs_ne hb, gs_sz hb zb⟩, _, rfl, p, C, dx, _, rfl, hp, T.cl, T.nT, (by show 0 < 1000; decide), ?_⟩
      refine ⟨_, rfl, _, rfl, _, _, rfl, rfl, ⟨gs_ne hb, gs_sz hb zb⟩, _, rfl, p, C, dx, _, rfl, upd_same, T.cl, T.nB, (by show 1 < 1000; decide), ?_⟩
      rw [upd_upd]
      rw [← low_num hb, ← low_den hb] at q
      exact q
    refine ⟨_, rfl, _, _, rfl, rfl, _, rfl, ?_⟩
    by_cases hn : b < 0
    · rw [decide_eq_true hn]
      refine iteT ?_
      refine ⟨_, rfl, _, rfl, fin _ ?_⟩
      unfold gs
      rw [if_pos hn]
      rfl
    · rw [decide_eq_false hn]
      refine iteF (fin _ ?_)
      unfold gs
      rw [if_neg hn]
      rfl
theorem bd_Share2 : Bd1 "__init__" "Share.__init__" s_Share_init ["self", "top", "bottom"] 3 1 1 := fun _ _ _ _ _ _ _ us its hu hi => match us, hu, its, hi with | [_, _, _], _, [_], _ => ⟨_, rfl, rfl⟩
theorem bd_Share1 : Bd1 "__init__" "Share.__init__" s_Share_init ["self", "top", "bottom"] 2 0 1 := fun _ _ _ _ _ _ _ us its hu hi => match us, hu, its, hi with | [_, _], _, [_], _ => ⟨_, rfl, rfl⟩
end
/-- a new Share, read as its maker's caller wants it -/
theorem made_sh {C : Addr} {H : Hp} {R : Addr → Hp → Prop} {E : XK} {t b : Int} (hb : b ≠ 0) (zt : Sz 8800 t) (zb : Sz 8800 b) (h : ∀ p H', H p = none → Same H H' → Sh C H' p (Rat.divInt t b) → R p H') :
    ∀ x dx, H x = none → H dx = none → dx ≠ x → spShI C [.ref x, .int t, .int b] (upd (upd H dx (.own x)) x (.ins C dx [])) (fun v H2 => v = .non ∧ R x H2) E := by
  intro x dx hx hd ne
  refine ⟨x, dx, t, b, rfl, upd_same, hb, zt, zb, rfl, ?_⟩
  rw [upd_upd]
  refine h x _ hx (Same.upd (Same.new hd) ?_) ⟨dx, upd_same⟩
  rw [upd_ne ne.symm]
  exact hx
/-! ### the module's functions over Shares and whole numbers -/
structure ShX (K : PySem.W.Frag) (C : Addr) : Prop extends ShT K C where
  ty : ∀ (H : Hp) (a dx : Addr) (fs : List (Str × V)), H a = some (.ins C dx fs) → TyX K H (.ref a) (.ref C)
  nInt : PySem.W.kitOne K (.type "int") (.ref C) = some false
theorem kit_self {K : PySem.W.Frag} {C : Addr} : PySem.W.kitOne K (.ref C) (.ref C) = some true := by
  unfold PySem.W.kitOne
  rw [if_pos (by simp)]
/-- v stands for q: a whole number, or a Share -/
def Rv (C : Addr) (H : Hp) (v : V) (q : Rat) : Prop := (∃ i : Int, v = .int i ∧ q = (i : Rat)) ∨ ∃ p, v = .ref p ∧ Sh C H p q
theorem Rv.same {C : Addr} {H H1 : Hp} {v : V} {q : Rat} (h : Rv C H v q) (s : Same H H1) : Rv C H1 v q := by
  rcases h with h | ⟨p, e, h⟩
  · exact .inl h
  · exact .inr ⟨p, e, h.same s⟩
theorem Rv.int {C : Addr} {H : Hp} {i : Int} : Rv C H (.int i) (i : Rat) := .inl ⟨i, rfl, rfl⟩
theorem Sh.rv {C p : Addr} {H : Hp} {q : Rat} (h : Sh C H p q) : Rv C H (.ref p) q := .inr ⟨p, rfl, h⟩
def spAs (C : Addr) : Sp := fun vs H Q _ => ∃ (v : V) (q : Rat), vs = [v] ∧ Rv C H v q ∧ Rz 8700 q ∧ ∀ p H', Same H H' → Sh C H' p q → Q (.ref p) H'
/-- a function of two that tells a Share -/
def spTwo (C : Addr) (ok : Rat → Rat → Prop) (g : Rat → Rat → Rat) : Sp := fun vs H Q _ => ∃ (v u : V) (a b : Rat), vs = [v, u] ∧ Rv C H v a ∧ Rv C H u b ∧ Rz 4300 a ∧ Rz 4300 b ∧ ok a b ∧ ∀ p H', H p = none → Same H H' → Sh C H' p (g a b) → Q (.ref p) H'
def spBefore (C : Addr) : Sp := fun vs H Q _ => ∃ (v u : V) (a b : Rat), vs = [v, u] ∧ Rv C H v a ∧ Rv C H u b ∧ Rz 4300 a ∧ Rz 4300 b ∧ ∀ H', Same H H' → Q (.bl (decide (a < b))) H'
def spOne (C : Addr) (g : Rat → Int) : Sp := fun vs H Q _ => ∃ (v : V) (a : Rat), vs = [v] ∧ Rv C H v a ∧ Rz 8700 a ∧ ∀ H', Same H H' → Q (.int (g a)) H'
theorem divInt_one (i : Int) : Rat.divInt i 1 = (i : Rat) := by
  have := Rat.num_divInt_den (i : Rat)
  exact this
section
variable {P : Program} {w : World} {K : PySem.W.Frag} {mg : Str → Option Value} {base : Heap} {C : Addr}
theorem ok_as (D : Df K mg "as_share" s_as_share []) (T : ShX K C) (his : mg "isinstance" = none) (hC : mg "Share" = some (.ref C)) (m : Ci P w K mg base CX0 2 "Share" C "Share.__init__" s_Share_init [.int 1] ["self", "top", "bottom"] (spShI C)) :
    Ca P w K mg base CX0 4 "as_share" s_as_share [] ["number"] (spAs C) := by
  refine ca0 (k := 3) D c_as_share (fun vs H Q E h => ?_) fun f cdv A outer s H vs Q E hr h => ?_
  · obtain ⟨v, q, rfl, _⟩ := h
    rfl
  · obtain ⟨v, a, rfl, hv, za, q⟩ := h
    refine ⟨_, pss_cons (ps_if (pt_val (pe_callB call_isi rfl his (by decide +kernel) (pa_cons (pv 0) (pa_cons (pe_glob (v := .ref C) rfl hC rfl) pa_nil)))) (pss_one (ps_ret (pv 0))) pss_nil)
      (pss_one (ps_ret (pe_ci m bd_Share1 (by decide) rfl hr (by decide) pass0 rfl (pa_cons (pv 0) pa_nil)))), ?_⟩
    rcases hv with ⟨i, rfl, rfl⟩ | ⟨p, rfl, hp⟩
    · refine ⟨_, rfl, _, _, _, _, _, rfl, .own C, .base (.int i), T.nInt, _, rfl, iteF ?_⟩
      refine ⟨_, rfl, ?_⟩
      refine made_sh (by decide) (za.1.mono (by decide)) (by show 1 < 2 ^ 8800; exact Nat.one_lt_two_pow (by decide)) fun p H' _ hs hp => ?_
      rw [divInt_one] at hp
      exact q p H' hs hp
    · obtain ⟨dx, e⟩ := id hp
      refine ⟨_, rfl, _, _, _, _, _, rfl, .own C, T.ty _ _ _ _ e, kit_self, _, rfl, iteT ?_⟩
      exact ⟨_, rfl, q p H (Same.refl H) hp⟩
/-- the fields of a Share at p -/
theorem rd_top {i : Nat} {σ : L2.St} {H : Hp} {p : Addr} {a : Rat} {Q : VK} (T : ShT K C) (hp : Sh C H p a) (e : σ[i]? = some (some (.ref p))) (q : Q (.int a.num) H) : tFld K (tVar i) "top" σ H Q := by
  obtain ⟨dx, h⟩ := hp
  exact ⟨_, e, p, C, dx, _, _, rfl, h, T.cl, T.nT, sf_top _ _, q⟩
theorem rd_bottom {i : Nat} {σ : L2.St} {H : Hp} {p : Addr} {a : Rat} {Q : VK} (T : ShT K C) (hp : Sh C H p a) (e : σ[i]? = some (some (.ref p))) (q : Q (.int a.den) H) : tFld K (tVar i) "bottom" σ H Q := by
  obtain ⟨dx, h⟩ := hp
  exact ⟨_, e, p, C, dx, _, _, rfl, h, T.cl, T.nB, sf_bottom _ _, q⟩
end
section
variable {P : Program} {w : World} {K : PySem.W.Frag} {mg : Str → Option Value} {base : Heap} {C : Addr}

theorem ok_plus (D : Df K mg "plus" s_plus []) (T : ShX K C) (a : Ca P w K mg base CX0 4 "as_share" s_as_share [] ["number"] (spAs C)) (m : Ci P w K mg base CX0 2 "Share" C "Share.__init__" s_Share_init [.int 1] ["self", "top", "bottom"] (spShI C)) :
    Ca P w K mg base CX0 5 "plus" s_plus [] ["one", "two"] (spTwo C (fun _ _ => True) (fun a b => a + b)) := by
  refine ca0 (k := 4) D c_plus (fun vs H Q E h => ?_) fun f cdv A outer s H vs Q E hr h => ?_
  · obtain ⟨v, u, x, y, rfl, _⟩ := h
    rfl
  · obtain ⟨v, u, x, y, rfl, hv, hu, zx, zy, ok, q⟩ := h
    refine ⟨_, pss_cons (ps_set (i := 2) c_plus.nd rfl (.inl rfl) (pe_ca a b_as_share hr (by decide) pass0 rfl (pa_cons (pv 0) pa_nil)))
      (pss_cons (ps_set (i := 3) c_plus.nd rfl (.inl rfl) (pe_ca a b_as_share hr (by decide) pass0 rfl (pa_cons (pv 1) pa_nil)))
      (pss_one (ps_ret (pe_ci m bd_Share2 (by decide) rfl hr (by decide) pass0 rfl (pa_cons (pe_op op_add (pe_op op_mulA (pe_fld (pv 2) rfl) (pe_fld (pv 3) rfl)) (pe_op op_mulA (pe_fld (pv 3) rfl) (pe_fld (pv 2) rfl))) (pa_cons (pe_op op_mulA (pe_fld (pv 2) rfl) (pe_fld (pv 3) rfl)) pa_nil)))))), ?_⟩
    refine ⟨_, rfl, v, x, rfl, hv, zx.mono (by decide), fun p1 H1 s1 h1 => ?_⟩
    refine ⟨_, rfl, u, y, rfl, hu.same s1, zy.mono (by decide), fun p2 H2 s2 h2 => ?_⟩
    obtain ⟨d1, e1⟩ := h1.same s2
    obtain ⟨d2, e2⟩ := h2
    have mz : ∀ i j : Int, Sz 4300 i → Sz 4300 j → CMulA i j := fun i j hi hj => ⟨hi.mono (by decide), hj.mono (by decide)⟩
    refine ⟨_, rfl, p1, C, d1, _, _, rfl, e1, T.cl, T.nT, sf_top _ _, _, rfl, p2, C, d2, _, _, rfl, e2, T.cl, T.nB, sf_bottom _ _, _, _, rfl, rfl, mz _ _ zx.1 zy.2, _, rfl, p2, C, d2, _, _, rfl, e2, T.cl, T.nT, sf_top _ _, _, rfl, p1, C, d1, _, _, rfl, e1, T.cl, T.nB, sf_bottom _ _, _, _, rfl, rfl, mz _ _ zy.1 zx.2, _, _, rfl, rfl, _, rfl, p1, C, d1, _, _, rfl, e1, T.cl, T.nB, sf_bottom _ _, _, rfl, p2, C, d2, _, _, rfl, e2, T.cl, T.nB, sf_bottom _ _, _, _, rfl, rfl, mz _ _ zx.2 zy.2, ?_⟩
    refine made_sh (Int.ne_of_gt (Int.mul_pos (den_pos x) (den_pos y))) (Sz.add (n := 8600) ((zx.1.mul zy.2).mono (by decide)) ((zy.1.mul zx.2).mono (by decide)) (by decide)) ((zx.2.mul zy.2).mono (by decide)) fun p H' hp hs hq => ?_
    refine q p H' ((s1.trans s2).free hp) (s1.trans (s2.trans hs)) ?_
    exact (congrArg (Sh C H' p) (add_eq x y)).mpr hq


theorem ok_minus (D : Df K mg "minus" s_minus []) (T : ShX K C) (a : Ca P w K mg base CX0 4 "as_share" s_as_share [] ["number"] (spAs C)) (m : Ci P w K mg base CX0 2 "Share" C "Share.__init__" s_Share_init [.int 1] ["self", "top", "bottom"] (spShI C)) :
    Ca P w K mg base CX0 5 "minus" s_minus [] ["one", "two"] (spTwo C (fun _ _ => True) (fun a b => a - b)) := by
  refine ca0 (k := 4) D c_minus (fun vs H Q E h => ?_) fun f cdv A outer s H vs Q E hr h => ?_
  · obtain ⟨v, u, x, y, rfl, _⟩ := h
    rfl
  · obtain ⟨v, u, x, y, rfl, hv, hu, zx, zy, ok, q⟩ := h
    refine ⟨_, pss_cons (ps_set (i := 2) c_minus.nd rfl (.inl rfl) (pe_ca a b_as_share hr (by decide) pass0 rfl (pa_cons (pv 0) pa_nil)))
      (pss_cons (ps_set (i := 3) c_minus.nd rfl (.inl rfl) (pe_ca a b_as_share hr (by decide) pass0 rfl (pa_cons (pv 1) pa_nil)))
      (pss_one (ps_ret (pe_ci m bd_Share2 (by decide) rfl hr (by decide) pass0 rfl (pa_cons (pe_op op_sub (pe_op op_mulA (pe_fld (pv 2) rfl) (pe_fld (pv 3) rfl)) (pe_op op_mulA (pe_fld (pv 3) rfl) (pe_fld (pv 2) rfl))) (pa_cons (pe_op op_mulA (pe_fld (pv 2) rfl) (pe_fld (pv 3) rfl)) pa_nil)))))), ?_⟩
    refine ⟨_, rfl, v, x, rfl, hv, zx.mono (by decide), fun p1 H1 s1 h1 => ?_⟩
    refine ⟨_, rfl, u, y, rfl, hu.same s1, zy.mono (by decide), fun p2 H2 s2 h2 => ?_⟩
    obtain ⟨d1, e1⟩ := h1.same s2
    obtain ⟨d2, e2⟩ := h2
    have mz : ∀ i j : Int, Sz 4300 i → Sz 4300 j → CMulA i j := fun i j hi hj => ⟨hi.mono (by decide), hj.mono (by decide)⟩
    refine ⟨_, rfl, p1, C, d1, _, _, rfl, e1, T.cl, T.nT, sf_top _ _, _, rfl, p2, C, d2, _, _, rfl, e2, T.cl, T.nB, sf_bottom _ _, _, _, rfl, rfl, mz _ _ zx.1 zy.2, _, rfl, p2, C, d2, _, _, rfl, e2, T.cl, T.nT, sf_top _ _, _, rfl, p1, C, d1, _, _, rfl, e1, T.cl, T.nB, sf_bottom _ _, _, _, rfl, rfl, mz _ _ zy.1 zx.2, _, _, rfl, rfl, _, rfl, p1, C, d1, _, _, rfl, e1, T.cl, T.nB, sf_bottom _ _, _, rfl, p2, C, d2, _, _, rfl, e2, T.cl, T.nB, sf_bottom _ _, _, _, rfl, rfl, mz _ _ zx.2 zy.2, ?_⟩
    refine made_sh (Int.ne_of_gt (Int.mul_pos (den_pos x) (den_pos y))) (Sz.sub (n := 8600) ((zx.1.mul zy.2).mono (by decide)) ((zy.1.mul zx.2).mono (by decide)) (by decide)) ((zx.2.mul zy.2).mono (by decide)) fun p H' hp hs hq => ?_
    refine q p H' ((s1.trans s2).free hp) (s1.trans (s2.trans hs)) ?_
    exact (congrArg (Sh C H' p) (sub_eq x y)).mpr hq


theorem ok_times (D : Df K mg "times" s_times []) (T : ShX K C) (a : Ca P w K mg base CX0 4 "as_share" s_as_share [] ["number"] (spAs C)) (m : Ci P w K mg base CX0 2 "Share" C "Share.__init__" s_Share_init [.int 1] ["self", "top", "bottom"] (spShI C)) :
    Ca P w K mg base CX0 5 "times" s_times [] ["one", "two"] (spTwo C (fun _ _ => True) (fun a b => a * b)) := by
  refine ca0 (k := 4) D c_times (fun vs H Q E h => ?_) fun f cdv A outer s H vs Q E hr h => ?_
  · obtain ⟨v, u, x, y, rfl, _⟩ := h
    rfl
  · obtain ⟨v, u, x, y, rfl, hv, hu, zx, zy, ok, q⟩ := h
    refine ⟨_, pss_cons (ps_set (i := 2) c_times.nd rfl (.inl rfl) (pe_ca a b_as_share hr (by decide) pass0 rfl (pa_cons (pv 0) pa_nil)))
      (pss_cons (ps_set (i := 3) c_times.nd rfl (.inl rfl) (pe_ca a b_as_share hr (by decide) pass0 rfl (pa_cons (pv 1) pa_nil)))
      (pss_one (ps_ret (pe_ci m bd_Share2 (by decide) rfl hr (by decide) pass0 rfl (pa_cons (pe_op op_mulA (pe_fld (pv 2) rfl) (pe_fld (pv 3) rfl)) (pa_cons (pe_op op_mulA (pe_fld (pv 2) rfl) (pe_fld (pv 3) rfl)) pa_nil)))))), ?_⟩
    refine ⟨_, rfl, v, x, rfl, hv, zx.mono (by decide), fun p1 H1 s1 h1 => ?_⟩
    refine ⟨_, rfl, u, y, rfl, hu.same s1, zy.mono (by decide), fun p2 H2 s2 h2 => ?_⟩
    obtain ⟨d1, e1⟩ := h1.same s2
    obtain ⟨d2, e2⟩ := h2
    have mz : ∀ i j : Int, Sz 4300 i → Sz 4300 j → CMulA i j := fun i j hi hj => ⟨hi.mono (by decide), hj.mono (by decide)⟩
    refine ⟨_, rfl, p1, C, d1, _, _, rfl, e1, T.cl, T.nT, sf_top _ _, _, rfl, p2, C, d2, _, _, rfl, e2, T.cl, T.nT, sf_top _ _, _, _, rfl, rfl, mz _ _ zx.1 zy.1, _, rfl, p1, C, d1, _, _, rfl, e1, T.cl, T.nB, sf_bottom _ _, _, rfl, p2, C, d2, _, _, rfl, e2, T.cl, T.nB, sf_bottom _ _, _, _, rfl, rfl, mz _ _ zx.2 zy.2, ?_⟩
    refine made_sh (Int.ne_of_gt (Int.mul_pos (den_pos x) (den_pos y))) ((zx.1.mul zy.1).mono (by decide)) ((zx.2.mul zy.2).mono (by decide)) fun p H' hp hs hq => ?_
    refine q p H' ((s1.trans s2).free hp) (s1.trans (s2.trans hs)) ?_
    exact (congrArg (Sh C H' p) (mul_eq x y)).mpr hq


theorem ok_over (D : Df K mg "over" s_over []) (T : ShX K C) (a : Ca P w K mg base CX0 4 "as_share" s_as_share [] ["number"] (spAs C)) (m : Ci P w K mg base CX0 2 "Share" C "Share.__init__" s_Share_init [.int 1] ["self", "top", "bottom"] (spShI C)) :
    Ca P w K mg base CX0 5 "over" s_over [] ["one", "two"] (spTwo C (fun _ b => b ≠ 0) (fun a b => a / b)) := by
  refine ca0 (k := 4) D c_over (fun vs H Q E h => ?_) fun f cdv A outer s H vs Q E hr h => ?_
  · obtain ⟨v, u, x, y, rfl, _⟩ := h
    rfl
  · obtain ⟨v, u, x, y, rfl, hv, hu, zx, zy, ok, q⟩ := h
    refine ⟨_, pss_cons (ps_set (i := 2) c_over.nd rfl (.inl rfl) (pe_ca a b_as_share hr (by decide) pass0 rfl (pa_cons (pv 0) pa_nil)))
      (pss_cons (ps_set (i := 3) c_over.nd rfl (.inl rfl) (pe_ca a b_as_share hr (by decide) pass0 rfl (pa_cons (pv 1) pa_nil)))
      (pss_one (ps_ret (pe_ci m bd_Share2 (by decide) rfl hr (by decide) pass0 rfl (pa_cons (pe_op op_mulA (pe_fld (pv 2) rfl) (pe_fld (pv 3) rfl)) (pa_cons (pe_op op_mulA (pe_fld (pv 2) rfl) (pe_fld (pv 3) rfl)) pa_nil)))))), ?_⟩
    refine ⟨_, rfl, v, x, rfl, hv, zx.mono (by decide), fun p1 H1 s1 h1 => ?_⟩
    refine ⟨_, rfl, u, y, rfl, hu.same s1, zy.mono (by decide), fun p2 H2 s2 h2 => ?_⟩
    obtain ⟨d1, e1⟩ := h1.same s2
    obtain ⟨d2, e2⟩ := h2
    have mz : ∀ i j : Int, Sz 4300 i → Sz 4300 j → CMulA i j := fun i j hi hj => ⟨hi.mono (by decide), hj.mono (by decide)⟩
    refine ⟨_, rfl, p1, C, d1, _, _, rfl, e1, T.cl, T.nT, sf_top _ _, _, rfl, p2, C, d2, _, _, rfl, e2, T.cl, T.nB, sf_bottom _ _, _, _, rfl, rfl, mz _ _ zx.1 zy.2, _, rfl, p1, C, d1, _, _, rfl, e1, T.cl, T.nB, sf_bottom _ _, _, rfl, p2, C, d2, _, _, rfl, e2, T.cl, T.nT, sf_top _ _, _, _, rfl, rfl, mz _ _ zx.2 zy.1, ?_⟩
    refine made_sh (Int.mul_ne_zero (Int.ne_of_gt (den_pos x)) (fun z => ok (Rat.num_eq_zero.mp z))) ((zx.1.mul zy.2).mono (by decide)) ((zx.2.mul zy.1).mono (by decide)) fun p H' hp hs hq => ?_
    refine q p H' ((s1.trans s2).free hp) (s1.trans (s2.trans hs)) ?_
    exact (congrArg (Sh C H' p) (div_eq x y ok)).mpr hq


theorem ok_before (D : Df K mg "before" s_before []) (T : ShX K C) (a : Ca P w K mg base CX0 4 "as_share" s_as_share [] ["number"] (spAs C)) : Ca P w K mg base CX0 5 "before" s_before [] ["one", "two"] (spBefore C) := by
  refine ca0 (k := 4) D c_before (fun vs H Q E h => ?_) fun f cdv A outer s H vs Q E hr h => ?_
  · obtain ⟨v, u, x, y, rfl, _⟩ := h
    rfl
  · obtain ⟨v, u, x, y, rfl, hv, hu, zx, zy, q⟩ := h
    refine ⟨_, pss_cons (ps_set (i := 2) c_before.nd rfl (.inl rfl) (pe_ca a b_as_share hr (by decide) pass0 rfl (pa_cons (pv 0) pa_nil)))
      (pss_cons (ps_set (i := 3) c_before.nd rfl (.inl rfl) (pe_ca a b_as_share hr (by decide) pass0 rfl (pa_cons (pv 1) pa_nil)))
      (pss_one (ps_ret (pe_cmpR op_lt (pe_op op_mulA (pe_fld (pv 2) rfl) (pe_fld (pv 3) rfl)) (pe_op op_mulA (pe_fld (pv 3) rfl) (pe_fld (pv 2) rfl)) (nomark _))))), ?_⟩
    refine ⟨_, rfl, v, x, rfl, hv, zx.mono (by decide), fun p1 H1 s1 h1 => ?_⟩
    refine ⟨_, rfl, u, y, rfl, hu.same s1, zy.mono (by decide), fun p2 H2 s2 h2 => ?_⟩
    obtain ⟨d1, e1⟩ := h1.same s2
    obtain ⟨d2, e2⟩ := h2
    have mz : ∀ i j : Int, Sz 4300 i → Sz 4300 j → CMulA i j := fun i j hi hj => ⟨hi.mono (by decide), hj.mono (by decide)⟩
    refine ⟨_, rfl, p1, C, d1, _, _, rfl, e1, T.cl, T.nT, sf_top _ _, _, rfl, p2, C, d2, _, _, rfl, e2, T.cl, T.nB, sf_bottom _ _, _, _, rfl, rfl, mz _ _ zx.1 zy.2, _, rfl, p2, C, d2, _, _, rfl, e2, T.cl, T.nT, sf_top _ _, _, rfl, p1, C, d1, _, _, rfl, e1, T.cl, T.nB, sf_bottom _ _, _, _, rfl, rfl, mz _ _ zy.1 zx.2, _, _, rfl, rfl, ?_⟩
    have e : decide (x.num * (y.den : Int) < y.num * (x.den : Int)) = decide (x < y) := by
      rw [decide_eq_decide]
      exact (lt_iff' x y).symm
    show Q (V.bl (decide (x.num * (y.den : Int) < y.num * (x.den : Int)))) _
    rw [e]
    exact q H2 (s1.trans s2)


theorem ok_whole (D : Df K mg "whole" s_whole []) (T : ShX K C) (a : Ca P w K mg base CX0 4 "as_share" s_as_share [] ["number"] (spAs C)) : Ca P w K mg base CX0 5 "whole" s_whole [] ["share"] (spOne C Rat.floor) := by
  refine ca0 (k := 4) D c_whole (fun vs H Q E h => ?_) fun f cdv A outer s H vs Q E hr h => ?_
  · obtain ⟨v, x, rfl, _⟩ := h
    rfl
  · obtain ⟨v, x, rfl, hv, zx, q⟩ := h
    refine ⟨_, pss_cons (ps_set (i := 1) c_whole.nd rfl (.inl rfl) (pe_ca a b_as_share hr (by decide) pass0 rfl (pa_cons (pv 0) pa_nil)))
      (pss_one (ps_ret (pe_op op_fdivA (pe_fld (pv 1) rfl) (pe_fld (pv 1) rfl)))), ?_⟩
    refine ⟨_, rfl, v, x, rfl, hv, zx, fun p1 H1 s1 h1 => ?_⟩
    obtain ⟨d1, e1⟩ := h1
    refine ⟨_, rfl, p1, C, d1, _, _, rfl, e1, T.cl, T.nT, sf_top _ _, _, rfl, p1, C, d1, _, _, rfl, e1, T.cl, T.nB, sf_bottom _ _, _, _, rfl, rfl, ⟨Int.ne_of_gt (den_pos x), zx.2.mono (by decide)⟩, ?_⟩
    have e : x.num.fdiv (x.den : Int) = x.floor := by rw [Rat.floor_def, Int.fdiv_eq_ediv_of_nonneg _ (Int.le_of_lt (den_pos x))]
    show Q (V.int (x.num.fdiv (x.den : Int))) _
    rw [e]
    exact q H1 s1
end
section
variable {P : Program} {w : World} {K : PySem.W.Frag} {mg : Str → Option Value} {base : Heap} {C : Addr}
theorem ok_rounded (D : Df K mg "rounded_up" s_rounded_up []) (T : ShX K C) (a : Ca P w K mg base CX0 4 "as_share" s_as_share [] ["number"] (spAs C)) : Ca P w K mg base CX0 5 "rounded_up" s_rounded_up [] ["share"] (spOne C Rat.ceil) := by
  refine ca0 (k := 4) D c_rounded_up (fun vs H Q E h => ?_) fun f cdv A outer s H vs Q E hr h => ?_
  · obtain ⟨v, x, rfl, _⟩ := h
    rfl
  · obtain ⟨v, x, rfl, hv, zx, q⟩ := h
    refine ⟨_, pss_cons (ps_set (i := 1) c_rounded_up.nd rfl (.inl rfl) (pe_ca a b_as_share hr (by decide) pass0 rfl (pa_cons (pv 0) pa_nil)))
      (pss_one (ps_ret (pe_un un_neg (pe_op op_fdivA (pe_un un_neg (pe_fld (pv 1) rfl)) (pe_fld (pv 1) rfl))))), ?_⟩
    refine ⟨_, rfl, v, x, rfl, hv, zx, fun p1 H1 s1 h1 => ?_⟩
    obtain ⟨d1, e1⟩ := h1
    refine ⟨_, rfl, p1, C, d1, _, _, rfl, e1, T.cl, T.nT, sf_top _ _, _, rfl, _, rfl, p1, C, d1, _, _, rfl, e1, T.cl, T.nB, sf_bottom _ _, _, _, rfl, rfl, ⟨Int.ne_of_gt (den_pos x), zx.2.mono (by decide)⟩, _, rfl, ?_⟩
    have e : -((-x.num).fdiv (x.den : Int)) = x.ceil := by rw [Int.fdiv_eq_ediv_of_nonneg _ (Int.le_of_lt (den_pos x)), neg_div_ceil]
    show Q (V.int (-((-x.num).fdiv (x.den : Int)))) _
    rw [e]
    exact q H1 s1
end
/-! ### Calendar's helpers -/
theorem twelve_ne : ((12 : Int) : Rat) ≠ 0 := by decide
theorem szi {n : Nat} (i : Int) (h : i.natAbs < 2 ^ n := by decide) : Sz n i := h
def spTw (C : Addr) : Sp := fun vs H Q _ => ∃ (v : V) (a : Rat), vs = [v] ∧ Rv C H v a ∧ Rz 4000 a ∧ ∀ p H', H p = none → Same H H' → Sh C H' p (a / 12) → Q (.ref p) H'
def spNth (C : Addr) : Sp := fun vs H Q _ => ∃ (v u : V) (a b : Rat) (n : Int), vs = [v, u, .int n] ∧ Rv C H v a ∧ Rv C H u b ∧ Rz 600 a ∧ Rz 600 b ∧ Sz 3000 n ∧ ∀ H', Same H H' → Q (.int (a + n * b).floor) H'
def spFrom (C : Addr) : Sp := fun vs H Q _ => ∃ (v u : V) (a b : Rat) (n : Int), vs = [v, u, .int n] ∧ Rv C H v a ∧ Rv C H u b ∧ Rz 600 a ∧ Rz 600 b ∧ Sz 3000 n ∧ b ≠ 0 ∧ ∀ H', Same H H' → Q (.int (((n : Rat) - a) / b).ceil) H'
def spUnfit (C : Addr) : Sp := fun vs H Q _ => ∃ (v u : V) (m y : Rat), vs = [v, u] ∧ Rv C H v m ∧ Rv C H u y ∧ Rz 600 m ∧ Rz 600 y ∧ Fit m y ∧ ∀ H', Same H H' → Q .non H'
/-- a moment that may not be told -/
def Mv (C : Addr) (H : Hp) (v : V) (q : Rat) : Prop := (v = .non ∧ q = 0) ∨ Rv C H v q
theorem Mv.same {C : Addr} {H H1 : Hp} {v : V} {q : Rat} (h : Mv C H v q) (s : Same H H1) : Mv C H1 v q := by
  rcases h with h | h
  · exact .inl h
  · exact .inr (h.same s)
def spMoment (C : Addr) : Sp := fun vs H Q _ => ∃ (v : V) (q : Rat), vs = [v] ∧ Mv C H v q ∧ Rz 600 q ∧ ∀ p H', Same H H' → Sh C H' p q → Q (.ref p) H'
/-- the functions over Shares that Calendar uses -/
structure ShF (P : Program) (w : World) (K : PySem.W.Frag) (mg : Str → Option Value) (base : Heap) (C : Addr) : Prop where
  T : ShX K C
  mkS : Ci P w K mg base CX0 2 "Share" C "Share.__init__" s_Share_init [.int 1] ["self", "top", "bottom"] (spShI C)
  asS : Ca P w K mg base CX0 4 "as_share" s_as_share [] ["number"] (spAs C)
  plus : Ca P w K mg base CX0 5 "plus" s_plus [] ["one", "two"] (spTwo C (fun _ _ => True) (fun a b => a + b))
  minus : Ca P w K mg base CX0 5 "minus" s_minus [] ["one", "two"] (spTwo C (fun _ _ => True) (fun a b => a - b))
  times : Ca P w K mg base CX0 5 "times" s_times [] ["one", "two"] (spTwo C (fun _ _ => True) (fun a b => a * b))
  over : Ca P w K mg base CX0 5 "over" s_over [] ["one", "two"] (spTwo C (fun _ b => b ≠ 0) (fun a b => a / b))
  before : Ca P w K mg base CX0 5 "before" s_before [] ["one", "two"] (spBefore C)
  whole : Ca P w K mg base CX0 5 "whole" s_whole [] ["share"] (spOne C Rat.floor)
  up : Ca P w K mg base CX0 5 "rounded_up" s_rounded_up [] ["share"] (spOne C Rat.ceil)
  marks : ∃ t, mg "MARKS" = some (.int 12 t)
section
variable {P : Program} {w : World} {K : PySem.W.Frag} {mg : Str → Option Value} {base : Heap} {C : Addr}
theorem ok_tw (D : Df K mg "twelfth" s_twelfth []) (F : ShF P w K mg base C) : Ca P w K mg base CX0 6 "twelfth" s_twelfth [] ["year"] (spTw C) := by
  refine ca0 (k := 5) D c_twelfth (fun vs H Q E h => ?_) fun f cdv A outer s H vs Q E hr h => ?_
  · obtain ⟨v, q, rfl, _⟩ := h
    rfl
  · obtain ⟨v, a, rfl, hv, za, q⟩ := h
    obtain ⟨tk, hM⟩ := F.marks
    refine ⟨_, pss_one (ps_ret (pe_ca F.over b_over hr (by decide) pass0 rfl (pa_cons (pv 0) (pa_cons (pe_glob (v := .int 12) rfl hM ⟨_, rfl⟩) pa_nil)))), ?_⟩
    exact ⟨_, rfl, v, .int 12, a, _, rfl, hv, Rv.int, za.mono (by decide), Rz.int (szi 12) (by decide), twelve_ne, q⟩
end
section
variable {P : Program} {w : World} {K : PySem.W.Frag} {mg : Str → Option Value} {base : Heap} {C : Addr}
theorem ok_moment (D : Df K mg "moment_or_nought" s_moment_or_nought []) (F : ShF P w K mg base C) : Ca P w K mg base CX0 6 "moment_or_nought" s_moment_or_nought [] ["moment"] (spMoment C) := by
  refine ca0 (k := 5) D c_moment_or_nought (fun vs H Q E h => ?_) fun f cdv A outer s H vs Q E hr h => ?_
  · obtain ⟨v, q, rfl, _⟩ := h
    rfl
  · obtain ⟨v, a, rfl, hv, za, q⟩ := h
    refine ⟨_, pss_cons (ps_if (pt_cmp (pc_isN (pv 0))) (pss_one (ps_ret (pe_ci F.mkS bd_Share1 (by decide) rfl hr (by decide) pass0 rfl (pa_cons pe_int pa_nil)))) pss_nil)
      (pss_one (ps_ret (pe_ca F.asS b_as_share hr (by decide) pass0 rfl (pa_cons (pv 0) pa_nil)))), ?_⟩
    rcases hv with ⟨rfl, rfl⟩ | hv
    · refine ⟨_, rfl, _, rfl, iteT ?_⟩
      refine made_sh (by decide) (szi 0) (szi 1) fun p H' _ hs hp => ?_
      rw [divInt_one] at hp
      exact q p H' hs hp
    · have hn : v ≠ .non := by
        rcases hv with ⟨i, rfl, _⟩ | ⟨p, rfl, _⟩ <;> exact fun z => nomatch z
      refine ⟨_, rfl, _, rfl, ?_⟩
      rw [decide_eq_false hn]
      refine iteF ?_
      exact ⟨_, rfl, v, a, rfl, hv, za.mono (by decide), q⟩
end
section
variable {P : Program} {w : World} {K : PySem.W.Frag} {mg : Str → Option Value} {base : Heap} {C : Addr}
theorem ok_unfit (D : Df K mg "refuse_unfit" s_refuse_unfit []) (F : ShF P w K mg base C) (tw : Ca P w K mg base CX0 6 "twelfth" s_twelfth [] ["year"] (spTw C)) : Ca P w K mg base CX0 7 "refuse_unfit" s_refuse_unfit [] ["month", "year"] (spUnfit C) := by
  refine ca0 (k := 6) D c_refuse_unfit (fun vs H Q E h => ?_) fun f cdv A outer s H vs Q E hr h => ?_
  · obtain ⟨v, u, m, y, rfl, _⟩ := h
    rfl
  · obtain ⟨v, u, m, y, rfl, hv, hu, zm, zy, ft, q⟩ := h
    obtain ⟨tk, hM⟩ := F.marks
    refine ⟨_, pss_cons (ps_if (pt_val (pe_ca F.before b_before hr (by decide) pass0 rfl (pa_cons (pv 0) (pa_cons pe_int pa_nil)))) (pss_one ps_never) pss_nil)
      (pss_cons (ps_if (pt_val (pe_ca F.before b_before hr (by decide) pass0 rfl (pa_cons (pe_ca tw b_twelfth hr (by decide) pass0 rfl (pa_cons (pv 1) pa_nil)) (pa_cons (pe_ca F.up b_rounded_up hr (by decide) pass0 rfl (pa_cons (pv 0) pa_nil)) pa_nil)))) (pss_one ps_never) pss_nil)
      (pss_one (ps_if (pt_val (pe_ca F.before b_before hr (by decide) pass0 rfl (pa_cons (pe_ca F.times b_times hr (by decide) pass0 rfl (pa_cons (pe_op op_add (pe_glob (v := .int 12) rfl hM ⟨_, rfl⟩) pe_int) (pa_cons (pv 0) pa_nil)))
        (pa_cons (pe_ca F.plus b_plus hr (by decide) pass0 rfl (pa_cons (pv 1) (pa_cons pe_int pa_nil))) pa_nil)))) (pss_one ps_never) pss_nil))), ?_⟩
    refine ⟨_, rfl, v, .int 1, m, _, rfl, hv, Rv.int, zm.mono (by decide), Rz.int (szi 1) (by decide), fun H1 s1 => ⟨_, rfl, ?_⟩⟩
    rw [decide_eq_false (show ¬ m < ((1 : Int) : Rat) from Rat.not_lt.mpr ft.one)]
    refine iteF ?_
    refine ⟨_, rfl, u, y, rfl, hu.same s1, zy.mono (by decide), fun p2 H2 n2 s2 h2 => ?_⟩
    refine ⟨_, rfl, v, m, rfl, hv.same (s1.trans s2), zm.mono (by decide), fun H3 s3 => ?_⟩
    have z2 : Rz 700 (y / 12) := zy.div (l := 4) (Rz.int (szi 12) (by decide)) twelve_ne (by decide)
    refine ⟨.ref p2, .int m.ceil, _, _, rfl, (h2.same s3).rv, Rv.int, z2.mono (by decide), Rz.int ((Sz.ceil zm).mono (by decide)) (by decide), fun H4 s4 => ⟨_, rfl, ?_⟩⟩
    rw [decide_eq_false (show ¬ y / 12 < (m.ceil : Rat) from Rat.not_lt.mpr ft.between)]
    refine iteF ?_
    have s14 : Same H H4 := s1.trans (s2.trans (s3.trans s4))
    refine ⟨_, _, rfl, rfl, _, rfl, .int 13, v, _, m, rfl, Rv.int, hv.same s14, Rz.int (szi 13) (by decide), zm.mono (by decide), trivial, fun p5 H5 n5 s5 h5 => ?_⟩
    refine ⟨_, rfl, u, .int 1, y, _, rfl, hu.same (s14.trans s5), Rv.int, zy.mono (by decide), Rz.int (szi 1) (by decide), trivial, fun p6 H6 n6 s6 h6 => ?_⟩
    have z5 : Rz 700 (((13 : Int) : Rat) * m) := Rz.mul (n := 4) (Rz.int (szi 13) (by decide)) zm (by decide)
    have z6 : Rz 700 (y + ((1 : Int) : Rat)) := zy.add (l := 1) (Rz.int (szi 1) (by decide)) (by decide)
    refine ⟨.ref p5, .ref p6, _, _, rfl, (h5.same s6).rv, h6.rv, z5.mono (by decide), z6.mono (by decide), fun H7 s7 => ⟨_, rfl, ?_⟩⟩
    rw [decide_eq_false (show ¬ ((13 : Int) : Rat) * m < y + ((1 : Int) : Rat) from Rat.not_lt.mpr ft.thirteen)]
    refine iteF ?_
    exact q H7 (s14.trans (s5.trans (s6.trans s7)))
end
/-! ### Calendar -/
def cfs (a b c d : Addr) : List (Str × V) := putF "mark" (.ref d) (putF "moon" (.ref c) (putF "year" (.ref b) (putF "month" (.ref a) [])))
theorem my_ : ¬ (("month" : Str) = "year") := by decide +kernel
theorem mm_ : ¬ (("month" : Str) = "moon") := by decide +kernel
theorem mk_ : ¬ (("month" : Str) = "mark") := by decide +kernel
theorem ym_ : ¬ (("year" : Str) = "moon") := by decide +kernel
theorem yk_ : ¬ (("year" : Str) = "mark") := by decide +kernel
theorem ok_ : ¬ (("moon" : Str) = "mark") := by decide +kernel
theorem cf_month (a b c d : Addr) : (cfs a b c d).lookup ("month" : Str) = some (.ref a) := by
  unfold cfs
  rw [lookup_putF, if_neg mk_, lookup_putF, if_neg mm_, lookup_putF, if_neg my_, lookup_putF, if_pos rfl]
theorem cf_year (a b c d : Addr) : (cfs a b c d).lookup ("year" : Str) = some (.ref b) := by
  unfold cfs
  rw [lookup_putF, if_neg yk_, lookup_putF, if_neg ym_, lookup_putF, if_pos rfl]
theorem cf_moon (a b c d : Addr) : (cfs a b c d).lookup ("moon" : Str) = some (.ref c) := by
  unfold cfs
  rw [lookup_putF, if_neg ok_, lookup_putF, if_pos rfl]
theorem cf_mark (a b c d : Addr) : (cfs a b c d).lookup ("mark" : Str) = some (.ref d) := by
  unfold cfs
  rw [lookup_putF, if_pos rfl]
theorem cf_no (a b c d : Addr) {m : Str} (h1 : ¬ m = "mark" := by decide +kernel) (h2 : ¬ m = "moon" := by decide +kernel) (h3 : ¬ m = "year" := by decide +kernel) (h4 : ¬ m = "month" := by decide +kernel) : (cfs a b c d).lookup m = none := by
  unfold cfs
  rw [lookup_putF, if_neg h1, lookup_putF, if_neg h2, lookup_putF, if_neg h3, lookup_putF, if_neg h4]
  rfl
structure CaT (K : PySem.W.Frag) (C Cc : Addr) : Prop where
  cl : Cls K Cc
  n1 : NoAttr K Cc "month"
  n2 : NoAttr K Cc "year"
  n3 : NoAttr K Cc "moon"
  n4 : NoAttr K Cc "mark"
  ne : Cc ≠ C
/-- at p a Calendar of these four -/
def Cl (C Cc : Addr) (H : Hp) (p : Addr) (m y o k : Rat) : Prop := ∃ dx a b c d, H p = some (.ins Cc dx (cfs a b c d)) ∧ Sh C H a m ∧ Sh C H b y ∧ Sh C H c o ∧ Sh C H d k
theorem Cl.same {C Cc : Addr} {H H1 : Hp} {p : Addr} {m y o k : Rat} (h : Cl C Cc H p m y o k) (s : Same H H1) : Cl C Cc H1 p m y o k := by
  obtain ⟨dx, a, b, c, d, e, h1, h2, h3, h4⟩ := h
  exact ⟨dx, a, b, c, d, s _ _ e, h1.same s, h2.same s, h3.same s, h4.same s⟩
/-- one that can be reckoned with -/
structure Good (m y o k : Rat) : Prop where
  fit : Fit m y
  zm : Rz 70 m
  zy : Rz 70 y
  zo : Rz 70 o
  zk : Rz 70 k
theorem Sh.put {C Cc : Addr} {H : Hp} {p dx a : Addr} {fs gs : List (Str × V)} {q : Rat} (ne : Cc ≠ C) (hp : H p = some (.ins Cc dx fs)) (h : Sh C H a q) : Sh C (upd H p (.ins Cc dx gs)) a q := by
  obtain ⟨d, e⟩ := h
  refine ⟨d, ?_⟩
  rw [upd_ne (ne_of e hp fun z => ne (by injection z with z1 z2 z3; exact z1.symm))]
  exact e
theorem Rv.put {C Cc : Addr} {H : Hp} {p dx : Addr} {v : V} {fs gs : List (Str × V)} {q : Rat} (ne : Cc ≠ C) (hp : H p = some (.ins Cc dx fs)) (h : Rv C H v q) : Rv C (upd H p (.ins Cc dx gs)) v q := by
  rcases h with h | ⟨a, e, h⟩
  · exact .inl h
  · exact .inr ⟨a, e, h.put ne hp⟩
theorem Mv.put {C Cc : Addr} {H : Hp} {p dx : Addr} {v : V} {fs gs : List (Str × V)} {q : Rat} (ne : Cc ≠ C) (hp : H p = some (.ins Cc dx fs)) (h : Mv C H v q) : Mv C (upd H p (.ins Cc dx gs)) v q := by
  rcases h with h | h
  · exact .inl h
  · exact .inr (h.put ne hp)
theorem But.put {l : Addr} {H H1 : Hp} {o : HO} (a : But l H H1) : But l H (L2.upd H1 l o) := fun c u hc e => by
  rw [upd_ne hc]
  exact a c u hc e
/-! the methods -/
def spM1 (C Cc : Addr) (n : Nat) (g : Rat → Rat → Rat → Rat → Int → V) : Sp := fun vs H Q _ => ∃ (p : Addr) (i : Int) (m y o k : Rat), vs = [.ref p, .int i] ∧ Cl C Cc H p m y o k ∧ Good m y o k ∧ Sz n i ∧ ∀ H', Same H H' → Q (g m y o k i) H'
def miF (m y o k : Rat) (i : Int) : V := if mdF y k (jF y k (stF m o i)) < stF m o (i + 1) then .int (jF y k (stF m o i)) else .non
theorem Good.ztw {m y o k : Rat} (g : Good m y o k) : Rz 80 (y / 12) := g.zy.div (l := 4) (Rz.int (szi 12) (by decide)) twelve_ne (by decide)
theorem Good.zst {m y o k : Rat} (g : Good m y o k) {n l : Nat} {i : Int} (h : Sz n i) (h0 : 0 < n) (hl : n + 150 < l) : Sz l (stF m o i) := (Sz.floor (Rz.add (m := n + 150) g.zo (Rz.mul (m := n + 75) (Rz.int h h0) g.zm (by omega)) (by omega))).mono (by omega)
theorem Good.zmd {m y o k : Rat} (g : Good m y o k) {n l : Nat} {i : Int} (h : Sz n i) (h0 : 0 < n) (hl : n + 160 < l) : Sz l (mdF y k i) := (Sz.floor (Rz.add (m := n + 160) g.zk (Rz.mul (m := n + 85) (Rz.int h h0) g.ztw (by omega)) (by omega))).mono (by omega)
theorem Good.zj {m y o k : Rat} (g : Good m y o k) {n l : Nat} {i : Int} (h : Sz n i) (h0 : 0 < n) (hl : n + 160 < l) : Sz l (jF y k i) := (Sz.ceil (Rz.div (m := n + 160) (Rz.sub (m := n + 75) (Rz.int h h0) g.zk (by omega)) g.ztw (by have := g.fit.ypos; grind) (by omega))).mono (by omega)
def spCaI (C Cc : Addr) : Sp := fun vs H Q _ => ∃ (p dx : Addr) (v u x z : V) (m y o k : Rat), vs = [.ref p, v, u, x, z] ∧ H p = some (.ins Cc dx []) ∧ Rv C H v m ∧ Rv C H u y ∧ Mv C H x o ∧ Mv C H z k ∧ Good m y o k ∧
  ∀ H', But p H H' → Cl C Cc H' p m y o k → Q .non H'
section
variable {P : Program} {w : World} {K : PySem.W.Frag} {mg : Str → Option Value} {base : Heap} {C Cc : Addr}
theorem ok_caI (D : Di K mg "Calendar" Cc "Calendar.__init__" s_Calendar_init [.non, .non]) (T : CaT K C Cc) (F : ShF P w K mg base C) (un : Ca P w K mg base CX0 7 "refuse_unfit" s_refuse_unfit [] ["month", "year"] (spUnfit C))
    (mo : Ca P w K mg base CX0 6 "moment_or_nought" s_moment_or_nought [] ["moment"] (spMoment C)) :
    Ci P w K mg base CX0 8 "Calendar" Cc "Calendar.__init__" s_Calendar_init [.non, .non] ["self", "month", "year", "moon", "mark"] (spCaI C Cc) := by
  refine ci0 (k := 7) D c_Calendar_init (fun vs H Q E h => ?_) fun f cdv A outer s H vs Q E hr h => ?_
  · obtain ⟨p, dx, v, u, x, z, m, y, o, k, rfl, _⟩ := h
    rfl
  · obtain ⟨p, dx, v, u, x, z, m, y, o, k, rfl, hp, hv, hu, hx, hz, g, q⟩ := h
    refine ⟨_, pss_cons (ps_expr (pe_ca un b_refuse_unfit hr (by decide) pass0 rfl (pa_cons (pv 1) (pa_cons (pv 2) pa_nil))))
      (pss_cons (ps_fld (pv 0) (pe_ca F.asS b_as_share hr (by decide) pass0 rfl (pa_cons (pv 1) pa_nil)) rfl)
      (pss_cons (ps_fld (pv 0) (pe_ca F.asS b_as_share hr (by decide) pass0 rfl (pa_cons (pv 2) pa_nil)) rfl)
      (pss_cons (ps_fld (pv 0) (pe_ca mo b_moment_or_nought hr (by decide) pass0 rfl (pa_cons (pv 3) pa_nil)) rfl)
      (pss_one (ps_fld (pv 0) (pe_ca mo b_moment_or_nought hr (by decide) pass0 rfl (pa_cons (pv 4) pa_nil)) rfl))))), ?_⟩
    refine ⟨_, rfl, _, rfl, v, u, m, y, rfl, hv, hu, g.zm.mono (by decide), g.zy.mono (by decide), g.fit, fun H1 s1 => ?_⟩
    refine ⟨_, rfl, v, m, rfl, hv.same s1, g.zm.mono (by decide), fun a H2 s2 ha => ?_⟩
    have hp2 := s2 _ _ (s1 _ _ hp)
    refine ⟨_, rfl, p, Cc, dx, _, rfl, hp2, T.cl, T.n1, (by show 0 < 1000; decide), ?_⟩
    refine ⟨_, rfl, u, y, rfl, ((hu.same s1).same s2).put T.ne hp2, g.zy.mono (by decide), fun b H3 s3 hb => ?_⟩
    have hp3 := s3 _ _ (upd_same (H := H2) (a := p))
    refine ⟨_, rfl, p, Cc, dx, _, rfl, hp3, T.cl, T.n2, (by show 1 < 1000; decide), ?_⟩
    refine ⟨_, rfl, x, o, rfl, ((((hx.same s1).same s2).put T.ne hp2).same s3).put T.ne hp3, g.zo.mono (by decide), fun c H4 s4 hc => ?_⟩
    have hp4 := s4 _ _ (upd_same (H := H3) (a := p))
    refine ⟨_, rfl, p, Cc, dx, _, rfl, hp4, T.cl, T.n3, (by show 2 < 1000; decide), ?_⟩
    refine ⟨_, rfl, z, k, rfl, ((((((hz.same s1).same s2).put T.ne hp2).same s3).put T.ne hp3).same s4).put T.ne hp4, g.zk.mono (by decide), fun d H5 s5 hd => ?_⟩
    have hp5 := s5 _ _ (upd_same (H := H4) (a := p))
    refine ⟨_, rfl, p, Cc, dx, _, rfl, hp5, T.cl, T.n4, (by show 3 < 1000; decide), ?_⟩
    refine q _ ?_ ⟨dx, a, b, c, d, upd_same, ?_, ?_, ?_, hd.put T.ne hp5⟩
    · have b1 : But p H H2 := But.same (s1.trans s2)
      have b2 : But p H H3 := b1.put.trans (But.same s3)
      have b3 : But p H H4 := b2.put.trans (But.same s4)
      exact (b3.put.trans (But.same s5)).put
    · exact (((((((ha.put T.ne hp2).same s3).put T.ne hp3).same s4).put T.ne hp4).same s5).put T.ne hp5)
    · exact (((((hb.put T.ne hp3).same s4).put T.ne hp4).same s5).put T.ne hp5)
    · exact (((hc.put T.ne hp4).same s5).put T.ne hp5)
end
/-! ### the law's own fractions: tuples in lowest terms -/
theorem int_num (i : Int) : ((i : Rat)).num = i := rfl
theorem int_den (i : Int) : ((i : Rat)).den = 1 := rfl
def Tp (H : Hp) (a : Addr) (q : Rat) : Prop := H a = some (.tup [.int q.num, .int q.den])
theorem Tp.same {H H1 : Hp} {a : Addr} {q : Rat} (h : Tp H a q) (s : Same H H1) : Tp H1 a q := s _ _ h
/-- a fraction not always in lowest terms -/
def Tq (H : Hp) (a : Addr) (n : Nat) (q : Rat) : Prop := ∃ t b : Int, H a = some (.tup [.int t, .int b]) ∧ b ≠ 0 ∧ q = Rat.divInt t b ∧ Sz n t ∧ Sz n b
theorem Tp.tq {H : Hp} {a : Addr} {n : Nat} {q : Rat} (h : Tp H a q) (z : Rz n q) : Tq H a n q := ⟨q.num, q.den, h, Int.ne_of_gt (den_pos q), (Rat.num_divInt_den q).symm, z.1, z.2⟩
theorem Tq.same {H H1 : Hp} {a : Addr} {n : Nat} {q : Rat} (h : Tq H a n q) (s : Same H H1) : Tq H1 a n q := by
  obtain ⟨t, b, e, r⟩ := h
  exact ⟨t, b, s _ _ e, r⟩
def spT2 (g : Rat → Rat → Rat) : Sp := fun vs H Q _ => ∃ (a b : Addr) (x y : Rat), vs = [.ref a, .ref b] ∧ Tq H a 4300 x ∧ Tq H b 4300 y ∧ ∀ r H', H r = none → Same H H' → Tp H' r (g x y) → Q (.ref r) H'
theorem int_div (i : Int) {n : Nat} (h : Sz n i) (h0 : 0 < n) {H : Hp} {t : Addr} : Tq (L2.upd H t (.tup [.int i, .int 1])) t n (i : Rat) := ⟨i, 1, upd_same, by decide, (divInt_one i).symm, h, szi 1 (Nat.one_lt_two_pow (by omega))⟩
section
variable {P : Program} {w : World} {K : PySem.W.Frag} {mg : Str → Option Value} {base : Heap}
theorem ok_lplus (D : Df K mg "_law_plus" s_l_plus []) (lo : Ca P w K mg base CX0 1 "_law_low" s_l_low [] ["_law_top", "_law_bottom"] spLow) : Ca P w K mg base CX0 2 "_law_plus" s_l_plus [] ["_law_one", "_law_two"] (spT2 fun a b => a + b) := by
  refine ca0 (k := 1) D c_l_plus (fun vs H Q E h => ?_) fun f cdv A outer s H vs Q E hr h => ?_
  · obtain ⟨a, b, x, y, rfl, _⟩ := h
    rfl
  · obtain ⟨a, b, x, y, rfl, ⟨t, u, ha, hu, rfl, zt, zu⟩, ⟨t', u', hb, hu', rfl, zt', zu'⟩, q⟩ := h
    refine ⟨_, pss_one (ps_ret (pe_ca lo b_l_low hr (by decide) pass0 rfl (pa_cons (pe_op op_add (pe_op op_mulA (pe_ix ix_tup (pv 0) pe_int (fun _ _ => rfl)) (pe_ix ix_tup (pv 1) pe_int (fun _ _ => rfl))) (pe_op op_mulA (pe_ix ix_tup (pv 1) pe_int (fun _ _ => rfl)) (pe_ix ix_tup (pv 0) pe_int (fun _ _ => rfl))))
      (pa_cons (pe_op op_mulA (pe_ix ix_tup (pv 0) pe_int (fun _ _ => rfl)) (pe_ix ix_tup (pv 1) pe_int (fun _ _ => rfl))) pa_nil)))), ?_⟩
    have mz : ∀ i j : Int, Sz 4300 i → Sz 4300 j → CMulA i j := fun i j hi hj => ⟨hi.mono (by decide), hj.mono (by decide)⟩
    have ha' := SqT.of (K := K) ha
    have hb' := SqT.of (K := K) hb
    refine ⟨_, rfl, a, _, _, _, rfl, rfl, ha', rfl, _, rfl, b, _, _, _, rfl, rfl, hb', rfl, _, _, rfl, rfl, mz _ _ zt zu', _, rfl, b, _, _, _, rfl, rfl, hb', rfl, _, rfl, a, _, _, _, rfl, rfl, ha', rfl, _, _, rfl, rfl, mz _ _ zt' zu, _, _, rfl, rfl,
      _, rfl, a, _, _, _, rfl, rfl, ha', rfl, _, rfl, b, _, _, _, rfl, rfl, hb', rfl, _, _, rfl, rfl, mz _ _ zu zu', _, _, rfl, Int.mul_ne_zero hu hu', ?_, ?_, fun r hr' => ?_⟩
    · exact Sz.add (n := 8600) ((zt.mul zu').mono (by decide)) ((zt'.mul zu).mono (by decide)) (by decide)
    · exact (zu.mul zu').mono (by decide)
    · refine q r _ hr' (Same.new hr') ?_
      show L2.upd H r _ r = _
      rw [upd_same, ← Rat.divInt_add_divInt t t' hu hu']
theorem ok_lby (D : Df K mg "_law_by" s_l_by []) (lo : Ca P w K mg base CX0 1 "_law_low" s_l_low [] ["_law_top", "_law_bottom"] spLow) : Ca P w K mg base CX0 2 "_law_by" s_l_by [] ["_law_one", "_law_two"] (spT2 fun a b => a * b) := by
  refine ca0 (k := 1) D c_l_by (fun vs H Q E h => ?_) fun f cdv A outer s H vs Q E hr h => ?_
  · obtain ⟨a, b, x, y, rfl, _⟩ := h
    rfl
  · obtain ⟨a, b, x, y, rfl, ⟨t, u, ha, hu, rfl, zt, zu⟩, ⟨t', u', hb, hu', rfl, zt', zu'⟩, q⟩ := h
    refine ⟨_, pss_one (ps_ret (pe_ca lo b_l_low hr (by decide) pass0 rfl (pa_cons (pe_op op_mulA (pe_ix ix_tup (pv 0) pe_int (fun _ _ => rfl)) (pe_ix ix_tup (pv 1) pe_int (fun _ _ => rfl)))
      (pa_cons (pe_op op_mulA (pe_ix ix_tup (pv 0) pe_int (fun _ _ => rfl)) (pe_ix ix_tup (pv 1) pe_int (fun _ _ => rfl))) pa_nil)))), ?_⟩
    have mz : ∀ i j : Int, Sz 4300 i → Sz 4300 j → CMulA i j := fun i j hi hj => ⟨hi.mono (by decide), hj.mono (by decide)⟩
    have ha' := SqT.of (K := K) ha
    have hb' := SqT.of (K := K) hb
    refine ⟨_, rfl, a, _, _, _, rfl, rfl, ha', rfl, _, rfl, b, _, _, _, rfl, rfl, hb', rfl, _, _, rfl, rfl, mz _ _ zt zt',
      _, rfl, a, _, _, _, rfl, rfl, ha', rfl, _, rfl, b, _, _, _, rfl, rfl, hb', rfl, _, _, rfl, rfl, mz _ _ zu zu', _, _, rfl, Int.mul_ne_zero hu hu', ?_, ?_, fun r hr' => ?_⟩
    · exact (zt.mul zt').mono (by decide)
    · exact (zu.mul zu').mono (by decide)
    · refine q r _ hr' (Same.new hr') ?_
      show L2.upd H r _ r = _
      rw [upd_same, ← Rat.divInt_mul_divInt t t']
end
/-! the law's calendars -/
def Fo (H : Hp) (r : Addr) (m y o k : Rat) : Prop := ∃ a b c d, H r = some (.tup [.ref a, .ref b, .ref c, .ref d]) ∧ Tp H a m ∧ Tp H b y ∧ Tp H c o ∧ Tp H d k
theorem Fo.same {H H1 : Hp} {r : Addr} {m y o k : Rat} (h : Fo H r m y o k) (s : Same H H1) : Fo H1 r m y o k := by
  obtain ⟨a, b, c, d, e, h1, h2, h3, h4⟩ := h
  exact ⟨a, b, c, d, s _ _ e, h1.same s, h2.same s, h3.same s, h4.same s⟩
def spFloor : Sp := fun vs H Q _ => ∃ (a : Addr) (x : Rat), vs = [.ref a] ∧ Tp H a x ∧ Rz 8700 x ∧ Q (.int x.floor) H
/-- a function of the four and a number -/
def spF1 (n : Nat) (g : Rat → Rat → Rat → Rat → Int → V) : Sp := fun vs H Q _ => ∃ (r : Addr) (i : Int) (m y o k : Rat), vs = [.ref r, .int i] ∧ Fo H r m y o k ∧ Good m y o k ∧ Sz n i ∧ ∀ H', Same H H' → Q (g m y o k i) H'
section
variable {P : Program} {w : World} {K : PySem.W.Frag} {mg : Str → Option Value} {base : Heap}
theorem ok_lfloor (D : Df K mg "_law_floor" s_l_floor []) : Ca P w K mg base CX0 1 "_law_floor" s_l_floor [] ["_law_fraction"] spFloor := by
  refine ca0 (k := 0) D c_l_floor (fun vs H Q E h => ?_) fun f cdv A outer s H vs Q E hr h => ?_
  · obtain ⟨a, x, rfl, _⟩ := h
    rfl
  · obtain ⟨a, x, rfl, ha, zx, q⟩ := h
    refine ⟨_, pss_one (ps_ret (pe_op op_fdivA (pe_ix ix_tup (pv 0) pe_int (fun _ _ => rfl)) (pe_ix ix_tup (pv 0) pe_int (fun _ _ => rfl)))), ?_⟩
    refine ⟨_, rfl, a, _, _, _, rfl, rfl, SqT.of ha, rfl, _, rfl, a, _, _, _, rfl, rfl, SqT.of ha, rfl, _, _, rfl, rfl, ⟨Int.ne_of_gt (den_pos x), zx.2.mono (by decide)⟩, ?_⟩
    have e : x.num.fdiv (x.den : Int) = x.floor := by rw [Rat.floor_def, Int.fdiv_eq_ediv_of_nonneg _ (Int.le_of_lt (den_pos x))]
    show Q (V.int (x.num.fdiv (x.den : Int))) _
    rw [e]
    exact q
theorem ok_lstart (D : Df K mg "_law_start" s_l_start []) (fl : Ca P w K mg base CX0 1 "_law_floor" s_l_floor [] ["_law_fraction"] spFloor) (pl : Ca P w K mg base CX0 2 "_law_plus" s_l_plus [] ["_law_one", "_law_two"] (spT2 fun a b => a + b)) (by' : Ca P w K mg base CX0 2 "_law_by" s_l_by [] ["_law_one", "_law_two"] (spT2 fun a b => a * b)) :
    Ca P w K mg base CX0 3 "_law_start" s_l_start [] ["_law_four_here", "_law_k"] (spF1 3000 fun m _ o _ i => .int (stF m o i)) := by
  refine ca0 (k := 2) D c_l_start (fun vs H Q E h => ?_) fun f cdv A outer s H vs Q E hr h => ?_
  · obtain ⟨r, i, m, y, o, k, rfl, _⟩ := h
    rfl
  · obtain ⟨r, i, m, y, o, k, rfl, ⟨a, b, c, d, e, h1, h2, h3, h4⟩, g, zi, q⟩ := h
    refine ⟨_, pss_one (ps_ret (pe_ca fl b_l_floor hr (by decide) pass0 rfl (pa_cons (pe_ca pl b_l_plus hr (by decide) pass0 rfl (pa_cons (pe_ix ix_tup (pv 0) pe_int (fun _ _ => rfl)) (pa_cons (pe_ca by' b_l_by hr (by decide) pass0 rfl (pa_cons (pe_ix ix_tup (pv 0) pe_int (fun _ _ => rfl)) (pa_cons (pe_tup (pa_cons (pv 1) (pa_cons pe_int pa_nil))) pa_nil))) pa_nil))) pa_nil))), ?_⟩
    refine ⟨_, rfl, r, _, _, _, rfl, rfl, SqT.of e, rfl, _, rfl, r, _, _, _, rfl, rfl, SqT.of e, rfl, _, rfl, (by show 2 ≤ sizeLine; decide), fun t ht => ?_⟩
    have s0 : Same H (L2.upd H t (.tup [.int i, .int 1])) := Same.new ht
    refine ⟨a, t, m, i, rfl, (h1.same s0).tq (g.zm.mono (by decide)), int_div i (zi.mono (by decide)) (by decide), fun t1 H1 n1 s1 e1 => ?_⟩
    have z1 : Rz 3400 (m * i) := g.zm.mul (Rz.int zi (by decide)) (by decide)
    have s01 := s0.trans s1
    refine ⟨c, t1, o, _, rfl, (h3.same s01).tq (g.zo.mono (by decide)), e1.tq (z1.mono (by decide)), fun t2 H2 n2 s2 e2 => ?_⟩
    refine ⟨t2, _, rfl, e2, (g.zo.add z1 (by decide : _ < 3800)).mono (by decide), ?_⟩
    have q2 := q H2 (s01.trans s2)
    have ee : o + m * (i : Rat) = o + i * m := by rw [Rat.mul_comm]
    show Q (V.int (o + m * (i : Rat)).floor) H2
    rw [ee]
    exact q2
end
def spPart : Sp := fun vs H Q _ => ∃ (l : Addr) (n : Nat), vs = [.ref l] ∧ Dr H l n ∧ n ≤ 100000 ∧ ∀ r H' q, 0 ≤ q → q ≤ 1 → Rz 18 q → But l H H' → Dr H' l (n + 2) → Tp H' r q → Q (.ref r) H'
def spMom : Sp := fun vs H Q _ => ∃ (l : Addr) (n : Nat), vs = [.ref l] ∧ Dr H l n ∧ n ≤ 10000 ∧ ∀ r H' q, Rz 60 q → But l H H' → Dr H' l (n + 3) → Tp H' r q → Q (.ref r) H'
def spFour : Sp := fun vs H Q _ => ∃ (l : Addr) (n : Nat), vs = [.ref l] ∧ Dr H l n ∧ n ≤ 1000 ∧ ∀ r H' m y o k, Good m y o k → Rz 60 m → But l H H' → Dr H' l (n + 11) → Fo H' r m y o k → Q (.ref r) H'
theorem Tp.but {l : Addr} {H H1 : Hp} {n : Nat} {a : Addr} {q : Rat} (h : Tp H a q) (b : But l H H1) (d : Dr H l n) : Tp H1 a q := b.tup d h
section
variable {P : Program} {w : World} {K : PySem.W.Frag} {mg : Str → Option Value} {base : Heap}
theorem ok_lpart (D : Df K mg "_law_part" s_l_part []) (f_l_next : Ca P w K mg base CX0 1 "_law_next" s_l_next [] ["_law_draws_here"] spNext) (f_l_low : Ca P w K mg base CX0 1 "_law_low" s_l_low [] ["_law_top", "_law_bottom"] spLow) : Ca P w K mg base CX0 2 "_law_part" s_l_part [] ["_law_draws_here"] spPart := by
  refine ca0 (k := 1) D c_l_part (fun vs H Q E h => ?_) fun f cdv A outer s H vs Q E hr h => ?_
  · obtain ⟨l, n, rfl, _⟩ := h
    rfl
  · obtain ⟨l, n, rfl, d, hn, q⟩ := h
    refine ⟨_, (pss_cons (ps_set (i := 1) c_l_part.nd rfl (.inl rfl) (pe_ca f_l_next b_l_next hr (by decide) pass0 rfl (pa_cons (pv 0) pa_nil)))
      (pss_cons (ps_set (i := 2) c_l_part.nd rfl (.inl rfl) (pe_op op_add (pe_op op_pow pe_int pe_int) (pe_op op_mod (pe_op op_fdiv (pv 1) pe_int) (pe_op op_pow pe_int pe_int))))
      (pss_cons (ps_set (i := 3) c_l_part.nd rfl (.inl rfl) (pe_ix ix_list (pe_lst (pa_cons (pe_op op_add pe_int (pe_op op_mod (pe_op op_fdiv (pv 1) pe_int) pe_int)) (pa_cons (pe_op op_add pe_int (pe_op op_mod (pe_op op_fdiv (pv 1) pe_int) pe_int)) (pa_cons (pe_op op_add pe_int (pe_op op_mod (pe_op op_fdiv (pv 1) pe_int) pe_int)) (pa_cons (pv 2) pa_nil))))) (pe_op op_mod (pv 1) pe_int) (fun _ _ => rfl)))
      (pss_one (ps_ret (pe_ca f_l_low b_l_low hr (by decide) pass0 rfl (pa_cons (pe_op op_mod (pe_ca f_l_next b_l_next hr (by decide) pass0 rfl (pa_cons (pv 0) pa_nil)) (pe_op op_add (pv 3) pe_int)) (pa_cons (pv 3) pa_nil)))))))), ?_⟩
    refine ⟨_, rfl, l, n, rfl, d, by omega, fun v H1 v0 v1 b1 d1 => ?_⟩
    refine ⟨_, _, rfl, rfl, ⟨by decide, by decide, by decide⟩, _, rfl, _, _, rfl, rfl, ⟨by decide, by decide⟩, _, _, rfl, rfl, ⟨by decide, by decide, by decide⟩, _, _, rfl, rfl, md, _, _, rfl, rfl, ?_⟩
    refine ⟨_, rfl, _, _, rfl, rfl, ⟨by decide, by decide⟩, _, _, rfl, rfl, md, _, _, rfl, rfl, _, rfl, _, _, rfl, rfl, ⟨by decide, by decide⟩, _, _, rfl, rfl, md, _, _, rfl, rfl, _, rfl, _, _, rfl, rfl, ⟨by decide, by decide⟩, _, _, rfl, rfl, md, _, _, rfl, rfl, _, rfl, (by show 4 ≤ sizeLine; decide), fun p hp => ?_⟩
    have h1 := Int.emod_nonneg v (show (4 : Int) ≠ 0 by decide)
    have h2 := Int.emod_lt_of_pos v (show (0 : Int) < 4 by decide)
    obtain ⟨x, hx, b, rfl, zb0, zb1⟩ := pick (P := fun x => ∃ i : Int, x = V.int i ∧ 1 ≤ i ∧ i ≤ 200000) (xs := [.int (1 + v / 4 % 3), .int (1 + v / 4 % 40), .int (1 + v / 4 % 1000), .int (10 ^ (5 : Int).toNat + v / 4 % 10 ^ (5 : Int).toNat)]) h1 h2 (by
      have e5 : (10 : Int) ^ (5 : Int).toNat = 100000 := by decide
      intro x hx
      rcases List.mem_cons.mp hx with rfl | hx
      · exact ⟨_, rfl, by omega, by omega⟩
      rcases List.mem_cons.mp hx with rfl | hx
      · exact ⟨_, rfl, by omega, by omega⟩
      rcases List.mem_cons.mp hx with rfl | hx
      · exact ⟨_, rfl, by omega, by omega⟩
      rcases List.mem_cons.mp hx with rfl | hx
      · exact ⟨_, rfl, by rw [e5]; omega, by rw [e5]; omega⟩
      · cases hx)
    refine ⟨_, rfl, _, _, rfl, rfl, md, p, _, _, _, rfl, rfl, SqL.of upd_same, hx, ?_⟩
    refine ⟨_, rfl, l, n + 1, rfl, d1.new hp, by omega, fun u H2 u0 u1 b2 d2 => ?_⟩
    have t0 := Int.emod_nonneg u (show b + 1 ≠ 0 by omega)
    have t1 := Int.emod_lt_of_pos u (show 0 < b + 1 by omega)
    refine ⟨_, rfl, _, _, rfl, rfl, _, _, rfl, rfl, (show 0 < b + 1 by omega), _, rfl, u % (b + 1), b, rfl, by omega, ?_, ?_, fun r hr' => ?_⟩
    · exact (Sz.of (n := 18) (by omega) (by have : (2 : Int) ^ 18 = 262144 := by decide
                                            omega)).mono (by decide)
    · exact (Sz.of (n := 18) (by omega) (by have : (2 : Int) ^ 18 = 262144 := by decide
                                            omega)).mono (by decide)
    · obtain ⟨q0, q1⟩ := unit_divInt t0 (show u % (b + 1) ≤ b by omega) (show 0 < b by omega)
      have e18 : (2 : Int) ^ 18 = 262144 := by decide
      exact q r _ _ q0 q1 (Rz.divInt (Sz.of (by omega) (by omega)) (Sz.of (by omega) (by omega)) (by decide)) (((b1.upd hp).trans b2).upd hr') (d2.new hr') upd_same
end
section
variable {P : Program} {w : World} {K : PySem.W.Frag} {mg : Str → Option Value} {base : Heap}
theorem ok_lmom (D : Df K mg "_law_moment" s_l_moment []) (f_l_next : Ca P w K mg base CX0 1 "_law_next" s_l_next [] ["_law_draws_here"] spNext) (f_l_part : Ca P w K mg base CX0 2 "_law_part" s_l_part [] ["_law_draws_here"] spPart) (f_l_plus : Ca P w K mg base CX0 2 "_law_plus" s_l_plus [] ["_law_one", "_law_two"] (spT2 fun a b => a + b)) : Ca P w K mg base CX0 3 "_law_moment" s_l_moment [] ["_law_draws_here"] spMom := by
  refine ca0 (k := 2) D c_l_moment (fun vs H Q E h => ?_) fun f cdv A outer s H vs Q E hr h => ?_
  · obtain ⟨l, n, rfl, _⟩ := h
    rfl
  · obtain ⟨l, n, rfl, d, hn, q⟩ := h
    refine ⟨_, (pss_cons (ps_set (i := 1) c_l_moment.nd rfl (.inl rfl) (pe_ca f_l_part b_l_part hr (by decide) pass0 rfl (pa_cons (pv 0) pa_nil)))
      (pss_cons (ps_set (i := 2) c_l_moment.nd rfl (.inl rfl) (pe_ca f_l_next b_l_next hr (by decide) pass0 rfl (pa_cons (pv 0) pa_nil)))
      (pss_cons (ps_set (i := 3) c_l_moment.nd rfl (.inl rfl) (pe_ix ix_list (pe_lst (pa_cons pe_int (pa_cons (pe_op op_mod (pe_op op_fdiv (pv 2) pe_int) pe_int) (pa_cons (pe_op op_add (pe_op op_pow pe_int pe_int) (pe_op op_fdiv (pv 2) pe_int)) (pa_cons (pe_op op_sub pe_int (pe_op op_mod (pe_op op_fdiv (pv 2) pe_int) (pe_op op_pow pe_int pe_int))) pa_nil))))) (pe_op op_mod (pv 2) pe_int) (fun _ _ => rfl)))
      (pss_one (ps_ret (pe_ca f_l_plus b_l_plus hr (by decide) pass0 rfl (pa_cons (pv 1) (pa_cons (pe_tup (pa_cons (pv 3) (pa_cons pe_int pa_nil))) pa_nil)))))))), ?_⟩
    refine ⟨_, rfl, l, n, rfl, d, by omega, fun a H1 x x0 x1 zx b1 d1 e1 => ?_⟩
    refine ⟨_, rfl, l, n + 2, rfl, d1, by omega, fun v H2 v0 v1 b2 d2 => ?_⟩
    refine ⟨_, rfl, _, _, rfl, rfl, ⟨by decide, by decide⟩, _, _, rfl, rfl, md, _, _, rfl, rfl, ⟨by decide, by decide, by decide⟩, _, rfl, _, _, rfl, rfl, ⟨by decide, by decide⟩, _, _, rfl, rfl, _, rfl, _, _, rfl, rfl, ⟨by decide, by decide⟩, _, _, rfl, rfl, ⟨by decide, by decide, by decide⟩, _, _, rfl, rfl, md, _, _, rfl, rfl, (by show 4 ≤ sizeLine; decide), fun p hp => ?_⟩
    have h1 := Int.emod_nonneg v (show (4 : Int) ≠ 0 by decide)
    have h2 := Int.emod_lt_of_pos v (show (0 : Int) < 4 by decide)
    obtain ⟨z, hz, i, rfl, zi⟩ := pick (P := fun x => ∃ i : Int, x = V.int i ∧ Sz 30 i) (xs := [.int 0, .int (v / 4 % 100), .int (10 ^ (6 : Int).toNat + v / 4), .int (0 - v / 4 % 10 ^ (5 : Int).toNat)]) h1 h2 (by
      have e5 : (10 : Int) ^ (5 : Int).toNat = 100000 := by decide
      have e6 : (10 : Int) ^ (6 : Int).toNat = 1000000 := by decide
      have e30 : (2 : Int) ^ 30 = 1073741824 := by decide
      intro x hx
      rcases List.mem_cons.mp hx with rfl | hx
      · exact ⟨_, rfl, Sz.of (by omega) (by omega)⟩
      rcases List.mem_cons.mp hx with rfl | hx
      · exact ⟨_, rfl, Sz.of (by omega) (by omega)⟩
      rcases List.mem_cons.mp hx with rfl | hx
      · exact ⟨_, rfl, Sz.of (by rw [e6, e30]; omega) (by rw [e6, e30]; omega)⟩
      rcases List.mem_cons.mp hx with rfl | hx
      · exact ⟨_, rfl, Sz.of (by rw [e5, e30]; omega) (by rw [e5, e30]; omega)⟩
      · cases hx)
    refine ⟨_, rfl, _, _, rfl, rfl, md, p, _, _, _, rfl, rfl, SqL.of upd_same, hz, ?_⟩
    refine ⟨_, rfl, _, rfl, (by show 2 ≤ sizeLine; decide), fun t ht => ?_⟩
    have ea : Tp _ a x := ((e1.but b2 d1).same (Same.new hp)).same (Same.new (o := .tup [.int i, .int 1]) ht)
    refine ⟨a, t, x, (i : Rat), rfl, ea.tq (zx.mono (by decide)), int_div i (zi.mono (by decide)) (by decide), fun r H3 nr s3 e3 => ?_⟩
    exact q r H3 _ (zx.add (Rz.int zi (by decide)) (by decide)) (((((b1.trans b2).upd hp).upd ht)).trans (But.same s3)) (((d2.new hp).new ht).same s3 (by omega)) e3
end
theorem Fo.but {l : Addr} {H H1 : Hp} {r : Addr} {n : Nat} {m y o k : Rat} (h : Fo H r m y o k) (b : But l H H1) (d : Dr H l n) : Fo H1 r m y o k := by
  obtain ⟨a, b', c, d', e, h1, h2, h3, h4⟩ := h
  exact ⟨a, b', c, d', b.tup d e, h1.but b d, h2.but b d, h3.but b d, h4.but b d⟩
/-- a month and a year of the law's -/
structure MY (m y : Rat) : Prop where
  fit : Fit m y
  zm : Rz 60 m
  zy : Rz 60 y
def qm1 : Rat := ⟨27759, 940, by decide, by decide⟩
def qy1 : Rat := ⟨1461, 4, by decide, by decide⟩
def qm2 : Rat := ⟨765433, 25920, by decide, by decide⟩
def qy2 : Rat := ⟨35975351, 98496, by decide, by decide⟩
def qm3 : Rat := ⟨59, 2, by decide, by decide⟩
def qy3 : Rat := ⟨365, 1, by decide, by decide⟩
def qm4 : Rat := ⟨30, 1, by decide, by decide⟩
def qy4 : Rat := ⟨366, 1, by decide, by decide⟩
theorem my1 : MY qm1 qy1 := ⟨⟨by decide +kernel, by decide +kernel, by decide +kernel⟩, ⟨szi _, szi _⟩, ⟨szi _, szi _⟩⟩
theorem my2 : MY qm2 qy2 := ⟨⟨by decide +kernel, by decide +kernel, by decide +kernel⟩, ⟨szi _, szi _⟩, ⟨szi _, szi _⟩⟩
theorem my3 : MY qm3 qy3 := ⟨⟨by decide +kernel, by decide +kernel, by decide +kernel⟩, ⟨szi _, szi _⟩, ⟨szi _, szi _⟩⟩
theorem my4 : MY qm4 qy4 := ⟨⟨by decide +kernel, by decide +kernel, by decide +kernel⟩, ⟨szi _, szi _⟩, ⟨szi _, szi _⟩⟩
section
variable {P : Program} {w : World} {K : PySem.W.Frag} {mg : Str → Option Value} {base : Heap}
theorem ok_lfour (D : Df K mg "_law_four" s_l_four []) (f_l_next : Ca P w K mg base CX0 1 "_law_next" s_l_next [] ["_law_draws_here"] spNext) (f_l_part : Ca P w K mg base CX0 2 "_law_part" s_l_part [] ["_law_draws_here"] spPart) (f_l_plus : Ca P w K mg base CX0 2 "_law_plus" s_l_plus [] ["_law_one", "_law_two"] (spT2 fun a b => a + b)) (f_l_by : Ca P w K mg base CX0 2 "_law_by" s_l_by [] ["_law_one", "_law_two"] (spT2 fun a b => a * b)) (f_l_moment : Ca P w K mg base CX0 3 "_law_moment" s_l_moment [] ["_law_draws_here"] spMom) : Ca P w K mg base CX0 4 "_law_four" s_l_four [] ["_law_draws_here"] spFour := by
  refine ca0 (k := 3) D c_l_four (fun vs H Q E h => ?_) fun f cdv A outer s H vs Q E hr h => ?_
  · obtain ⟨l, n, rfl, _⟩ := h
    rfl
  · obtain ⟨l, n, rfl, d, hn, q⟩ := h
    refine ⟨_, (pss_cons (ps_set (i := 1) c_l_four.nd rfl (.inl rfl) (pe_ca f_l_next b_l_next hr (by decide) pass0 rfl (pa_cons (pv 0) pa_nil)))
      (pss_cons (ps_if (pt_cmpR op_eq (pe_op op_mod (pv 1) pe_int) pe_int (nomark _)) (pss_cons (ps_set (i := 2) c_l_four.nd rfl (.inl rfl) (pe_lst (pa_cons (pe_tup (pa_cons (pe_tup (pa_cons pe_int (pa_cons pe_int pa_nil))) (pa_cons (pe_tup (pa_cons pe_int (pa_cons pe_int pa_nil))) pa_nil))) (pa_cons (pe_tup (pa_cons (pe_tup (pa_cons pe_int (pa_cons pe_int pa_nil))) (pa_cons (pe_tup (pa_cons pe_int (pa_cons pe_int pa_nil))) pa_nil))) pa_nil))))
      (pss_one (ps_asg (pe_ix ix_list (pe_op op_cat (pv 2) (pe_lst (pa_cons (pe_tup (pa_cons (pe_tup (pa_cons pe_int (pa_cons pe_int pa_nil))) (pa_cons (pe_tup (pa_cons pe_int (pa_cons pe_int pa_nil))) pa_nil))) (pa_cons (pe_tup (pa_cons (pe_tup (pa_cons pe_int (pa_cons pe_int pa_nil))) (pa_cons (pe_tup (pa_cons pe_int (pa_cons pe_int pa_nil))) pa_nil))) pa_nil)))) (pe_op op_mod (pe_op op_fdiv (pv 1) pe_int) pe_int) (fun _ _ => rfl)) (pg_tup rfl (pgs_cons (pg_name (i := 3) c_l_four.nd rfl (.inl rfl)) (pgs_cons (pg_name (i := 4) c_l_four.nd rfl (.inl rfl)) pgs_nil)))))) (pss_cons (ps_set (i := 5) c_l_four.nd rfl (.inl rfl) (pe_ix ix_list (pe_lst (pa_cons (pe_op op_add pe_int (pe_op op_mod (pe_op op_fdiv (pv 1) pe_int) pe_int)) (pa_cons (pe_op op_add pe_int (pe_op op_mod (pe_op op_fdiv (pv 1) pe_int) pe_int)) (pa_cons (pe_op op_add pe_int (pe_op op_mod (pe_op op_fdiv (pv 1) pe_int) pe_int)) (pa_cons pe_int (pa_cons pe_int pa_nil)))))) (pe_op op_mod (pe_op op_fdiv (pv 1) pe_int) pe_int) (fun _ _ => rfl)))
      (pss_cons (ps_set (i := 6) c_l_four.nd rfl (.inl rfl) (pe_ca f_l_part b_l_part hr (by decide) pass0 rfl (pa_cons (pv 0) pa_nil)))
      (pss_cons (ps_set (i := 7) c_l_four.nd rfl (.inl rfl) (pe_ca f_l_part b_l_part hr (by decide) pass0 rfl (pa_cons (pv 0) pa_nil)))
      (pss_cons (ps_set (i := 3) c_l_four.nd rfl (.inl rfl) (pe_ca f_l_by b_l_by hr (by decide) pass0 rfl (pa_cons (pe_ca f_l_plus b_l_plus hr (by decide) pass0 rfl (pa_cons (pe_tup (pa_cons (pe_op op_add (pe_op op_mul pe_int (pv 5)) pe_int) (pa_cons pe_int pa_nil))) (pa_cons (pe_ca f_l_by b_l_by hr (by decide) pass0 rfl (pa_cons (pv 6) (pa_cons (pe_tup (pa_cons (pe_op op_sub (pv 5) pe_int) (pa_cons pe_int pa_nil))) pa_nil))) pa_nil))) (pa_cons (pe_tup (pa_cons pe_int (pa_cons pe_int pa_nil))) pa_nil))))
      (pss_one (ps_set (i := 4) c_l_four.nd rfl (.inl rfl) (pe_ca f_l_plus b_l_plus hr (by decide) pass0 rfl (pa_cons (pe_tup (pa_cons (pe_op op_mul pe_int (pv 5)) (pa_cons pe_int pa_nil))) (pa_cons (pe_ca f_l_by b_l_by hr (by decide) pass0 rfl (pa_cons (pe_ca f_l_by b_l_by hr (by decide) pass0 rfl (pa_cons (pv 7) (pa_cons (pv 6) pa_nil))) (pa_cons (pe_tup (pa_cons (pe_op op_sub (pv 5) pe_int) (pa_cons pe_int pa_nil))) pa_nil))) pa_nil))))))))))
      (pss_one (ps_ret (pe_tup (pa_cons (pv 3) (pa_cons (pv 4) (pa_cons (pe_ca f_l_moment b_l_moment hr (by decide) pass0 rfl (pa_cons (pv 0) pa_nil)) (pa_cons (pe_ca f_l_moment b_l_moment hr (by decide) pass0 rfl (pa_cons (pv 0) pa_nil)) pa_nil))))))))), ?_⟩
    have fin : ∀ (x1 x2 x5 x6 x7 : Option V) (a b : Addr) (m y : Rat) (H1 : Hp), MY m y → But l H H1 → Dr H1 l (n + 5) → Tp H1 a m → Tp H1 b y →
        tRet (tTup (tCons (tVar 3) (tCons (tVar 4) (tCons (tCall spMom [] E0 (tCons (tVar 0) tNil)) (tCons (tCall spMom [] E0 (tCons (tVar 0) tNil)) tNil))))) { nx := fun _ H' => Q .non H', rt := Q } [some (.ref l), x1, x2, some (.ref a), some (.ref b), x5, x6, x7] H1 := by
      intro x1 x2 x5 x6 x7 a b m y H1 my b1 d1 ea eb
      refine ⟨_, rfl, _, rfl, _, rfl, l, n + 5, rfl, d1, by omega, fun c H2 o zo b2 d2 ec => ?_⟩
      refine ⟨_, rfl, l, n + 8, rfl, d2, by omega, fun e H3 k zk b3 d3 ee => ?_⟩
      refine ⟨(by show 4 ≤ sizeLine; decide), fun r hr' => ?_⟩
      have bb : But l H1 H3 := b2.trans b3
      refine q r _ m y o k ⟨my.fit, my.zm.mono (by decide), my.zy.mono (by decide), zo.mono (by decide), zk.mono (by decide)⟩ my.zm ((b1.trans bb).upd hr') ((d3.new hr').mono (by omega)) ?_
      exact ⟨a, b, c, e, upd_same, (ea.but bb d1).same (Same.new hr'), (eb.but bb d1).same (Same.new hr'), (ec.but b3 d2).same (Same.new hr'), ee.same (Same.new hr')⟩
    refine ⟨_, rfl, l, n, rfl, d, by omega, fun v H1 v0 v1 b1 d1 => ?_⟩
    refine ⟨_, rfl, _, _, rfl, rfl, md, rfl, _, rfl, ?_⟩
    refine ite2 (fun _ => ?_) (fun _ => ?_)
    · refine ⟨(by show 2 ≤ sizeLine; decide), fun a1 n1 => ⟨(by show 2 ≤ sizeLine; decide), fun c1 n2 => ⟨(by show 2 ≤ sizeLine; decide), fun r1 n3 => ⟨(by show 2 ≤ sizeLine; decide), fun a2 n4 => ⟨(by show 2 ≤ sizeLine; decide), fun c2 n5 => ⟨(by show 2 ≤ sizeLine; decide), fun r2 n6 => ⟨(by show 2 ≤ sizeLine; decide), fun l1 n7 => ?_⟩⟩⟩⟩⟩⟩⟩
      refine ⟨_, rfl, (by show 2 ≤ sizeLine; decide), fun a3 n8 => ⟨(by show 2 ≤ sizeLine; decide), fun c3 n9 => ⟨(by show 2 ≤ sizeLine; decide), fun r3 n10 => ⟨(by show 2 ≤ sizeLine; decide), fun a4 n11 => ⟨(by show 2 ≤ sizeLine; decide), fun c4 n12 => ⟨(by show 2 ≤ sizeLine; decide), fun r4 n13 => ⟨(by show 2 ≤ sizeLine; decide), fun l2 n14 => ?_⟩⟩⟩⟩⟩⟩⟩
      have s2 := Same.new (o := .tup [.int 1461, .int 4]) n2
      have s3 := Same.new (o := .tup [.ref a1, .ref c1]) n3
      have s4 := Same.new (o := .tup [.int 765433, .int 25920]) n4
      have s5 := Same.new (o := .tup [.int 35975351, .int 98496]) n5
      have s6 := Same.new (o := .tup [.ref a2, .ref c2]) n6
      have s7 := Same.new (o := .lst [.ref r1, .ref r2]) n7
      have s8 := Same.new (o := .tup [.int 59, .int 2]) n8
      have s9 := Same.new (o := .tup [.int 365, .int 1]) n9
      have s10 := Same.new (o := .tup [.ref a3, .ref c3]) n10
      have s11 := Same.new (o := .tup [.int 30, .int 1]) n11
      have s12 := Same.new (o := .tup [.int 366, .int 1]) n12
      have s13 := Same.new (o := .tup [.ref a4, .ref c4]) n13
      have s14 := Same.new (o := .lst [.ref r3, .ref r4]) n14
      have t13 := s14
      have t12 := s13.trans t13
      have t11 := s12.trans t12
      have t10 := s11.trans t11
      have t9 := s10.trans t10
      have t8 := s9.trans t9
      have t7 := s8.trans t8
      have t6 := s7.trans t7
      have t5 := s6.trans t6
      have t4 := s5.trans t5
      have t3 := s4.trans t4
      have t2 := s3.trans t3
      have t1 := s2.trans t2
      have t0 := (Same.new (o := .tup [.int 27759, .int 940]) n1).trans t1
      refine ⟨l1, l2, _, _, rfl, rfl, t7 _ _ upd_same, upd_same, (by show 4 ≤ sizeLine; decide), fun l3 n15 => ?_⟩
      have sz := Same.new (o := .lst ([.ref r1, .ref r2] ++ [.ref r3, .ref r4])) n15
      have h1 := Int.emod_nonneg (v / 8) (show (4 : Int) ≠ 0 by decide)
      have h2 := Int.emod_lt_of_pos (v / 8) (show (0 : Int) < 4 by decide)
      obtain ⟨x, hx, r, a, c, m, y, rfl, er, ea, ec, my⟩ := pick (P := fun x => ∃ (r a c : Addr) (m y : Rat), x = V.ref r ∧ (L2.upd _ l3 (.lst ([.ref r1, .ref r2] ++ [.ref r3, .ref r4]))) r = some (.tup [.ref a, .ref c]) ∧ Tp (L2.upd _ l3 (.lst ([.ref r1, .ref r2] ++ [.ref r3, .ref r4]))) a m ∧ Tp (L2.upd _ l3 (.lst ([.ref r1, .ref r2] ++ [.ref r3, .ref r4]))) c y ∧ MY m y) (xs := [.ref r1, .ref r2, .ref r3, .ref r4]) h1 h2 (by
        intro x hx
        rcases List.mem_cons.mp hx with rfl | hx
        · exact ⟨r1, a1, c1, qm1, qy1, rfl, sz _ _ (t3 _ _ upd_same), sz _ _ (t1 _ _ upd_same), sz _ _ (t2 _ _ upd_same), my1⟩
        rcases List.mem_cons.mp hx with rfl | hx
        · exact ⟨r2, a2, c2, qm2, qy2, rfl, sz _ _ (t6 _ _ upd_same), sz _ _ (t4 _ _ upd_same), sz _ _ (t5 _ _ upd_same), my2⟩
        rcases List.mem_cons.mp hx with rfl | hx
        · exact ⟨r3, a3, c3, qm3, qy3, rfl, sz _ _ (t10 _ _ upd_same), sz _ _ (t8 _ _ upd_same), sz _ _ (t9 _ _ upd_same), my3⟩
        rcases List.mem_cons.mp hx with rfl | hx
        · exact ⟨r4, a4, c4, qm4, qy4, rfl, sz _ _ (t13 _ _ upd_same), sz _ _ (t11 _ _ upd_same), sz _ _ (t12 _ _ upd_same), my4⟩
        · cases hx)
      refine ⟨_, rfl, _, _, rfl, rfl, ⟨by decide, by decide⟩, _, _, rfl, rfl, md, l3, _, _, _, rfl, rfl, SqL.of upd_same, hx, ?_⟩
      refine ⟨r, _, rfl, SqT.of er, rfl, _, _, rfl, _, _, rfl, rfl, ?_⟩
      exact fin _ _ _ _ _ a c m y _ my (b1.trans (But.same (t0.trans sz))) (d1.same (t0.trans sz) (by omega)) ea ec
    · refine ⟨_, rfl, _, _, rfl, rfl, ⟨by decide, by decide⟩, _, _, rfl, rfl, md, _, _, rfl, rfl, _, rfl, _, _, rfl, rfl, ⟨by decide, by decide⟩, _, _, rfl, rfl, md, _, _, rfl, rfl, _, rfl, _, _, rfl, rfl, ⟨by decide, by decide⟩, _, _, rfl, rfl, md, _, _, rfl, rfl, (by show 5 ≤ sizeLine; decide), fun p hp => ?_⟩
      have h1 := Int.emod_nonneg (v / 400) (show (5 : Int) ≠ 0 by decide)
      have h2 := Int.emod_lt_of_pos (v / 400) (show (0 : Int) < 5 by decide)
      obtain ⟨z, hz, i, rfl, i0, i1⟩ := pick (P := fun x => ∃ i : Int, x = V.int i ∧ 1 ≤ i ∧ i ≤ 32) (xs := [.int (1 + v / 8 % 4), .int (2 + v / 8 % 30), .int (28 + v / 8 % 5), .int 30, .int 30]) h1 h2 (by
        intro x hx
        rcases List.mem_cons.mp hx with rfl | hx
        · exact ⟨_, rfl, by omega, by omega⟩
        rcases List.mem_cons.mp hx with rfl | hx
        · exact ⟨_, rfl, by omega, by omega⟩
        rcases List.mem_cons.mp hx with rfl | hx
        · exact ⟨_, rfl, by omega, by omega⟩
        rcases List.mem_cons.mp hx with rfl | hx
        · exact ⟨_, rfl, by omega, by omega⟩
        rcases List.mem_cons.mp hx with rfl | hx
        · exact ⟨_, rfl, by omega, by omega⟩
        · cases hx)
      refine ⟨_, rfl, _, _, rfl, rfl, ⟨by decide, by decide⟩, _, _, rfl, rfl, md, p, _, _, _, rfl, rfl, SqL.of upd_same, hz, ?_⟩
      refine ⟨_, rfl, l, n + 1, rfl, d1.new hp, by omega, fun a2 H2 sq s0 s1 zs b2 d2 e2 => ?_⟩
      refine ⟨_, rfl, l, n + 3, rfl, d2, by omega, fun a3 H3 rq r0 r1 zr b3 d3 e3 => ?_⟩
      have b13 : But l H H3 := ((b1.upd hp).trans b2).trans b3
      have e2' : Tp H3 a2 sq := e2.but b3 d2
      have p6 : (2 : Int) ^ 6 = 64 := by decide
      have p10 : (2 : Int) ^ 10 = 1024 := by decide
      have z1 : Rz 6 ((i - 1 : Int) : Rat) := Rz.int (n := 6) (Sz.of (by omega) (by omega)) (by decide)
      have z12 : Rz 10 ((12 * i : Int) : Rat) := Rz.int (n := 10) (Sz.of (by omega) (by omega)) (by decide)
      have z121 : Rz 10 ((12 * i + 1 : Int) : Rat) := Rz.int (n := 10) (Sz.of (by omega) (by omega)) (by decide)
      have zsw : Rz 25 (sq * ((i - 1 : Int) : Rat)) := zs.mul z1 (by decide)
      have zp : Rz 36 (((12 * i + 1 : Int) : Rat) + sq * ((i - 1 : Int) : Rat)) := z121.add zsw (by decide)
      have z13 : Rz 4 (Rat.divInt 1 13) := Rz.divInt (szi 1) (szi 13) (by decide)
      have zm : Rz 60 ((((12 * i + 1 : Int) : Rat) + sq * ((i - 1 : Int) : Rat)) * Rat.divInt 1 13) := zp.mul z13 (by decide)
      have zrs : Rz 37 (rq * sq) := zr.mul zs (by decide)
      have zrw : Rz 44 (rq * sq * ((i - 1 : Int) : Rat)) := zrs.mul z1 (by decide)
      have zy : Rz 60 (((12 * i : Int) : Rat) + rq * sq * ((i - 1 : Int) : Rat)) := z12.add zrw (by decide)
      refine ⟨_, rfl, _, _, rfl, rfl, .inl ⟨by decide, by decide⟩, _, _, rfl, rfl, (by show 2 ≤ sizeLine; decide), fun t1 n1 => ?_⟩
      refine ⟨_, rfl, _, rfl, _, _, rfl, rfl, (by show 2 ≤ sizeLine; decide), fun t2 n2 => ?_⟩
      have u1 := Same.new (o := .tup [.int (12 * i + 1), .int 1]) n1
      have u2 := Same.new (o := .tup [.int (i - 1), .int 1]) n2
      refine ⟨a2, t2, sq, _, rfl, ((e2'.same u1).same u2).tq (zs.mono (by decide)), int_div (i - 1) (z1.1.mono (by decide)) (by decide), fun t3 H4 n3 u3 e4 => ?_⟩
      refine ⟨t1, t3, _, _, rfl, ((int_div (12 * i + 1) (z121.1.mono (by decide)) (by decide)).same u2).same u3, e4.tq (zsw.mono (by decide)), fun t4 H5 n4 u4 e5 => ?_⟩
      refine ⟨(by show 2 ≤ sizeLine; decide), fun t5 n5 => ?_⟩
      have u5 := Same.new (o := .tup [.int 1, .int 13]) n5
      refine ⟨t4, t5, _, Rat.divInt 1 13, rfl, (e5.same u5).tq (zp.mono (by decide)), ⟨1, 13, upd_same, by decide, rfl, szi 1 (Nat.one_lt_two_pow (by decide)), (szi (n := 4) 13).mono (by decide)⟩, fun t6 H6 n6 u6 e6 => ?_⟩
      have v16 : Same H3 H6 := u1.trans (u2.trans (u3.trans (u4.trans (u5.trans u6))))
      refine ⟨_, rfl, _, _, rfl, rfl, .inl ⟨by decide, by decide⟩, (by show 2 ≤ sizeLine; decide), fun t7 n7 => ?_⟩
      have u7 := Same.new (o := .tup [.int (12 * i), .int 1]) n7
      refine ⟨_, rfl, _, rfl, a3, a2, rq, sq, rfl, ((e3.same v16).same u7).tq (zr.mono (by decide)), ((e2'.same v16).same u7).tq (zs.mono (by decide)), fun t8 H8 n8 u8 e8 => ?_⟩
      refine ⟨_, rfl, _, _, rfl, rfl, (by show 2 ≤ sizeLine; decide), fun t9 n9 => ?_⟩
      have u9 := Same.new (o := .tup [.int (i - 1), .int 1]) n9
      refine ⟨t8, t9, _, _, rfl, (e8.same u9).tq (zrs.mono (by decide)), int_div (i - 1) (z1.1.mono (by decide)) (by decide), fun t10 H10 n10 u10 e10 => ?_⟩
      refine ⟨t7, t10, _, _, rfl, ((int_div (12 * i) (z12.1.mono (by decide)) (by decide)).same (u8.trans u9)).same u10, e10.tq (zrw.mono (by decide)), fun t11 H11 n11 u11 e11 => ?_⟩
      have v6 : Same H6 H11 := u7.trans (u8.trans (u9.trans (u10.trans u11)))
      exact fin _ _ _ _ _ t6 t11 _ _ H11 ⟨fit_drawn i0 s0 s1 r0 r1, zm, zy⟩ (b13.trans (But.same (v16.trans v6))) (d3.same (v16.trans v6) (by omega)) (e6.same v6) e11
end
/-! ### calendars made, the second way -/
def gC4 {α : Type} : List α → List α → List α → List α := fun us _ ws => us ++ (match ws with | [a, b, c, d] => [d, c, b, a] | _ => [])
def gC2 {α : Type} : List α → List α → List α → List α := fun us _ ws => us ++ ws
theorem gC4_rel {vs ds zs : List V} {us its ws : List Value} (h : Vals vs us) (_ : Vals ds its) (k : Vals zs ws) : Vals (gC4 vs ds zs) (gC4 us its ws) := by
  refine h.append ?_
  cases k with
  | nil => exact .nil
  | cons a k => cases k with
    | nil => exact .nil
    | cons b k => cases k with
      | nil => exact .nil
      | cons c k => cases k with
        | nil => exact .nil
        | cons d k => cases k with
          | nil => exact .cons d (.cons c (.cons b (.cons a .nil)))
          | cons e k => exact .nil
theorem gC2_rel {vs ds zs : List V} {us its ws : List Value} (h : Vals vs us) (_ : Vals ds its) (k : Vals zs ws) : Vals (gC2 vs ds zs) (gC2 us its ws) := h.append k
theorem kb_Calendar_0_mark_moon_year_month : Kd "Calendar.__init__" s_Calendar_init 2 1 ["mark", "moon", "year", "month"] ["self", "month", "year", "moon", "mark"] gC4 :=
  ⟨fun _ _ _ _ _ _ _ us its ws hu hi hw => match us, hu, its, hi, ws, hw with | [_], _, [_, _], _, [_, _, _, _], _ => ⟨_, rfl, rfl⟩, gC4_rel⟩
theorem kb_Calendar_2_moon_mark : Kd "Calendar.__init__" s_Calendar_init 2 3 ["moon", "mark"] ["self", "month", "year", "moon", "mark"] gC2 :=
  ⟨fun _ _ _ _ _ _ _ us its ws hu hi hw => match us, hu, its, hi, ws, hw with | [_, _, _], _, [_, _], _, [_, _], _ => ⟨_, rfl, rfl⟩, gC2_rel⟩
theorem bd_Calendar4 : Bd1 "__init__" "Calendar.__init__" s_Calendar_init ["self", "month", "year", "moon", "mark"] 5 2 2 := fun _ _ _ _ _ _ _ us its hu hi => match us, hu, its, hi with | [_, _, _, _, _], _, [_, _], _ => ⟨_, rfl, rfl⟩
theorem made_ca {C Cc : Addr} {H : Hp} {R : Addr → Hp → Prop} {E : XK} {v u x z : V} {m y o k : Rat} (hv : Rv C H v m) (hu : Rv C H u y) (hx : Mv C H x o) (hz : Mv C H z k) (g : Good m y o k) (h : ∀ p H', H p = none → Same H H' → Cl C Cc H' p m y o k → R p H') :
    ∀ a dx, H a = none → H dx = none → dx ≠ a → spCaI C Cc [.ref a, v, u, x, z] (L2.upd (L2.upd H dx (.own a)) a (.ins Cc dx [])) (fun r H2 => r = .non ∧ R a H2) E := by
  intro a dx ha hd ne
  have s0 : Same H (L2.upd (L2.upd H dx (.own a)) a (.ins Cc dx [])) := Same.upd (Same.new hd) (by rw [upd_ne ne.symm]; exact ha)
  refine ⟨a, dx, v, u, x, z, m, y, o, k, rfl, upd_same, hv.same s0, hu.same s0, hx.same s0, hz.same s0, g, fun H' b hc => ⟨rfl, ?_⟩⟩
  exact h a H' ha (fun c w e => b c w (ne_of_none e ha) (s0 c w e)) hc
def spMade (C Cc : Addr) : Sp := fun vs H Q _ => ∃ (r : Addr) (i : Int) (m y o k : Rat), vs = [.ref r, .int i] ∧ Fo H r m y o k ∧ Good m y o k ∧ ∀ p H', H p = none → Same H H' → Cl C Cc H' p m y o k → Q (.ref p) H'
theorem Sh.mv {C p : Addr} {H : Hp} {q : Rat} (h : Sh C H p q) : Mv C H (.ref p) q := .inr h.rv
/-- a comprehension's turn without a test -/
theorem yes {σ : L2.St} {H : Hp} {A B : Hp → Prop} (h : A H) : tYes σ H fun b H3 => if b = true then A H3 else B H3 := by
  show if true = true then A H else B H
  rw [if_pos rfl]
  exact h
/-- what the law's four hold, one by one -/
theorem four_at {H : Hp} {r a b c d : Addr} {m y o k : Rat} (g : Good m y o k) (h1 : Tp H a m) (h2 : Tp H b y) (h3 : Tp H c o) (h4 : Tp H d k) {i : Nat} {x : V} (hi : [V.ref a, V.ref b, V.ref c, V.ref d][i]? = some x) : ∃ (t : Addr) (q : Rat), x = V.ref t ∧ [m, y, o, k][i]? = some q ∧ Tp H t q ∧ Rz 70 q := by
  match i, hi with
  | 0, hi => cases hi; exact ⟨a, m, rfl, rfl, h1, g.zm⟩
  | 1, hi => cases hi; exact ⟨b, y, rfl, rfl, h2, g.zy⟩
  | 2, hi => cases hi; exact ⟨c, o, rfl, rfl, h3, g.zo⟩
  | 3, hi => cases hi; exact ⟨d, k, rfl, rfl, h4, g.zk⟩
  | j + 4, hi => simp at hi
section
variable {P : Program} {w : World} {K : PySem.W.Frag} {mg : Str → Option Value} {base : Heap} {C Cc : Addr}
abbrev TE_l_made1 (C : Addr) : TE := tMake C (spShI C) (([.int 1] : List V).drop 1) E0 (tCons (tVar 6) (tCons (tVar 7) tNil))
theorem ok_lmade2 (D : Df K mg "_law_made" s_l_made []) (f_Share : Ci P w K mg base CX0 2 "Share" C "Share.__init__" s_Share_init [.int 1] ["self", "top", "bottom"] (spShI C)) (f_Calendar : Ci P w K mg base CX0 8 "Calendar" Cc "Calendar.__init__" s_Calendar_init [.non, .non] ["self", "month", "year", "moon", "mark"] (spCaI C Cc)) : Ca P w K mg base CX0 10 "_law_made" s_l_made [] ["_law_four_here", "_law_way"] (spMade C Cc) := by
  refine ca0 (k := 9) D c_l_made (fun vs H Q E h => ?_) fun f cdv A outer s H vs Q E hr h => ?_
  · obtain ⟨r, i, m, y, o, k, rfl, _⟩ := h
    rfl
  · obtain ⟨r, i, m, y, o, k, rfl, fo, g, q⟩ := h
    obtain ⟨a, b, c, d, e, h1, h2, h3, h4⟩ := id fo
    refine ⟨_, (pss_cons (ps_asg (pe_lc (own := [("_law_top", 6), ("_law_bottom", 7)]) (g := gTup K 2 (gCons (gName 6) (gCons (gName 7) gNil))) (tt := tYes) (te := TE_l_made1 C) rfl c_l_made.nd (pi_tup (pv 0)) (blkOk_by (N := ["_law_four_here", "_law_way", "_law_lune", "_law_sun", "_law_come", "_law_begun", "_law_top", "_law_bottom"]) (sc := defScope s_l_made) (by decide +kernel)) (fun _ _ _ _ _ => (pg_tup rfl (pgs_cons (pg_name (i := 6) c_l_made.nd rfl (.inl rfl)) (pgs_cons (pg_name (i := 7) c_l_made.nd rfl (.inl rfl)) pgs_nil)))) (fun _ _ _ _ _ => by exact pts_nil) (fun _ _ _ _ _ => by exact (pe_ci f_Share bd_Share2 (by decide) rfl hr (by decide) pass0 rfl (pa_cons (pv 6) (pa_cons (pv 7) pa_nil))))) (pg_unl rfl (pgs_cons (pg_name (i := 2) c_l_made.nd rfl (.inl rfl)) (pgs_cons (pg_name (i := 3) c_l_made.nd rfl (.inl rfl)) (pgs_cons (pg_name (i := 4) c_l_made.nd rfl (.inl rfl)) (pgs_cons (pg_name (i := 5) c_l_made.nd rfl (.inl rfl)) pgs_nil))))))
      (pss_cons (ps_if (pt_cmpR op_eq (pe_op op_mod (pv 1) pe_int) pe_int (nomark _)) (pss_one (ps_ret (pe_ci f_Calendar bd_Calendar4 (by decide) rfl hr (by decide) pass0 rfl (pa_cons (pv 2) (pa_cons (pv 3) (pa_cons (pv 4) (pa_cons (pv 5) pa_nil))))))) pss_nil)
      (pss_cons (ps_if (pt_cmpR op_eq (pe_op op_mod (pv 1) pe_int) pe_int (nomark _)) (pss_one (ps_ret (pe_ciK f_Calendar kb_Calendar_2_moon_mark (by decide) hr (by decide) pass0 rfl (pa_cons (pv 2) (pa_cons (pv 3) pa_nil)) (pk_cons (pv 4) (pk_cons (pv 5) pk_nil))))) pss_nil)
      (pss_one (ps_ret (pe_ciK0 f_Calendar kb_Calendar_0_mark_moon_year_month (by decide) hr (by decide) pass0 rfl (pk_cons (pv 5) (pk_cons (pv 4) (pk_cons (pv 3) (pk_cons (pv 2) pk_nil)))))))))), ?_⟩
    refine ⟨_, rfl, r, rfl, ⟨_, SqT.of e⟩, fun D0 hD => ?_⟩
    refine lc_all (walk_tup (K := K) (a := r) (xs := [.ref a, .ref b, .ref c, .ref d])) yAt_same hD (by show 4 < sizeLine; decide) (fun j v H' => ∃ (p : Addr) (x : Rat), v = .ref p ∧ [m, y, o, k][j]? = some x ∧ Sh C H' p x)
      (fun j v H1 H2 s ⟨p, x, e1, e2, e3⟩ => ⟨p, x, e1, e2, e3.same s⟩) (fun j v H1 acc acc' hacc ⟨p, x, e1, e2, dx, e3⟩ => ⟨p, x, e1, e2, dx, ?_⟩) (fun H' s' => SqT.of (s' _ _ e)) ?_ ?_
    · rw [upd_ne (ne_of e3 hacc (by intro z; cases z))]
      exact e3
    · rintro i x H1 H2 R hi s1 ⟨rfl, hx⟩ k1
      obtain ⟨t, xq, rfl, hq, ht, zq⟩ := four_at (r := r) g (h1.same s1) (h2.same s1) (h3.same s1) (h4.same s1) hx
      refine ⟨t, _, rfl, SqT.of ht, rfl, _, _, rfl, _, _, rfl, rfl, rfl, ?_⟩
      refine ⟨_, rfl, _, rfl, ?_⟩
      refine made_sh (Int.ne_of_gt (den_pos xq)) (zq.1.mono (by decide)) (zq.2.mono (by decide)) fun p H3 np s3 h3' => ?_
      rw [Rat.num_divInt_den] at h3'
      exact k1 _ H3 s3 ⟨p, xq, rfl, hq, h3'⟩
    · intro us H' hl hD' hs hp
      match us, hl with
      | [u1, u2, u3, u4], _ =>
        obtain ⟨p1, x1, rfl, e1, g1⟩ := hp 0 _ rfl
        obtain ⟨p2, x2, rfl, e2, g2⟩ := hp 1 _ rfl
        obtain ⟨p3, x3, rfl, e3, g3⟩ := hp 2 _ rfl
        obtain ⟨p4, x4, rfl, e4, g4⟩ := hp 3 _ rfl
        cases e1
        cases e2
        cases e3
        cases e4
        refine ⟨D0, _, rfl, SqL.of hD', rfl, _, _, rfl, _, _, rfl, _, _, rfl, _, _, rfl, rfl, ?_⟩
        have fin : ∀ a dx, H' a = none → H' dx = none → dx ≠ a → spCaI C Cc [.ref a, .ref p1, .ref p2, .ref p3, .ref p4] (L2.upd (L2.upd H' dx (.own a)) a (.ins Cc dx [])) (fun r H2 => r = .non ∧ Q (.ref a) H2) E0 :=
          made_ca g1.rv g2.rv g3.mv g4.mv g fun p H2 np s2 hc => q p H2 (hs.free np) (hs.trans s2) hc
        refine ⟨_, rfl, _, _, rfl, rfl, md, rfl, _, rfl, ite2 (fun _ => ?_) (fun _ => ?_)⟩
        · exact ⟨_, rfl, _, rfl, _, rfl, _, rfl, fin⟩
        refine ⟨_, rfl, _, _, rfl, rfl, md, rfl, _, rfl, ite2 (fun _ => ?_) (fun _ => ?_)⟩
        · exact ⟨_, rfl, _, rfl, _, rfl, _, rfl, rfl, rfl, fin⟩
        · exact ⟨_, rfl, _, rfl, _, rfl, _, rfl, rfl, rfl, fin⟩
end
/-- the law's four and the calendar made of them, of these fractions -/
structure Pr (C Cc : Addr) (H : Hp) (r p : Addr) (m y o k : Rat) : Prop where
  fo : Fo H r m y o k
  cl : Cl C Cc H p m y o k
  g : Good m y o k
theorem Pr.same {C Cc : Addr} {H H1 : Hp} {r p : Addr} {m y o k : Rat} (h : Pr C Cc H r p m y o k) (s : Same H H1) : Pr C Cc H1 r p m y o k := ⟨h.fo.same s, h.cl.same s, h.g⟩
theorem Pr.but {C Cc l : Addr} {H H1 : Hp} {r p : Addr} {n : Nat} {m y o k : Rat} (h : Pr C Cc H r p m y o k) (b : But l H H1) (d : Dr H l n) : Pr C Cc H1 r p m y o k := by
  refine ⟨h.fo.but b d, ?_, h.g⟩
  obtain ⟨dx, a, b', c, d', e, ⟨x1, h1⟩, ⟨x2, h2⟩, ⟨x3, h3⟩, ⟨x4, h4⟩⟩ := h.cl
  exact ⟨dx, a, b', c, d', b.ins d e, ⟨x1, b.ins d h1⟩, ⟨x2, b.ins d h2⟩, ⟨x3, b.ins d h3⟩, ⟨x4, b.ins d h4⟩⟩
/-! ### the law -/
def spLaw (K : PySem.W.Frag) : Sp := fun vs H Q _ => ∃ (a : Addr) (ns : List Int), vs = [.ref a] ∧ SqL K H a (ns.map V.int) ∧ ns.length ≤ 63 ∧ ∀ H', Q (.bl true) H'
theorem cut_ints {ns : List Int} {lo hi : Option Int} {j : Nat} {x : V} (h : (cutV (ns.map V.int) lo hi ++ [V.int 0])[j]? = some x) : ∃ c : Int, x = .int c := by
  have hx : x ∈ cutV (ns.map V.int) lo hi ++ [V.int 0] := List.mem_of_getElem? h
  rcases List.mem_append.mp hx with hx | hx
  · have h1 := List.mem_of_mem_take hx
    have h2 := List.mem_of_mem_drop h1
    obtain ⟨c, _, e⟩ := List.mem_map.mp h2
    exact ⟨c, e.symm⟩
  · exact ⟨0, List.mem_singleton.mp hx⟩
theorem cut_len {ns : List Int} {lo hi : Option Int} (h : ns.length ≤ 63) : (cutV (ns.map V.int) lo hi).length + ([V.int 0] : List V).length ≤ sizeLine := by
  have h1 := cutV_length (ns.map V.int) lo hi
  rw [List.length_map] at h1
  have h2 : ([V.int 0] : List V).length = 1 := rfl
  exact Nat.le_trans (show _ ≤ 64 by omega) (by decide)
/-! ### stretches -/
theorem getI (F : Nat → Int) {n i : Nat} (h : i < n) : (((List.range n).map F).map V.int)[i]? = some (.int (F i)) := by
  rw [List.getElem?_map, List.getElem?_map, List.getElem?_range h]
  rfl
theorem cut_tail (xs : List V) : cutV xs (some 1) none = xs.drop 1 := by
  cases xs with
  | nil => rfl
  | cons x xs =>
    have h1 : HT.sIx (x :: xs).length 0 (some 1) = 1 := by simp [HT.sIx]
    have h2 : HT.sIx (x :: xs).length (x :: xs).length none = (x :: xs).length := rfl
    unfold cutV
    rw [h1, h2]
    refine List.take_of_length_le ?_
    simp
def spSteps : Sp := fun vs H Q _ => ∃ (a : Addr) (F : Nat → Int) (n : Nat), vs = [.ref a] ∧ H a = some (.lst (((List.range (n + 1)).map F).map V.int)) ∧ n < 1000 ∧ ∀ r H', H r = none → Same H H' → H' r = some (.lst ((stp F n).map V.int)) → Q (.ref r) H'
theorem znat {n : Nat} (j : Nat) (h : j < 1024) (hn : 10 ≤ n) : Sz n (j : Int) := Nat.lt_of_lt_of_le (show (j : Int).natAbs < 2 ^ 10 by omega) (Nat.pow_le_pow_right (by decide) hn)
section
variable {P : Program} {w : World} {K : PySem.W.Frag} {mg : Str → Option Value} {base : Heap} {C Cc : Addr}
abbrev TE_steps1 : TE := tOp (rI0 fun i j => .int (i - j)) (tVar 2) (tVar 1)
theorem ok_steps (D : Df K mg "steps" s_steps []) (g_zip : mg "zip" = none) : Ca P w K mg base CX0 1 "steps" s_steps [] ["days"] spSteps := by
  refine ca0 (k := 0) D c_steps (fun vs H Q E h => ?_) fun f cdv A outer s H vs Q E hr h => ?_
  · obtain ⟨a, F, n, rfl, _⟩ := h
    rfl
  · obtain ⟨a, F, n, rfl, e, hn, q⟩ := h
    refine ⟨_, (pss_one (ps_ret (pe_lc (own := [("day", 1), ("behind", 2)]) (g := gTup K 2 (gCons (gName 1) (gCons (gName 2) gNil))) (tt := tYes) (te := TE_steps1 ) rfl c_steps.nd (pi_zip rfl g_zip (pa_cons (pv 0) (pa_cons (pe_slice sl_list (pv 0) (po_some pe_int) po_none) pa_nil))) (blkOk_by (N := ["days", "day", "behind"]) (sc := defScope s_steps) (by decide +kernel)) (fun _ _ _ _ _ => (pg_tup rfl (pgs_cons (pg_name (i := 1) c_steps.nd rfl (.inl rfl)) (pgs_cons (pg_name (i := 2) c_steps.nd rfl (.inl rfl)) pgs_nil)))) (fun _ _ _ _ _ => by exact pts_nil) (fun _ _ _ _ _ => by exact (pe_op op_sub (pv 2) (pv 1)))))), ?_⟩
    refine ⟨_, rfl, _, rfl, _, rfl, a, _, rfl, SqL.of e, fun p1 n1 => ?_⟩
    have s1 := Same.new (o := .lst (cutV (((List.range (n + 1)).map F).map V.int) (some 1) none)) n1
    have e1 := s1 _ _ e
    refine ⟨a, p1, _, _, rfl, SqL.of e1, SqL.of upd_same, fun D0 hD => ?_⟩
    have hl : (((List.range (n + 1)).map F).map V.int).length = n + 1 := by simp
    refine lc_ints (walk_zip (n := n) (K := K) (a := a) (b := p1) (xs := ((List.range (n + 1)).map F).map V.int) (ys := cutV (((List.range (n + 1)).map F).map V.int) (some 1) none) ?_) yPair_same hD (by show n < 2 ^ 24; omega) (fun i => F (i + 1) - F i) (fun H' s' => ⟨SqL.of (s' _ _ e1), SqL.of (s' _ _ upd_same)⟩) ?_ ?_
    · rw [cut_tail, List.length_drop, hl]
      omega
    · rintro i x H1 H2 R hi s2 ⟨T, x1, x2, rfl, nT, rfl, g1, g2⟩ k1
      have g1 : (((List.range (n + 1)).map F).map V.int)[i]? = some x1 := g1
      have g2 : (cutV (((List.range (n + 1)).map F).map V.int) (some 1) none)[i]? = some x2 := g2
      rw [getI F (by omega)] at g1
      rw [cut_tail, List.getElem?_drop, Nat.add_comm 1 i, getI F (by omega)] at g2
      cases g1
      cases g2
      refine ⟨T, _, rfl, SqT.of upd_same, rfl, _, _, rfl, _, _, rfl, rfl, rfl, ?_⟩
      exact ⟨_, rfl, _, rfl, _, _, rfl, rfl, k1 _ (Same.refl _)⟩
    · intro H' h1 h2
      exact q D0 H' (s1.free hD) (s1.trans h2) h1
end
/-! ### all unlike stretches -/
def spSat (C : Addr) : Sp := fun vs H Q _ => ∃ (s : Addr) (t : Int) (n : Nat) (m : Rat), vs = [.ref s, .int t, .int (n : Nat)] ∧ Sh C H s m ∧ Rz 100 m ∧ Sz 100 t ∧ n < 500 ∧ ∀ r H', H r = none → Same H H' → H' r = some (.tup ((stp (rowF m.num m.den t) n).map V.int)) → Q (.ref r) H'
def spStr' (C Cc : Addr) : Sp := fun vs H Q _ => ∃ (p : Addr) (n : Nat) (m y o k : Rat), vs = [.ref p, .int (n : Nat)] ∧ Cl C Cc H p m y o k ∧ Good m y o k ∧ n < 500 ∧ ∀ (r : Addr) (H' : Hp) (us : List V) (ts : List Int), H r = none → Same H H' → H' r = some (.lst us) → ts.Perm (parts m.num m.den n) → ts.Pairwise (· ≤ ·) → Rows H' us (ts.map fun t => stp (rowF m.num m.den t) n) → Q (.ref r) H'
theorem Rows.putL {H : Hp} {us : List V} {zs : List (List Int)} {r : Addr} {xs ys : List V} (h : Rows H us zs) (e : H r = some (.lst xs)) : Rows (L2.upd H r (.lst ys)) us zs := ⟨h.1, fun j u hu => by
  obtain ⟨q, z, e1, e2, e3⟩ := h.2 j u hu
  refine ⟨q, z, e1, e2, ?_⟩
  rw [upd_ne (ne_of e3 e (by intro z; cases z))]
  exact e3⟩
section
variable {P : Program} {w : World} {K : PySem.W.Frag} {mg : Str → Option Value} {base : Heap} {C Cc : Addr}
abbrev TE_stretch_at1 (K : PySem.W.Frag) : TE := tOp (rI CDivA fun i j => .int (i.fdiv j)) (tOp (rI0 fun i j => .int (i + j)) (tVar 1) (tOp (rI CMulA fun i j => .int (i * j)) (tVar 3) (tFld K (tVar 0) "top"))) (tFld K (tVar 0) "bottom")
theorem ok_sat (D : Df K mg "stretch_at" s_stretch_at []) (T : ShT K C) (f_steps : Ca P w K mg base CX0 1 "steps" s_steps [] ["days"] spSteps) (g_range : mg "range" = none) (g_tuple : mg "tuple" = none) : Ca P w K mg base CX0 2 "stretch_at" s_stretch_at [] ["month", "part", "many"] (spSat C) := by
  refine ca0 (k := 1) D c_stretch_at (fun vs H Q E h => ?_) fun f cdv A outer s H vs Q E hr h => ?_
  · obtain ⟨s, t, n, m, rfl, _⟩ := h
    rfl
  · obtain ⟨s, t, n, m, rfl, ⟨dx, hs⟩, zm, zt, hn, q⟩ := h
    refine ⟨_, (pss_one (ps_ret (pe_callTy call_tuple_of rfl g_tuple (by decide +kernel) (pa_cons (pe_ca f_steps b_steps hr (by decide) pass0 rfl (pa_cons (pe_lc (own := [("n", 3)]) (g := gName 3) (tt := tYes) (te := TE_stretch_at1 K) rfl c_stretch_at.nd (pi_range1 rfl g_range (pa_cons (pe_op op_add (pv 2) pe_int) pa_nil)) (blkOk_by (N := ["month", "part", "many", "n"]) (sc := defScope s_stretch_at) (by decide +kernel)) (fun _ _ _ _ _ => (pg_name (i := 3) c_stretch_at.nd rfl (.inl rfl))) (fun _ _ _ _ _ => by exact pts_nil) (fun _ _ _ _ _ => by exact (pe_op op_fdivA (pe_op op_add (pv 1) (pe_op op_mulA (pv 3) (pe_fld (pv 0) rfl))) (pe_fld (pv 0) rfl)))) pa_nil)) pa_nil)))), ?_⟩
    refine ⟨_, rfl, _, _, rfl, rfl, _, rfl, ?_, ?_, fun D0 hD => ?_⟩
    · omega
    · omega
    have en : ((n : Int) + 1).toNat = n + 1 := by omega
    rw [en]
    refine lc_ints (walk_range (lo := 0) (n := n + 1)) yFn_same hD (by show n + 1 < 2 ^ 24; omega) (fun j => rowF m.num m.den t j) (fun _ _ => trivial) ?_ ?_
    · rintro j x H1 H2 R hj s1 ⟨rfl, rfl⟩ k1
      refine ⟨rfl, ?_⟩
      have zj : Sz 100000 (0 + (j : Int)) := by
        rw [Int.zero_add]
        exact znat j (by omega) (by decide)
      refine ⟨_, rfl, _, rfl, _, rfl, s, C, dx, _, _, rfl, s1 _ _ hs, T.cl, T.nT, sf_top _ _, _, _, rfl, rfl, ⟨zj, zm.1.mono (by decide)⟩, _, _, rfl, rfl, _, rfl, s, C, dx, _, _, rfl, s1 _ _ hs, T.cl, T.nB, sf_bottom _ _, _, _, rfl, rfl, ⟨Int.ne_of_gt (den_pos m), zm.2.mono (by decide)⟩, ?_⟩
      have k2 := k1 H2 (Same.refl _)
      have e : (t + (0 + (j : Int)) * m.num).fdiv (m.den : Int) = rowF m.num m.den t j := by
        unfold rowF
        rw [Int.fdiv_eq_ediv_of_nonneg _ (Int.le_of_lt (den_pos m)), Int.zero_add]
      show R (V.int ((t + (0 + (j : Int)) * m.num).fdiv (m.den : Int))) H2
      rw [e]
      exact k2
    · intro H' h1 h2
      refine ⟨D0, _, n, rfl, h1, by omega, fun r H2 nr s2 er => ?_⟩
      refine ⟨r, _, rfl, .inl ⟨SqL.of er, fun l nl => ?_⟩⟩
      exact q l _ ((h2.trans s2).free nl) (Same.upd (h2.trans s2) nl) upd_same
abbrev TE_stretches1 (K : PySem.W.Frag) (C : Addr) : TE := tOp (rI (fun _ j => 0 < j) fun i j => .int (i % j)) (tOp (rI CMulA fun i j => .int (i * j)) (tUn (rU fun i => .int (-i)) (tVar 4)) (tFld K (tVar 2) "top")) (tFld K (tVar 2) "bottom")
abbrev TE_stretches2 (K : PySem.W.Frag) (C : Addr) : TE := tCall (spSat C) [] E0 (tCons (tVar 2) (tCons (tVar 5) (tCons (tVar 1) tNil)))
theorem ok_stretches (D : Df K mg "stretches" s_stretches []) (T : ShT K C) (Tc : CaT K C Cc) (f_stretch_at : Ca P w K mg base CX0 2 "stretch_at" s_stretch_at [] ["month", "part", "many"] (spSat C)) (g_range : mg "range" = none) (g_min : mg "min" = none) (g_sorted : mg "sorted" = none) : Ca P w K mg base CX0 3 "stretches" s_stretches [] ["calendar", "many"] (spStr' C Cc) := by
  refine ca0 (k := 2) D c_stretches (fun vs H Q E h => ?_) fun f cdv A outer s H vs Q E hr h => ?_
  · obtain ⟨p, n, m, y, o, k, rfl, _⟩ := h
    rfl
  · obtain ⟨p, n, m, y, o, k, rfl, hc, g, hn, q⟩ := h
    obtain ⟨dx, a, b, c, d, e, ⟨da, h1⟩, h2, h3, h4⟩ := id hc
    refine ⟨_, (pss_cons (ps_set (i := 2) c_stretches.nd rfl (.inr rfl) (pe_fld (pv 0) rfl))
      (pss_cons (ps_set (i := 3) c_stretches.nd rfl (.inl rfl) (pe_callB cr_sortedI rfl g_sorted (by decide +kernel) (pa_cons (pe_lc (own := [("n", 4)]) (g := gName 4) (tt := tYes) (te := TE_stretches1 K C) rfl c_stretches.nd (pi_range1 rfl g_range (pa_cons (pe_callB (call_min2 rfl) rfl g_min (by decide +kernel) (pa_cons (pe_op op_add (pv 1) pe_int) (pa_cons (pe_fld (pv 2) rfl) pa_nil))) pa_nil)) (blkOk_by (N := ["calendar", "many", "month", "parts", "n", "part"]) (sc := defScope s_stretches) (by decide +kernel)) (fun _ _ _ _ _ => (pg_name (i := 4) c_stretches.nd rfl (.inl rfl))) (fun _ _ _ _ _ => by exact pts_nil) (fun _ _ _ _ _ => by exact (pe_op op_mod (pe_op op_mulA (pe_un un_neg (pv 4)) (pe_fld (pv 2) rfl)) (pe_fld (pv 2) rfl)))) pa_nil)))
      (pss_one (ps_ret (pe_lc (own := [("part", 5)]) (g := gName 5) (tt := tYes) (te := TE_stretches2 K C) rfl c_stretches.nd (pi_list (pv 3)) (blkOk_by (N := ["calendar", "many", "month", "parts", "n", "part"]) (sc := defScope s_stretches) (by decide +kernel)) (fun _ _ _ _ _ => (pg_name (i := 5) c_stretches.nd rfl (.inl rfl))) (fun _ _ _ _ _ => by exact pts_nil) (fun _ _ _ _ _ => by exact (pe_ca f_stretch_at b_stretch_at hr (by decide) pass0 rfl (pa_cons (pv 2) (pa_cons (pv 5) (pa_cons (pv 1) pa_nil)))))))))), ?_⟩
    refine ⟨_, rfl, p, Cc, dx, _, _, rfl, e, Tc.cl, Tc.n1, cf_month _ _ _ _, ?_⟩
    have hdp := den_pos m
    have hdz := g.zm.2
    refine ⟨_, rfl, _, _, rfl, rfl, _, rfl, a, C, da, _, _, rfl, h1, T.cl, T.nB, sf_bottom _ _, _, _, rfl, _, rfl, ?_, ?_, fun D0 hD => ?_⟩
    · split <;> omega
    · split <;> omega
    have en : (if (m.den : Int) < (n : Int) + 1 then (m.den : Int) else (n : Int) + 1).toNat = min (n + 1) (m.den : Int).toNat := by
      split <;> omega
    rw [en]
    refine lc_ints (walk_range (lo := 0) (n := min (n + 1) (m.den : Int).toNat)) yFn_same hD (by show _ < 2 ^ 24; omega) (fun j => (-(j : Int) * m.num) % m.den) (fun _ _ => trivial) ?_ ?_
    · rintro j x H1 H2 R hj s1 ⟨rfl, rfl⟩ k1
      refine ⟨rfl, ?_⟩
      have zj : Sz 100000 (-(0 + (j : Int))) := by
        rw [Int.zero_add]
        exact (znat j (by omega) (by decide)).neg
      refine ⟨_, rfl, _, rfl, _, rfl, a, C, da, _, _, rfl, s1 _ _ h1, T.cl, T.nT, sf_top _ _, _, _, rfl, rfl, ⟨zj, g.zm.1.mono (by decide)⟩, _, rfl, a, C, da, _, _, rfl, s1 _ _ h1, T.cl, T.nB, sf_bottom _ _, _, _, rfl, rfl, hdp, ?_⟩
      have k2 := k1 H2 (Same.refl _)
      show R (V.int (-(0 + (j : Int)) * m.num % m.den)) H2
      rw [Int.zero_add]
      exact k2
    intro H1 e1 s1
    refine ⟨D0, _, rfl, SqL.of e1, fun ts l perm ris nl => ?_⟩
    have s2 := Same.upd (o := .lst (ts.map V.int)) s1 nl
    refine ⟨_, rfl, l, rfl, ⟨_, SqL.of upd_same⟩, fun D1 hD1 => ?_⟩
    have tsl : ts.length < 600 := by
      rw [perm.length_eq]
      simp
      omega
    refine lc_all (walk_list (K := K) (a := l) (xs := ts.map V.int)) yAt_same hD1 ?_ (fun j v H' => ∃ (q : Addr) (t : Int), v = .ref q ∧ ts[j]? = some t ∧ H' q = some (.tup ((stp (rowF m.num m.den t) n).map V.int)))
      (fun j v H1 H2 s ⟨q, t, e1, e2, e3⟩ => ⟨q, t, e1, e2, s _ _ e3⟩) (fun j v H1 acc acc' hacc ⟨q, t, e1, e2, e3⟩ => ⟨q, t, e1, e2, ?_⟩) (fun H' s' => SqL.of (s' _ _ upd_same)) ?_ ?_
    · rw [List.length_map]
      exact Nat.lt_trans tsl (by decide)
    · rw [upd_ne (ne_of e3 hacc (by intro z; cases z))]
      exact e3
    · rintro j x H2 H3 R hj s3 ⟨rfl, hx⟩ k1
      rw [List.getElem?_map] at hx
      obtain ⟨t, ht, rfl⟩ := Option.map_eq_some_iff.mp hx
      refine ⟨rfl, ?_⟩
      have tb := parts_bd hdp (perm.mem_iff.mp (List.mem_of_getElem? ht))
      have zt : Sz 100 t := by
        refine Nat.lt_of_lt_of_le (?_ : t.natAbs < 2 ^ 70) (Nat.pow_le_pow_right (by decide) (by decide))
        have := hdz
        unfold Sz at this
        omega
      exact ⟨_, rfl, _, rfl, _, rfl, a, t, n, m, rfl, ⟨da, s3 _ _ (s2 _ _ h1)⟩, g.zm.mono (by decide), zt, hn, fun r H4 nr s4 er => k1 _ H4 s4 ⟨r, t, rfl, ht, er⟩⟩
    · intro us H' hl hD' hs hp
      refine q D1 H' us ts ((s2).free hD1) (s2.trans hs) hD' perm ris ⟨by rw [hl]; simp, fun j u hu => ?_⟩
      obtain ⟨r, t, e1, e2, e3⟩ := hp j u hu
      exact ⟨r, _, e1, by rw [List.getElem?_map, e2]; rfl, e3⟩
end
/-! ### rows as the law reckons them -/
def spRow32 : Sp := fun vs H Q _ => ∃ (r : Addr) (i : Int) (n : Nat) (m y o k : Rat), vs = [.ref r, .int i, .int (n : Nat)] ∧ Fo H r m y o k ∧ Good m y o k ∧ Sz 1500 i ∧ n < 500 ∧ ∀ t H', H t = none → Same H H' → H' t = some (.tup ((stp (fun j => stF m o (i + (j : Nat))) n).map V.int)) → Q (.ref t) H'
def spSmall : Sp := fun vs H Q _ => ∃ (l r : Addr) (n : Nat) (m y o k : Rat), vs = [.ref l, .ref r] ∧ Dr H l n ∧ n ≤ 1000 ∧ Fo H r m y o k ∧ Good m y o k ∧ Rz 60 m ∧ ∀ r' H' m', Good m' y o k → But l H H' → Dr H' l (n + 1) → Fo H' r' m' y o k → Q (.ref r') H'
def spGrid32 : Sp := fun vs H Q _ => ∃ (a : Addr) (n : Nat) (m : Rat), vs = [.ref a, .int (n : Nat)] ∧ Tp H a m ∧ Rz 70 m ∧ n < 500 ∧ ∀ (r : Addr) (us : List V) H', H r = none → Same H H' → H' r = some (.lst us) → Rows H' us ((List.range (n + 1)).map fun (i : Nat) => rw_ m.num m.den ((0 - (i : Int) * m.num) % (m.den : Int)) n) → Q (.ref r) H'
section
variable {P : Program} {w : World} {K : PySem.W.Frag} {mg : Str → Option Value} {base : Heap}
abbrev TE_l_row1 : TE := tCall (spF1 3000 fun m _ o _ i => .int (stF m o i)) [] E0 (tCons (tVar 0) (tCons (tVar 4) tNil))
abbrev TE_l_row2 : TE := tOp (rI0 fun i j => .int (i - j)) (tVar 6) (tVar 5)
theorem ok_lrow (D : Df K mg "_law_row" s_l_row []) (f_l_start : Ca P w K mg base CX0 3 "_law_start" s_l_start [] ["_law_four_here", "_law_k"] (spF1 3000 fun m _ o _ i => .int (stF m o i))) (g_range : mg "range" = none) (g_zip : mg "zip" = none) (g_tuple : mg "tuple" = none) : Ca P w K mg base CX0 4 "_law_row" s_l_row [] ["_law_four_here", "_law_k", "_law_count"] spRow32 := by
  refine ca0 (k := 3) D c_l_row (fun vs H Q E h => ?_) fun f cdv A outer s H vs Q E hr h => ?_
  · obtain ⟨r, i, n, m, y, o, k, rfl, _⟩ := h
    rfl
  · obtain ⟨r, i, n, m, y, o, k, rfl, fo, g, zi, hn, q⟩ := h
    refine ⟨_, (pss_cons (ps_setLc (i := 3) (own := [("_law_at", 4)]) (g := gName 4) (tt := tYes) (te := TE_l_row1 ) rfl c_l_row.nd rfl rfl (sw_true rfl rfl rfl (by decide +kernel)) (pi_rangeA rfl g_range (pa_cons (pv 1) (pa_cons (pe_op op_add (pe_op op_add (pv 1) (pv 2)) pe_int) pa_nil))) (blkOk_by (N := ["_law_four_here", "_law_k", "_law_count", "_law_days", "_law_at", "_law_soon", "_law_late"]) (sc := defScope s_l_row) (by decide +kernel)) (fun _ _ _ _ _ => (pg_name (i := 4) c_l_row.nd rfl (.inl rfl))) (fun _ _ _ _ _ => by exact pts_nil) (fun _ _ _ _ _ => by exact (pe_ca f_l_start b_l_start hr (by decide) pass0 rfl (pa_cons (pv 0) (pa_cons (pv 4) pa_nil)))))
      (pss_one (ps_ret (pe_callTy call_tuple_of rfl g_tuple (by decide +kernel) (pa_cons (pe_lc (own := [("_law_soon", 5), ("_law_late", 6)]) (g := gTup K 2 (gCons (gName 5) (gCons (gName 6) gNil))) (tt := tYes) (te := TE_l_row2 ) rfl c_l_row.nd (pi_zip rfl g_zip (pa_cons (pv 3) (pa_cons (pe_slice sl_list (pv 3) (po_some pe_int) po_none) pa_nil))) (blkOk_by (N := ["_law_four_here", "_law_k", "_law_count", "_law_days", "_law_at", "_law_soon", "_law_late"]) (sc := defScope s_l_row) (by decide +kernel)) (fun _ _ _ _ _ => (pg_tup rfl (pgs_cons (pg_name (i := 5) c_l_row.nd rfl (.inl rfl)) (pgs_cons (pg_name (i := 6) c_l_row.nd rfl (.inl rfl)) pgs_nil)))) (fun _ _ _ _ _ => by exact pts_nil) (fun _ _ _ _ _ => by exact (pe_op op_sub (pv 6) (pv 5)))) pa_nil))))), ?_⟩
    refine ⟨_, rfl, _, rfl, _, rfl, _, _, rfl, rfl, _, _, rfl, rfl, _, _, rfl, fun D5 hD5 => ?_⟩
    have en : (i + (n : Int) + 1 - i).toNat = n + 1 := by omega
    rw [en]
    refine lc_ints (walk_range (lo := i) (n := n + 1)) yFn_same hD5 (by show n + 1 < 2 ^ 24; omega) (fun j => stF m o (i + (j : Nat))) (fun _ _ => trivial) ?_ ?_
    · rintro j x H5 H6 R hj s5 ⟨rfl, rfl⟩ k1
      refine ⟨rfl, ?_⟩
      refine ⟨_, rfl, _, rfl, r, _, m, y, o, k, rfl, fo.same s5, g, ?_, fun H7 s7 => k1 H7 s7⟩
      exact (Sz.add (n := 1500) zi (znat j (by omega) (by decide)) (by decide : 1500 < 1600)).mono (by decide)
    intro H5 e5 s45
    refine ⟨_, rfl, _, rfl, _, rfl, D5, _, rfl, SqL.of e5, fun p6 n6 => ?_⟩
    have s56 := Same.new (o := .lst (cutV (((List.range (n + 1)).map (fun j => stF m o (i + (j : Nat)))).map V.int) (some 1) none)) n6
    have e56 := s56 _ _ e5
    refine ⟨D5, p6, _, _, rfl, SqL.of e56, SqL.of upd_same, fun D7 hD7 => ?_⟩
    have hl : (((List.range (n + 1)).map (fun j => stF m o (i + (j : Nat)))).map V.int).length = n + 1 := by simp
    refine lc_ints (walk_zip (n := n) (K := K) (a := D5) (b := p6) (xs := ((List.range (n + 1)).map (fun j => stF m o (i + (j : Nat)))).map V.int) (ys := cutV (((List.range (n + 1)).map (fun j => stF m o (i + (j : Nat)))).map V.int) (some 1) none) ?_) yPair_same hD7 (by show n < 2 ^ 24; omega) (fun j => stF m o (i + ((j + 1 : Nat) : Int)) - stF m o (i + (j : Nat))) (fun H' s' => ⟨SqL.of (s' _ _ e56), SqL.of (s' _ _ upd_same)⟩) ?_ ?_
    · rw [cut_tail, List.length_drop, hl]
      omega
    · rintro j x H1 H2 R hi s2 ⟨T, x1, x2, rfl, nT, rfl, g1, g2⟩ k1
      have g1 : (((List.range (n + 1)).map (fun j => stF m o (i + (j : Nat)))).map V.int)[j]? = some x1 := g1
      have g2 : (cutV (((List.range (n + 1)).map (fun j => stF m o (i + (j : Nat)))).map V.int) (some 1) none)[j]? = some x2 := g2
      rw [getI _ (by omega)] at g1
      rw [cut_tail, List.getElem?_drop, Nat.add_comm 1 j, getI _ (by omega)] at g2
      cases g1
      cases g2
      refine ⟨T, _, rfl, SqT.of upd_same, rfl, _, _, rfl, _, _, rfl, rfl, rfl, ?_⟩
      exact ⟨_, rfl, _, rfl, _, _, rfl, rfl, k1 _ (Same.refl _)⟩
    intro H7 e7 s67
    have s47 := s45.trans (s56.trans s67)
    refine ⟨D7, _, rfl, .inl ⟨SqL.of e7, fun t nt => ?_⟩⟩
    exact q t _ (s47.free nt) (Same.upd s47 nt) upd_same
theorem small_fit {m y : Rat} {b : Int} (f : Fit m y) (hb : 0 < b) (h1 : 1 ≤ Rat.divInt ((m.num * b).fdiv (m.den : Int)) b) (h2 : y.floor + 2 ≤ (13 * Rat.divInt ((m.num * b).fdiv (m.den : Int)) b).floor) : Fit (Rat.divInt ((m.num * b).fdiv (m.den : Int)) b) y := by
  have hd := den_posR m
  have hdI := den_pos m
  have hbR : (0 : Rat) < (b : Rat) := by exact_mod_cast hb
  have le : Rat.divInt ((m.num * b).fdiv (m.den : Int)) b ≤ m := by
    rw [Int.fdiv_eq_ediv_of_nonneg _ (Int.le_of_lt hdI), Rat.divInt_eq_div]
    refine Rat.le_of_mul_le_mul_right ?_ hbR
    rw [Rat.div_mul_cancel (by grind)]
    refine Rat.le_of_mul_le_mul_right ?_ hd
    rw [show m * (b : Rat) * (m.den : Rat) = m * (m.den : Rat) * (b : Rat) by grind, mul_den]
    have := Int.ediv_mul_le (m.num * b) (Int.ne_of_gt hdI)
    exact_mod_cast this
  generalize Rat.divInt ((m.num * b).fdiv (m.den : Int)) b = v at *
  refine ⟨h1, ?_, ?_⟩
  · have c1 : v.ceil ≤ m.ceil := by
      apply Int.not_lt.mp
      intro z
      have z1 := lt_ceil_iff.mp z
      have z2 : m ≤ (m.ceil : Rat) := Rat.le_ceil
      grind
    have c2 : (v.ceil : Rat) ≤ (m.ceil : Rat) := by exact_mod_cast c1
    have c3 := f.between
    grind
  · have a1 := Rat.floor_le (13 * v)
    have a2 : y < (y.floor : Rat) + 1 := by rw [← cast_add1]; exact Rat.lt_floor_add_one y
    have a3 : ((y.floor + 2 : Int) : Rat) ≤ ((13 * v).floor : Rat) := by exact_mod_cast h2
    rw [show ((y.floor + 2 : Int) : Rat) = (y.floor : Rat) + 2 by exact_mod_cast rfl] at a3
    grind
theorem ok_lsmall (D : Df K mg "_law_small" s_l_small []) (f_l_next : Ca P w K mg base CX0 1 "_law_next" s_l_next [] ["_law_draws_here"] spNext) (f_l_low : Ca P w K mg base CX0 1 "_law_low" s_l_low [] ["_law_top", "_law_bottom"] spLow) (f_l_floor : Ca P w K mg base CX0 1 "_law_floor" s_l_floor [] ["_law_fraction"] spFloor) : Ca P w K mg base CX0 2 "_law_small" s_l_small [] ["_law_draws_here", "_law_four_here"] spSmall := by
  refine ca0 (k := 1) D c_l_small (fun vs H Q E h => ?_) fun f cdv A outer s H vs Q E hr h => ?_
  · obtain ⟨l, r, n, m, y, o, k, rfl, _⟩ := h
    rfl
  · obtain ⟨l, r, n, m, y, o, k, rfl, d, hn, fo, g, z60, q⟩ := h
    refine ⟨_, (pss_cons (ps_set (i := 2) c_l_small.nd rfl (.inl rfl) (pe_op op_add pe_int (pe_op op_mod (pe_ca f_l_next b_l_next hr (by decide) pass0 rfl (pa_cons (pv 0) pa_nil)) pe_int)))
      (pss_cons (ps_set (i := 3) c_l_small.nd rfl (.inl rfl) (pe_op op_fdivA (pe_op op_mulA (pe_ix ix_tup (pe_ix ix_tup (pv 1) pe_int (fun _ _ => rfl)) pe_int (fun _ _ => rfl)) (pv 2)) (pe_ix ix_tup (pe_ix ix_tup (pv 1) pe_int (fun _ _ => rfl)) pe_int (fun _ _ => rfl))))
      (pss_cons (ps_set (i := 4) c_l_small.nd rfl (.inl rfl) (pe_ca f_l_low b_l_low hr (by decide) pass0 rfl (pa_cons (pv 3) (pa_cons (pv 2) pa_nil))))
      (pss_cons (ps_if (PW.pt (pw_or (pt_cmpR op_lt (pe_ix ix_tup (pv 4) pe_int (fun _ _ => rfl)) (pe_ix ix_tup (pv 4) pe_int (fun _ _ => rfl)) (nomark _)) (pw_or1 (pt_cmpR op_lt (pe_op op_fdivA (pe_op op_mulA pe_int (pe_ix ix_tup (pv 4) pe_int (fun _ _ => rfl))) (pe_ix ix_tup (pv 4) pe_int (fun _ _ => rfl))) (pe_op op_add (pe_ca f_l_floor b_l_floor hr (by decide) pass0 rfl (pa_cons (pe_ix ix_tup (pv 1) pe_int (fun _ _ => rfl)) pa_nil)) pe_int) (nomark _))))) (pss_one (ps_ret (pv 1))) pss_nil)
      (pss_one (ps_ret (pe_op op_catT (pe_tup (pa_cons (pv 4) pa_nil)) (pe_slice sl_tup (pv 1) (po_some pe_int) po_none)))))))), ?_⟩
    refine ⟨_, rfl, l, n, rfl, d, by omega, fun v H1 v0 v1 b1 d1 => ⟨_, _, rfl, rfl, md, _, _, rfl, rfl, ?_⟩⟩
    have c0 := Int.emod_nonneg v (show (60 : Int) ≠ 0 by decide)
    have c1 := Int.emod_lt_of_pos v (show (0 : Int) < 60 by decide)
    have fo1 := fo.but b1 d
    generalize hB : 1 + v % 60 = B
    have B0 : 0 < B := by omega
    have zB : Sz 6 B := Sz.of (by omega) (by have : (2 : Int) ^ 6 = 64 := by decide
                                             omega)
    obtain ⟨a, b, c, d', e, h1, h2, h3, h4⟩ := id fo1
    have hd := den_pos m
    show tSeq _ _ _ [_, _, some (V.int (1 + v % 60)), _, _] _
    rw [hB]
    refine ⟨_, rfl, r, _, _, _, rfl, rfl, SqT.of e, rfl, a, _, _, _, rfl, rfl, SqT.of h1, rfl, _, rfl, _, _, rfl, rfl, ⟨g.zm.1.mono (by decide), zB.mono (by decide)⟩, _, rfl, r, _, _, _, rfl, rfl, SqT.of e, rfl, a, _, _, _, rfl, rfl, SqT.of h1, rfl, _, _, rfl, rfl, ⟨Int.ne_of_gt hd, g.zm.2.mono (by decide)⟩, ?_⟩
    have zT : Sz 66 ((m.num * B).fdiv (m.den : Int)) := by
      rw [Int.fdiv_eq_ediv_of_nonneg _ (Int.le_of_lt hd)]
      exact Nat.lt_of_le_of_lt (Int.natAbs_ediv_le_natAbs _ _) (z60.1.mul zB)
    refine ⟨_, rfl, _, rfl, _, B, rfl, Int.ne_of_gt B0, zT.mono (by decide), zB.mono (by decide), fun p np => ?_⟩
    have zM : Rz 70 (Rat.divInt ((m.num * B).fdiv (m.den : Int)) B) := (Rz.divInt zT (zB.mono (by decide)) (by decide)).mono (by decide)
    have sf := small_fit (m := m) (y := y) (b := B) g.fit B0
    generalize Rat.divInt ((m.num * B).fdiv (m.den : Int)) B = u at *
    have hp := np
    have s1 := Same.new (o := .tup [.int u.num, .int u.den]) np
    have fo2 := fo1.same s1
    obtain ⟨a, b, c, d', e, h1, h2, h3, h4⟩ := id fo2
    have b2 := b1.trans (But.same (l := l) s1)
    have d2 : Dr _ l (n + 1) := d1.same s1 (Nat.le_refl _)
    have hu := den_pos u
    have stay : Q (.ref r) _ := q r _ m g b2 d2 fo2
    refine ⟨_, rfl, p, _, _, _, rfl, rfl, SqT.of upd_same, rfl, _, rfl, p, _, _, _, rfl, rfl, SqT.of upd_same, rfl, _, _, rfl, rfl, _, rfl, ?_⟩
    refine ite2 (fun _ => ⟨_, rfl, stay⟩) (fun g1 => ?_)
    refine ⟨_, rfl, p, _, _, _, rfl, rfl, SqT.of upd_same, rfl, _, _, rfl, rfl, ⟨(szi (n := 4) 13).mono (by decide), zM.1.mono (by decide)⟩, _, rfl, p, _, _, _, rfl, rfl, SqT.of upd_same, rfl, _, _, rfl, rfl, ⟨Int.ne_of_gt hu, zM.2.mono (by decide)⟩, _, rfl, r, _, _, _, rfl, rfl, SqT.of e, rfl, b, y, rfl, h2, g.zy.mono (by decide), _, _, rfl, rfl, _, _, rfl, rfl, _, rfl, ?_⟩
    refine ite2 (fun _ => ⟨_, rfl, stay⟩) (fun g2 => ?_)
    have g1 : ¬ u.num < (u.den : Int) := fun z => g1 (decide_eq_true z)
    have g2 : ¬ (13 * u.num).fdiv (u.den : Int) < y.floor + 2 := fun z => g2 (decide_eq_true z)
    have u1 : (1 : Rat) ≤ u := by
      refine (Rat.le_iff 1 u).mpr ?_
      show (1 : Int) * (u.den : Int) ≤ u.num * 1
      omega
    have e13 : (13 * u).floor = (13 * u.num).fdiv (u.den : Int) := by
      have e1 : 13 * u = Rat.divInt (13 * u.num) u.den := by
        have h := Rat.divInt_mul_divInt 13 u.num (d₁ := 1) (d₂ := (u.den : Int))
        rw [Rat.num_divInt_den, Int.one_mul] at h
        exact h
      rw [e1, floor_divInt hu, Int.fdiv_eq_ediv_of_nonneg _ (Int.le_of_lt hu)]
    have fit := sf u1 (by rw [e13]; omega)
    refine ⟨_, rfl, (by show 1 ≤ sizeLine; decide), fun t nt => ?_⟩
    have s3 := Same.new (o := .tup [.ref p]) nt
    refine ⟨_, rfl, _, rfl, r, _, rfl, SqT.of (s3 _ _ e), by simp [HT.sIx], fun t2 nt2 => ?_⟩
    have s4 := Same.new (o := .tup (cutV [V.ref a, .ref b, .ref c, .ref d'] (some 1) none)) nt2
    refine ⟨t, t2, _, _, rfl, rfl, SqT.of (s4 _ _ upd_same), SqT.of upd_same, (fun z => by cases z), (by rw [cut_tail]; show 4 ≤ sizeLine; decide), (fun z => by rw [cut_tail] at z; cases z), fun _ w nw => ?_⟩
    have s5 := Same.new (o := .tup ([V.ref p] ++ cutV [V.ref a, .ref b, .ref c, .ref d'] (some 1) none)) nw
    have s25 := s3.trans (s4.trans s5)
    refine q w _ u ⟨fit, zM, g.zy, g.zo, g.zk⟩ (b2.trans (But.same s25)) (d2.same s25 (Nat.le_refl _)) ?_
    exact ⟨p, b, c, d', upd_same, s25 _ _ upd_same, h2.same s25, h3.same s25, h4.same s25⟩
abbrev TE_l_grid1 (K : PySem.W.Frag) : TE := tOp (rI CDivA fun i j => .int (i.fdiv j)) (tOp (rI0 fun i j => .int (i + j)) (tVar 4) (tOp (rI CMulA fun i j => .int (i * j)) (tVar 6) (tOp (rIxT K) (tVar 0) (tC (.int 0))))) (tOp (rIxT K) (tVar 0) (tC (.int 1)))
abbrev TE_l_grid2 (K : PySem.W.Frag) : TE := tOp (rI0 fun i j => .int (i - j)) (tVar 8) (tVar 7)
theorem Rows.snoc {H : Hp} {us : List V} {zs : List (List Int)} {q : Addr} {z : List Int} (h : Rows H us zs) (e : H q = some (.tup (z.map V.int))) : Rows H (us ++ [.ref q]) (zs ++ [z]) := by
  refine ⟨by rw [List.length_append, List.length_append, h.1]; rfl, fun j u hu => ?_⟩
  by_cases c : j < us.length
  · rw [List.getElem?_append_left c] at hu
    obtain ⟨p, y, e1, e2, e3⟩ := h.2 j u hu
    exact ⟨p, y, e1, by rw [List.getElem?_append_left (by rw [← h.1]; exact c)]; exact e2, e3⟩
  · rw [List.getElem?_append_right (by omega)] at hu
    have hj : j - us.length = 0 := by
      have := (List.getElem?_eq_some_iff.mp hu).1
      simp at this
      omega
    rw [hj] at hu
    cases hu
    exact ⟨q, z, rfl, by rw [List.getElem?_append_right (by rw [← h.1]; omega), ← h.1, hj]; rfl, e⟩
theorem ok_lgrid (D : Df K mg "_law_grid" s_l_grid []) (g_range : mg "range" = none) (g_zip : mg "zip" = none) (g_tuple : mg "tuple" = none) : Ca P w K mg base CX0 1 "_law_grid" s_l_grid [] ["_law_lune", "_law_count"] spGrid32 := by
  refine ca0 (k := 0) D c_l_grid (fun vs H Q E h => ?_) fun f cdv A outer s H vs Q E hr h => ?_
  · obtain ⟨a, n, m, rfl, _⟩ := h
    rfl
  · obtain ⟨a, n, m, rfl, ea, zm, hn, q⟩ := h
    refine ⟨_, (pss_cons (ps_set (i := 2) c_l_grid.nd rfl (.inl rfl) (pe_lst pa_nil))
      (pss_cons (ps_for PassesOwn.never rfl (pi_range1 rfl g_range (pa_cons (pe_op op_add (pv 1) pe_int) pa_nil)) (pg_name (i := 3) c_l_grid.nd rfl (.inl rfl)) (pss_cons (ps_set (i := 4) c_l_grid.nd rfl (.inr rfl) (pe_op op_mod (pe_op op_sub pe_int (pe_op op_mulA (pv 3) (pe_ix ix_tup (pv 0) pe_int (fun _ _ => rfl)))) (pe_ix ix_tup (pv 0) pe_int (fun _ _ => rfl))))
      (pss_cons (ps_setLc (i := 5) (own := [("_law_k", 6)]) (g := gName 6) (tt := tYes) (te := TE_l_grid1 K) rfl c_l_grid.nd rfl rfl (sw_true rfl rfl rfl (by decide +kernel)) (pi_range1 rfl g_range (pa_cons (pe_op op_add (pv 1) pe_int) pa_nil)) (blkOk_by (N := ["_law_lune", "_law_count", "_law_rows", "_law_at", "_law_spot", "_law_days", "_law_k", "_law_soon", "_law_late"]) (sc := defScope s_l_grid) (by decide +kernel)) (fun _ _ _ _ _ => (pg_name (i := 6) c_l_grid.nd rfl (.inl rfl))) (fun _ _ _ _ _ => by exact pts_nil) (fun _ _ _ _ _ => by exact (pe_op op_fdivA (pe_op op_add (pv 4) (pe_op op_mulA (pv 6) (pe_ix ix_tup (pv 0) pe_int (fun _ _ => rfl)))) (pe_ix ix_tup (pv 0) pe_int (fun _ _ => rfl)))))
      (pss_one (ps_expr (pe_bm PySem.F.plainAttrs_list PySem.F.slot_list_append PySem.F.type_list_append mt_append (pv 2) (pa_cons (pe_callTy call_tuple_of rfl g_tuple (by decide +kernel) (pa_cons (pe_lc (own := [("_law_soon", 7), ("_law_late", 8)]) (g := gTup K 2 (gCons (gName 7) (gCons (gName 8) gNil))) (tt := tYes) (te := TE_l_grid2 K) rfl c_l_grid.nd (pi_zip rfl g_zip (pa_cons (pv 5) (pa_cons (pe_slice sl_list (pv 5) (po_some pe_int) po_none) pa_nil))) (blkOk_by (N := ["_law_lune", "_law_count", "_law_rows", "_law_at", "_law_spot", "_law_days", "_law_k", "_law_soon", "_law_late"]) (sc := defScope s_l_grid) (by decide +kernel)) (fun _ _ _ _ _ => (pg_tup rfl (pgs_cons (pg_name (i := 7) c_l_grid.nd rfl (.inl rfl)) (pgs_cons (pg_name (i := 8) c_l_grid.nd rfl (.inl rfl)) pgs_nil)))) (fun _ _ _ _ _ => by exact pts_nil) (fun _ _ _ _ _ => by exact (pe_op op_sub (pv 8) (pv 7)))) pa_nil)) pa_nil)))))))
      (pss_one (ps_ret (pv 2))))), ?_⟩
    refine ⟨(by show 0 ≤ sizeLine; decide), fun fp nf => ?_⟩
    have hd := den_pos m
    have ea' : H a = some (.tup [.int m.num, .int m.den]) := ea
    have en : ((n : Int) + 1).toNat = n + 1 := by omega
    refine ⟨_, rfl, _, _, rfl, rfl, _, rfl, by omega, by omega, ?_⟩
    rw [en]
    refine for_range (n := n + 1) (fun j σ H' => ∃ (us : List V) (v3 v4 v5 v6 v7 v8 : Option V), σ = [some (.ref a), some (.int (n : Nat)), some (.ref fp), v3, v4, v5, v6, v7, v8] ∧ us.length = j ∧ H' fp = some (.lst us) ∧ Rows H' us ((List.range j).map fun (i : Nat) => rw_ m.num m.den ((0 - (i : Int) * m.num) % (m.den : Int)) n) ∧ But fp H H')
      ⟨[], _, _, _, _, _, _, rfl, rfl, upd_same, ⟨rfl, fun j u hu => by simp at hu⟩, But.same (Same.new nf)⟩ ?_ ?_
    · rintro j σ H1 hj ⟨us, w3, w4, w5, w6, w7, w8, rfl, hl, e1, rows, bt⟩
      have ea1 : H1 a = some (.tup [.int m.num, .int m.den]) := bt _ _ (ne_of_none ea' nf) ea'
      have zj : Sz 10 (0 + (j : Int)) := by
        rw [Int.zero_add]
        exact znat (n := 10) j (by omega) (by decide)
      refine ⟨_, rfl, _, rfl, a, _, _, _, rfl, rfl, SqT.of ea1, rfl, _, _, rfl, rfl, ⟨zj.mono (by decide), zm.1.mono (by decide)⟩, _, _, rfl, rfl, _, rfl, a, _, _, _, rfl, rfl, SqT.of ea1, rfl, _, _, rfl, rfl, hd, ?_⟩
      have S0 := Int.emod_nonneg (0 - (j : Int) * m.num) (Int.ne_of_gt hd)
      have S1 := Int.emod_lt_of_pos (0 - (j : Int) * m.num) hd
      generalize hS : (0 - (j : Int) * m.num) % (m.den : Int) = S at S0 S1
      show tSeq _ _ _ [_, _, _, _, some (V.int ((0 - (0 + (j : Int)) * m.num) % (m.den : Int))), _, _, _, _] _
      rw [show (0 - (0 + (j : Int)) * m.num) % (m.den : Int) = S by rw [Int.zero_add]; exact hS]
      have ne1 : fp ≠ a := (ne_of_none ea' nf).symm
      refine ⟨_, rfl, _, _, rfl, rfl, _, rfl, by omega, by omega, fun D5 hD5 => ?_⟩
      rw [en]
      refine lc_ints (walk_range (lo := 0) (n := n + 1)) yFn_same hD5 (by show n + 1 < 2 ^ 24; omega) (fun i => rowF m.num m.den S i) (fun _ _ => trivial) ?_ ?_
      · rintro i x H5 H6 R hi s5 ⟨rfl, rfl⟩ k1
        refine ⟨rfl, ?_⟩
        have zi : Sz 10 (0 + (i : Int)) := by
          rw [Int.zero_add]
          exact znat (n := 10) i (by omega) (by decide)
        refine ⟨_, rfl, _, rfl, _, rfl, a, _, _, _, rfl, rfl, SqT.of (s5 _ _ ea1), rfl, _, _, rfl, rfl, (show CMulA _ _ from ⟨zi.mono (by decide), zm.1.mono (by decide)⟩), _, _, rfl, rfl, _, rfl, a, _, _, _, rfl, rfl, SqT.of (s5 _ _ ea1), rfl, _, _, rfl, rfl, ⟨Int.ne_of_gt hd, zm.2.mono (by decide)⟩, ?_⟩
        have k2 := k1 H6 (Same.refl _)
        have e : (S + (0 + (i : Int)) * m.num).fdiv (m.den : Int) = rowF m.num m.den S i := by
          unfold rowF
          rw [Int.fdiv_eq_ediv_of_nonneg _ (Int.le_of_lt hd), Int.zero_add]
        show R (V.int ((S + (0 + (i : Int)) * m.num).fdiv (m.den : Int))) H6
        rw [e]
        exact k2
      intro H5 e5 s15
      refine ⟨_, rfl, .inl ⟨rfl, _, SqL.of (s15 _ _ e1)⟩, _, rfl, _, rfl, _, rfl, D5, _, rfl, SqL.of e5, fun p6 n6 => ?_⟩
      have s56 := Same.new (o := .lst (cutV (((List.range (n + 1)).map (fun i => rowF m.num m.den S i)).map V.int) (some 1) none)) n6
      have e56 := s56 _ _ e5
      refine ⟨D5, p6, _, _, rfl, SqL.of e56, SqL.of upd_same, fun D7 hD7 => ?_⟩
      have hl5 : (((List.range (n + 1)).map (fun i => rowF m.num m.den S i)).map V.int).length = n + 1 := by simp
      refine lc_ints (walk_zip (n := n) (K := K) (a := D5) (b := p6) (xs := ((List.range (n + 1)).map (fun i => rowF m.num m.den S i)).map V.int) (ys := cutV (((List.range (n + 1)).map (fun i => rowF m.num m.den S i)).map V.int) (some 1) none) ?_) yPair_same hD7 (by show n < 2 ^ 24; omega) (fun i => rowF m.num m.den S (i + 1) - rowF m.num m.den S i) (fun H' s' => ⟨SqL.of (s' _ _ e56), SqL.of (s' _ _ upd_same)⟩) ?_ ?_
      · rw [cut_tail, List.length_drop, hl5]
        omega
      · rintro i x H8 H9 R hi s2 ⟨T, x1, x2, rfl, nT, rfl, g1, g2⟩ k1
        have g1 : (((List.range (n + 1)).map (fun i => rowF m.num m.den S i)).map V.int)[i]? = some x1 := g1
        have g2 : (cutV (((List.range (n + 1)).map (fun i => rowF m.num m.den S i)).map V.int) (some 1) none)[i]? = some x2 := g2
        rw [getI _ (by omega)] at g1
        rw [cut_tail, List.getElem?_drop, Nat.add_comm 1 i, getI _ (by omega)] at g2
        cases g1
        cases g2
        refine ⟨T, _, rfl, SqT.of upd_same, rfl, _, _, rfl, _, _, rfl, rfl, rfl, ?_⟩
        exact ⟨_, rfl, _, rfl, _, _, rfl, rfl, k1 _ (Same.refl _)⟩
      intro H7 e7 s67
      have s17 := s15.trans (s56.trans s67)
      refine ⟨D7, _, rfl, .inl ⟨SqL.of e7, fun t nt => ?_⟩⟩
      have s18 := Same.upd (o := .tup ((rw_ m.num m.den S n).map V.int)) s17 nt
      have e8 := s18 _ _ e1
      refine ⟨fp, _, _, rfl, rfl, e8, Nat.lt_trans (show us.length < 600 by omega) (by decide), ?_⟩
      refine ⟨us ++ [.ref t], _, _, _, _, _, _, rfl, by rw [List.length_append, hl]; rfl, upd_same, ?_, (bt.trans (But.same s18)).put⟩
      rw [List.range_succ, List.map_append]
      have r8 : Rows _ (us ++ [.ref t]) (_ ++ [rw_ m.num m.den S n]) := (rows.same s18).snoc upd_same
      have r9 := r8.putL (ys := us ++ [.ref t]) e8
      have ez : (List.map (fun (i : Nat) => rw_ m.num m.den ((0 - (i : Int) * m.num) % (m.den : Int)) n) [j]) = [rw_ m.num m.den S n] := by rw [← hS]; rfl
      rw [ez]
      exact r9
    · rintro σ H1 ⟨us, w3, w4, w5, w6, w7, w8, rfl, hl, e1, rows, bt⟩
      exact ⟨_, rfl, q fp us H1 nf (fun b o e => bt b o (ne_of_none e nf) e) e1 rows⟩
end
/-! ### what the law asks of unlike stretches -/
theorem Rows.ks {H : Hp} : ∀ {us : List V} {zs : List (List Int)}, Rows H us zs → ∃ ks : List (Addr × List Int), us = (ks.map fun q => V.ref q.1) ∧ (ks.map fun q => q.2) = zs ∧ ∀ q, q ∈ ks → H q.1 = some (.tup (q.2.map V.int))
  | [], [], _ => ⟨[], rfl, rfl, fun q hq => by cases hq⟩
  | [], _ :: _, h => by have := h.1; simp at this
  | _ :: _, [], h => by have := h.1; simp at this
  | u :: us, z :: zs, h => by
    obtain ⟨q, z', rfl, e2, e3⟩ := h.2 0 u rfl
    cases e2
    obtain ⟨ks, k1, k2, k3⟩ := Rows.ks (us := us) (zs := zs) ⟨by have := h.1; simpa using this, fun j v hv => h.2 (j + 1) v (by simpa using hv)⟩
    refine ⟨(q, z) :: ks, by rw [k1]; rfl, by rw [← k2]; rfl, fun p hp => ?_⟩
    rcases List.mem_cons.mp hp with rfl | hp
    · exact e3
    · exact k3 p hp
theorem Rows.of {H : Hp} {ks : List (Addr × List Int)} (h : ∀ q, q ∈ ks → H q.1 = some (.tup (q.2.map V.int))) : Rows H (ks.map fun q => V.ref q.1) (ks.map fun q => q.2) := by
  refine ⟨by rw [List.length_map, List.length_map], fun j u hu => ?_⟩
  rw [List.getElem?_map] at hu
  obtain ⟨q, hq, rfl⟩ := Option.map_eq_some_iff.mp hu
  exact ⟨q.1, q.2, rfl, by rw [List.getElem?_map, hq]; rfl, h q (List.mem_of_getElem? hq)⟩
/-- sorted(set(xs)) of a list of rows -/
theorem set_srt {P : Program} {w : World} {K : PySem.W.Frag} {H : Hp} {l : Addr} {us : List V} {zs zs2 : List (List Int)} {d : Nat} {B : Int} {Q : VK} (e : H l = some (.lst us)) (rows : Rows H us zs) (few : us.length < 999) (hd : 1 ≤ d) (bd : ∀ z, z ∈ zs → z.length = d ∧ TS.Bd B z)
    (rise : zs2.Pairwise fun x y => TS.code B x < TS.code B y) (same : ∀ x, x ∈ zs ↔ x ∈ zs2) (q : ∀ (p : Addr) (us2 : List V) (H2 : Hp), H p = none → Same H H2 → H2 p = some (.lst us2) → Rows H2 us2 zs2 → Q (.ref p) H2) :
    rSetU K P w [.ref l] H fun v H1 => rSrtU K P w [v] H1 Q := by
  obtain ⟨ks, rfl, rfl, k3⟩ := rows.ks
  refine ⟨l, ks, rfl, SqL.of e, fun p hp => SqT.of (k3 p hp), by rw [List.length_map] at few; exact few, fun a L na h1 h2 nd => ?_⟩
  have s1 := Same.new (o := SO P w a L) na
  have bdL : ∀ p, p ∈ L → p.2.length = d ∧ TS.Bd B p.2 := fun p hp => bd _ (List.mem_map.mpr ⟨p, h1 p hp, rfl⟩)
  refine ⟨a, L, d, B, rfl, upd_same, fun p hp => SqT.of (s1 _ _ (k3 p (h1 p hp))), hd, bdL, fun M p pm pw np => ?_⟩
  have s2 := Same.new (o := .lst (M.map fun q => V.ref q.1)) np
  have s12 := s1.trans s2
  have ek : (M.map fun q => q.2) = zs2 := keys_same pm nd pw bdL rise fun x => by
    rw [← same x]
    constructor
    · intro hx
      obtain ⟨p, hp, rfl⟩ := List.mem_map.mp hx
      exact List.mem_map.mpr ⟨p, h1 p hp, rfl⟩
    · intro hx
      obtain ⟨p, hp, rfl⟩ := List.mem_map.mp hx
      exact h2 p hp
  refine q p _ _ (s1.free np) s12 upd_same ?_
  rw [← ek]
  exact Rows.of fun p hp => s12 _ _ (k3 p (h1 p (pm.mem_iff.mp hp)))
theorem eqv_rows (zs : List (List Int)) : PyData.eqv (.list (zs.map tupD)) (.list (zs.map tupD)) = true := SeqAt.eqv_refl _ (by simp only [PyData.canLay0]; exact lay_tups zs)
def gM2 {α : Type} : List α → List α → List α := fun us ws => us ++ (match ws with | [a, b] => [b, a] | _ => [])
theorem gM2_rel {n m : Nat} {vs zs : List V} {us ws : List Value} (_ : vs.length = n) (_ : zs.length = m) (h : Vals vs us) (k : Vals zs ws) : Vals (gM2 vs zs) (gM2 us ws) := by
  refine h.append ?_
  cases k with
  | nil => exact .nil
  | cons a k => cases k with
    | nil => exact .nil
    | cons b k => cases k with
      | nil => exact .cons b (.cons a .nil)
      | cons c k => exact .nil
theorem kb_stretches_many_calendar : Kb "stretches" s_stretches 0 ["many", "calendar"] ["calendar", "many"] gM2 := ⟨fun _ _ _ _ _ _ us ws hu hw => match us, hu, ws, hw with | [], _, [_, _], _ => rfl, gM2_rel⟩
def spRight32 : Sp := fun vs H Q _ => ∃ (l : Addr) (gr : Bool), vs = [.ref l, .bl gr] ∧ Dr H l 0 ∧ ∀ H', But l H H' → Q (.bl true) H'
theorem Cl.putL {C Cc : Addr} {H : Hp} {p r : Addr} {m y o k : Rat} {xs ys : List V} (h : Cl C Cc H p m y o k) (e : H r = some (.lst xs)) : Cl C Cc (L2.upd H r (.lst ys)) p m y o k := by
  obtain ⟨dx, a, b, c, d, e1, ⟨d1, h1⟩, ⟨d2, h2⟩, ⟨d3, h3⟩, ⟨d4, h4⟩⟩ := h
  have go : ∀ {q C dx : Addr} {fs : List (Str × V)}, H q = some (.ins C dx fs) → (L2.upd H r (.lst ys)) q = some (.ins C dx fs) := fun eq => by
    rw [upd_ne (ne_of eq e (by intro z; cases z))]
    exact eq
  exact ⟨dx, a, b, c, d, go e1, ⟨d1, go h1⟩, ⟨d2, go h2⟩, ⟨d3, go h3⟩, ⟨d4, go h4⟩⟩
theorem Cl.but {C Cc l : Addr} {H H1 : Hp} {p : Addr} {n : Nat} {m y o k : Rat} (h : Cl C Cc H p m y o k) (b : But l H H1) (d : Dr H l n) : Cl C Cc H1 p m y o k := by
  obtain ⟨dx, a, b', c, d', e, ⟨x1, h1⟩, ⟨x2, h2⟩, ⟨x3, h3⟩, ⟨x4, h4⟩⟩ := h
  exact ⟨dx, a, b', c, d', b.ins d e, ⟨x1, b.ins d h1⟩, ⟨x2, b.ins d h2⟩, ⟨x3, b.ins d h3⟩, ⟨x4, b.ins d h4⟩⟩
theorem Rows.but {l : Addr} {H H1 : Hp} {n : Nat} {us : List V} {zs : List (List Int)} (h : Rows H us zs) (b : But l H H1) (d : Dr H l n) : Rows H1 us zs := ⟨h.1, fun j u hu => by
  obtain ⟨q, z, e1, e2, e3⟩ := h.2 j u hu
  exact ⟨q, z, e1, e2, b.tup d e3⟩⟩
theorem ne_dec {a b : Int} (h : a = b) : (!decide (V.int a = V.int b)) = false := by
  subst h
  simp
theorem ne_l {H : Hp} {l p : Addr} {n : Nat} (d : Dr H l n) (e : H p = none) : p ≠ l := by
  obtain ⟨_, _, _, h, _⟩ := d
  exact (ne_of_none h e).symm
section
variable {P : Program} {w : World} {K : PySem.W.Frag} {mg : Str → Option Value} {base : Heap} {C Cc : Addr}
abbrev TE_l_right1 : TE := tCall spRow32 [] E0 (tCons (tVar 2) (tCons (tOp (rI0 fun i j => .int (i + j)) (tVar 6) (tVar 8)) (tCons (tVar 3) tNil)))
theorem ok_lright32 (D : Df K mg "_law_right" s_l_right []) (f_l_four : Ca P w K mg base CX0 4 "_law_four" s_l_four [] ["_law_draws_here"] spFour) (f_l_next : Ca P w K mg base CX0 1 "_law_next" s_l_next [] ["_law_draws_here"] spNext) (f_l_small : Ca P w K mg base CX0 2 "_law_small" s_l_small [] ["_law_draws_here", "_law_four_here"] spSmall) (f_l_made : Ca P w K mg base CX0 10 "_law_made" s_l_made [] ["_law_four_here", "_law_way"] (spMade C Cc)) (f_l_row : Ca P w K mg base CX0 4 "_law_row" s_l_row [] ["_law_four_here", "_law_k", "_law_count"] spRow32) (f_l_grid : Ca P w K mg base CX0 1 "_law_grid" s_l_grid [] ["_law_lune", "_law_count"] spGrid32) (f_stretches : Ca P w K mg base CX0 3 "stretches" s_stretches [] ["calendar", "many"] (spStr' C Cc)) (g_isinstance : mg "isinstance" = none) (g_list : mg "list" = none) (g_sorted : mg "sorted" = none) (g_set : mg "set" = none) (g_len : mg "len" = none) (g_min : mg "min" = none) (g_range : mg "range" = none) : Ca P w K mg base CX0 11 "_law_right" s_l_right [] ["_law_draws_here", "_law_great"] spRight32 := by
  refine ca0 (k := 10) D c_l_right (fun vs H Q E h => ?_) fun f cdv A outer s H vs Q E hr h => ?_
  · obtain ⟨l, gr, rfl, _⟩ := h
    rfl
  · obtain ⟨l, gr, rfl, d, q⟩ := h
    refine ⟨_, (pss_cons (ps_set (i := 2) c_l_right.nd rfl (.inr rfl) (pe_ca f_l_four b_l_four hr (by decide) pass0 rfl (pa_cons (pv 0) pa_nil)))
      (C8.pss_cut (ps_if (pt_cmpR op_eq (pe_op op_mod (pe_ca f_l_next b_l_next hr (by decide) pass0 rfl (pa_cons (pv 0) pa_nil)) pe_int) pe_int (nomark _)) (pss_one (ps_set (i := 2) c_l_right.nd rfl (.inr rfl) (pe_ca f_l_small b_l_small hr (by decide) pass0 rfl (pa_cons (pv 0) (pa_cons (pv 2) pa_nil))))) pss_nil)
      (pss_cons (ps_set (i := 3) c_l_right.nd rfl (.inr rfl) (pe_op op_add pe_int (pe_op op_mod (pe_ca f_l_next b_l_next hr (by decide) pass0 rfl (pa_cons (pv 0) pa_nil)) (pe_ix ix_list (pe_lst (pa_cons pe_int (pa_cons pe_int (pa_cons pe_int (pa_cons pe_int pa_nil))))) (pe_op op_mod (pe_ca f_l_next b_l_next hr (by decide) pass0 rfl (pa_cons (pv 0) pa_nil)) pe_int) (fun _ _ => rfl)))))
      (C8.pss_cut (ps_if (PW.pt (pw_and (pt_val (pv 1)) (pw_and1 (pt_cmpR op_eq (pe_op op_mod (pe_ca f_l_next b_l_next hr (by decide) pass0 rfl (pa_cons (pv 0) pa_nil)) pe_int) pe_int (nomark _))))) (pss_one (ps_set (i := 3) c_l_right.nd rfl (.inr rfl) (pe_op op_sub pe_int (pe_op op_mod (pe_ca f_l_next b_l_next hr (by decide) pass0 rfl (pa_cons (pv 0) pa_nil)) pe_int)))) pss_nil)
      (pss_cons (ps_set (i := 4) c_l_right.nd rfl (.inl rfl) (pe_ca f_l_made b_l_made hr (by decide) pass0 rfl (pa_cons (pv 2) (pa_cons (pe_ca f_l_next b_l_next hr (by decide) pass0 rfl (pa_cons (pv 0) pa_nil)) pa_nil))))
      (pss_cons (ps_set (i := 5) c_l_right.nd rfl (.inl rfl) (pe_ca f_stretches b_stretches hr (by decide) pass0 rfl (pa_cons (pv 4) (pa_cons (pv 3) pa_nil))))
      (pss_cons (ps_set (i := 6) c_l_right.nd rfl (.inr rfl) (pe_op op_sub (pe_ca f_l_next b_l_next hr (by decide) pass0 rfl (pa_cons (pv 0) pa_nil)) pe_int))
      (pss_cons (ps_if (PW.pt (pw_or (pt_not (pt_val (pe_callB call_isi rfl g_isinstance (by decide +kernel) (pa_cons (pv 5) (pa_cons (pe_bltn (v := .ty "list") rfl g_list (by decide +kernel) rfl) pa_nil))))) (pw_or (pt_cmpR (op_neD hr.units) (pv 5) (pe_callB (cr_srtU rfl) rfl g_sorted (by decide +kernel) (pa_cons (pe_callTy (cr_setU rfl (Nat.lt_of_succ_lt (hu65 hr))) rfl g_set (by decide +kernel) (pa_cons (pv 5) pa_nil)) pa_nil)) (nomark _)) (pw_or1 (pt_cmpR op_ne (pe_callB call_len_seq rfl g_len (by decide +kernel) (pa_cons (pv 5) pa_nil)) (pe_callB (call_min2 rfl) rfl g_min (by decide +kernel) (pa_cons (pe_op op_add (pv 3) pe_int) (pa_cons (pe_ix ix_tup (pe_ix ix_tup (pv 2) pe_int (fun _ _ => rfl)) pe_int (fun _ _ => rfl)) pa_nil))) (nomark _)))))) (pss_one (ps_ret pe_bl)) pss_nil)
      (C8.pss_cut (ps_if (pt_cmpR op_lt (pe_ix ix_tup (pe_ix ix_tup (pv 2) pe_int (fun _ _ => rfl)) pe_int (fun _ _ => rfl)) pe_int (nomark _)) (pss_cons (ps_setLc (i := 7) (own := [("_law_k", 8)]) (g := gName 8) (tt := tYes) (te := TE_l_right1 ) rfl c_l_right.nd rfl rfl (sw_true rfl rfl rfl (by decide +kernel)) (pi_range1 rfl g_range (pa_cons (pe_ix ix_tup (pe_ix ix_tup (pv 2) pe_int (fun _ _ => rfl)) pe_int (fun _ _ => rfl)) pa_nil)) (blkOk_by (N := ["_law_draws_here", "_law_great", "_law_four_here", "_law_count", "_law_made_here", "_law_told", "_law_first", "_law_rows", "_law_k", "_law_due"]) (sc := defScope s_l_right) (by decide +kernel)) (fun _ _ _ _ _ => (pg_name (i := 8) c_l_right.nd rfl (.inl rfl))) (fun _ _ _ _ _ => by exact pts_nil) (fun _ _ _ _ _ => by exact (pe_ca f_l_row b_l_row hr (by decide) pass0 rfl (pa_cons (pv 2) (pa_cons (pe_op op_add (pv 6) (pv 8)) (pa_cons (pv 3) pa_nil))))))
      (pss_one (ps_if (pt_cmpR (op_neD hr.units) (pv 5) (pe_callB (cr_srtU rfl) rfl g_sorted (by decide +kernel) (pa_cons (pe_callTy (cr_setU rfl (Nat.lt_of_succ_lt (hu65 hr))) rfl g_set (by decide +kernel) (pa_cons (pv 7) pa_nil)) pa_nil)) (nomark _)) (pss_one (ps_ret pe_bl)) pss_nil))) pss_nil)
      (pss_cons (ps_for PassesOwn.never rfl (pi_range1 rfl g_range (pa_cons pe_int pa_nil)) (pg_name (i := 8) c_l_right.nd rfl (.inl rfl)) (pss_one (ps_if (pt_cmpR (op_notInD (hu65 hr)) (pe_ca f_l_row b_l_row hr (by decide) pass0 rfl (pa_cons (pv 2) (pa_cons (pe_op op_add (pv 6) (pe_op op_mul (pe_op op_mul (pv 8) (pv 8)) pe_int)) (pa_cons (pv 3) pa_nil)))) (pv 5) rfl) (pss_one (ps_ret pe_bl)) pss_nil)))
      (pss_cons (ps_set (i := 9) c_l_right.nd rfl (.inl rfl) (pe_callB (cr_srtU rfl) rfl g_sorted (by decide +kernel) (pa_cons (pe_callTy (cr_setU rfl (Nat.lt_of_succ_lt (hu65 hr))) rfl g_set (by decide +kernel) (pa_cons (pe_ca f_l_grid b_l_grid hr (by decide) pass0 rfl (pa_cons (pe_ix ix_tup (pv 2) pe_int (fun _ _ => rfl)) (pa_cons (pv 3) pa_nil))) pa_nil)) pa_nil)))
      (pss_cons (ps_if (pt_cmpR (op_neD hr.units) (pv 5) (pv 9) (nomark _)) (pss_one (ps_ret pe_bl)) pss_nil)
      (pss_cons (ps_expr (pe_bm PySem.F.plainAttrs_list PySem.F.slot_list_append PySem.F.type_list_append mt_append (pv 5) (pa_cons (pe_tup (pa_cons pe_int pa_nil)) pa_nil)))
      (pss_one (ps_ret (pe_cmpR (op_eqD hr.units) (pe_caK f_stretches kb_stretches_many_calendar hr (by decide) pass0 rfl (pk_cons (pv 3) (pk_cons (pv 4) pk_nil))) (pv 9) (nomark _))))))))))))))))), ?_⟩
    refine ⟨_, rfl, l, 0, rfl, d, by decide, fun r H1 m y o k g z60 b1 d1 fo => ?_⟩
    refine ⟨fun σ H' => ∃ (r : Addr) (m : Rat) (n : Nat), σ = [some (.ref l), some (.bl gr), some (.ref r), none, none, none, none, none, none, none] ∧ n ≤ 20 ∧ Dr H' l n ∧ But l H H' ∧ Fo H' r m y o k ∧ Good m y o k, ?_, ?_⟩
    · refine ⟨_, rfl, l, _, rfl, d1, by decide, fun v H2 v0 v1 b2 d2 => ⟨_, _, rfl, rfl, md, rfl, _, rfl, ?_⟩⟩
      refine ite2 (fun _ => ?_) (fun _ => ?_)
      · exact ⟨_, rfl, _, rfl, l, r, _, m, y, o, k, rfl, d2, by omega, fo.but b2 d1, g, z60, fun r' H3 m' g' b3 d3 fo' => ⟨r', m', _, rfl, by omega, d3, (b1.trans b2).trans b3, fo', g'⟩⟩
      · exact ⟨r, m, _, rfl, by omega, d2, b1.trans b2, fo.but b2 d1, g⟩
    rintro σ H2 ⟨r, m, n2, rfl, hn2, d2, b2, fo2, g⟩
    refine ⟨_, rfl, l, _, rfl, d2, by omega, fun v H3 v0 v1 b3 d3 => ?_⟩
    refine ⟨(by show 4 ≤ sizeLine; decide), fun p3 n3 => ?_⟩
    refine ⟨_, rfl, l, _, rfl, d3.new n3, by omega, fun u H4 u0 u1 b4 d4 => ?_⟩
    have w1 := Int.emod_nonneg u (show (4 : Int) ≠ 0 by decide)
    have w2 := Int.emod_lt_of_pos u (show (0 : Int) < 4 by decide)
    obtain ⟨x, hx, b, rfl, zb0, zb1⟩ := pick (P := fun x => ∃ i : Int, x = V.int i ∧ 1 ≤ i ∧ i ≤ 90) (xs := [.int 12, .int 12, .int 12, .int 90]) w1 w2 (by
      intro x hx
      rcases List.mem_cons.mp hx with rfl | hx
      · exact ⟨_, rfl, by omega, by omega⟩
      rcases List.mem_cons.mp hx with rfl | hx
      · exact ⟨_, rfl, by omega, by omega⟩
      rcases List.mem_cons.mp hx with rfl | hx
      · exact ⟨_, rfl, by omega, by omega⟩
      rcases List.mem_cons.mp hx with rfl | hx
      · exact ⟨_, rfl, by omega, by omega⟩
      · cases hx)
    have hp4 : H4 p3 = some (.lst [.int 12, .int 12, .int 12, .int 90]) := b4 _ _ (ne_l d3 n3) upd_same
    refine ⟨_, _, rfl, rfl, md, p3, _, _, _, rfl, rfl, SqL.of hp4, hx, _, _, rfl, rfl, (show 0 < b by omega), _, _, rfl, rfl, ?_⟩
    have c0 := Int.emod_nonneg v (show b ≠ 0 by omega)
    have c1 := Int.emod_lt_of_pos v (show 0 < b by omega)
    have fo4 : Fo H4 r m y o k := ((fo2.but b3 d2).same (Same.new n3)).but b4 (d3.new n3)
    have b04 : But l H H4 := ((b2.trans b3).trans (But.same (Same.new n3))).trans b4
    obtain ⟨N0, hN0⟩ : ∃ n : Nat, 1 + v % b = (n : Int) := ⟨(1 + v % b).toNat, by omega⟩
    show C8.tCut _ _ _ [_, _, _, some (V.int (1 + v % b)), _, _, _, _, _, _] _
    rw [hN0]
    refine ⟨fun σ H' => ∃ (N n : Nat), σ = [some (.ref l), some (.bl gr), some (.ref r), some (.int (N : Nat)), none, none, none, none, none, none] ∧ 1 ≤ N ∧ N ≤ 400 ∧ n ≤ 40 ∧ Dr H' l n ∧ But l H H' ∧ Fo H' r m y o k, ?_, ?_⟩
    · refine ⟨_, rfl, _, rfl, ?_⟩
      refine ite2 (fun hg => ?_) (fun _ => ?_)
      · refine ⟨_, rfl, l, _, rfl, d4, by omega, fun v5 H5 v50 v51 b5 d5 => ⟨_, _, rfl, rfl, md, rfl, _, rfl, ?_⟩⟩
        refine ite2 (fun _ => ?_) (fun _ => ?_)
        · refine ⟨_, rfl, l, _, rfl, d5, by omega, fun v6 H6 v60 v61 b6 d6 => ⟨_, _, rfl, rfl, md, _, _, rfl, rfl, ?_⟩⟩
          have k0 := Int.emod_nonneg v6 (show (50 : Int) ≠ 0 by decide)
          have k1 := Int.emod_lt_of_pos v6 (show (0 : Int) < 50 by decide)
          obtain ⟨N, hN⟩ : ∃ n : Nat, 400 - v6 % 50 = (n : Int) := ⟨(400 - v6 % 50).toNat, by omega⟩
          refine ⟨N, _, ?_, by omega, by omega, by omega, d6, (b04.trans b5).trans b6, (fo4.but b5 d4).but b6 d5⟩
          show [_, _, _, some (V.int (400 - v6 % 50)), _, _, _, _, _, _] = _
          rw [hN]
        · exact ⟨N0, _, rfl, by omega, by omega, by omega, d5, b04.trans b5, fo4.but b5 d4⟩
      · exact ⟨N0, _, rfl, by omega, by omega, by omega, d4, b04, fo4⟩
    rintro σ H5 ⟨N, n5, rfl, hN1, hN4, hn5, d5, b5, fo5⟩
    refine ⟨_, rfl, _, rfl, l, _, rfl, d5, by omega, fun v6 H6 v60 v61 b6 d6 => ?_⟩
    have fo6 := fo5.but b6 d5
    refine ⟨r, v6, m, y, o, k, rfl, fo6, g, fun p H7 np s7 cl => ?_⟩
    refine ⟨_, rfl, _, rfl, p, N, m, y, o, k, rfl, cl, g, by omega, fun R H8 us ts nR s8 eR perm ris rows => ?_⟩
    have s68 := s7.trans s8
    have d8 := d6.same s68 (Nat.le_refl _)
    have neR : R ≠ l := ne_l (d6.same s7 (Nat.le_refl _)) nR
    refine ⟨_, rfl, l, _, rfl, d8, by omega, fun v9 H9 v90 v91 b9 d9 => ⟨_, _, rfl, rfl, ?_⟩⟩
    have fo9 := (fo6.same s68).but b9 d8
    have cl9 := (cl.same s8).but b9 d8
    have eR9 := b9 _ _ neR eR
    have rows9 : Rows H9 us (ts.map fun t => rw_ m.num m.den t N) := rows.but b9 d8
    have b09 : But l H H9 := ((b5.trans b6).trans (But.same s68)).trans b9
    have hd := den_pos m
    have ha : 0 ≤ m.num := Int.le_of_lt (num_pos g.fit.pos)
    have rise := rows_rise hd ha (cop m) perm ris
    have bd : ∀ z, z ∈ (ts.map fun t => rw_ m.num m.den t N) → z.length = N ∧ TS.Bd (m.num + 1) z := fun z hz => by
      obtain ⟨t, _, rfl⟩ := List.mem_map.mp hz
      exact ⟨rw_len _ _ _ _, rw_bd hd ha N⟩
    have ul : us.length = ts.length := by rw [rows.1, List.length_map]
    have tl : ts.length = min (N + 1) (m.den : Int).toNat := by rw [perm.length_eq]; simp [parts]
    generalize hfr : v9 - 500 = fr
    have zfr : Sz 64 fr := by
      have e64 : (2 : Int) ^ 64 = 18446744073709551616 := by decide
      exact Sz.of (by omega) (by omega)
    show tSeq _ _ _ [_, _, _, _, _, _, some (V.int (v9 - 500)), _, _, _] _
    rw [hfr]
    refine ⟨_, rfl, _, _, _, _, _, rfl, .ty "list", .base (.lst eR9), kit_ty (r := true) (by decide +kernel), _, rfl, no' rfl ?_⟩
    refine ⟨_, rfl, _, rfl, ?_⟩
    dsimp only [tNil]
    refine set_srt eR9 rows9 (by omega) hN1 bd rise (fun _ => Iff.rfl) fun p10 us10 H10 n10 s10 e10 rows10 => ⟨_, _, (rows9.same s10).dp (s10 _ _ eR9), rows10.dp e10, sh_tups _, sh_tups _, _, rfl, no' (by rw [eqv_rows]; rfl) ?_⟩
    have fo10 := fo9.same s10
    have eR10 := s10 _ _ eR9
    have rows10 := rows9.same s10
    have cl10 := cl9.same s10
    obtain ⟨a, b, c, d', e, h1, h2, h3, h4⟩ := id fo10
    refine ⟨_, rfl, R, _, rfl, .inl (SqL.of eR10), _, rfl, _, _, rfl, rfl, _, rfl, r, _, _, _, rfl, rfl, SqT.of e, rfl, a, _, _, _, rfl, rfl, SqT.of h1, rfl, _, _, rfl, rfl, _, rfl, no' (ne_dec ?_) ?_⟩
    · split <;> omega
    refine ⟨fun σ H' => ∃ (v7 v8 : Option V), σ = [some (.ref l), some (.bl gr), some (.ref r), some (.int (N : Nat)), some (.ref p), some (.ref R), some (.int fr), v7, v8, none] ∧ Same H10 H', ?_, ?_⟩
    · refine ⟨_, rfl, r, _, _, _, rfl, rfl, SqT.of e, rfl, a, _, _, _, rfl, rfl, SqT.of h1, rfl, _, _, rfl, rfl, _, rfl, ?_⟩
      refine ite2 (fun hlt => ?_) (fun _ => ⟨_, _, rfl, Same.refl _⟩)
      have hlt : (m.den : Int) < 61 := of_decide_eq_true hlt
      refine ⟨_, rfl, r, _, _, _, rfl, rfl, SqT.of e, rfl, a, _, _, _, rfl, rfl, SqT.of h1, rfl, _, rfl, by omega, by omega, fun D hD => ?_⟩
      have en : (m.den : Int).toNat = m.den := by omega
      rw [en]
      refine lc_all (walk_range (lo := 0) (n := m.den)) yFn_same hD (by show m.den < 2 ^ 24; omega) (fun j v H' => ∃ (q : Addr), v = .ref q ∧ H' q = some (.tup ((stp (fun i => stF m o (fr + (0 + (j : Int)) + (i : Nat))) N).map V.int)))
        (fun j v H1 H2 s ⟨q, e1, e2⟩ => ⟨q, e1, s _ _ e2⟩) (fun j v H1 acc acc' hacc ⟨q, e1, e2⟩ => ⟨q, e1, ?_⟩) (fun _ _ => trivial) ?_ ?_
      · rw [upd_ne (ne_of e2 hacc (by intro z; cases z))]
        exact e2
      · rintro j x H11 H12 Rr hj s11 ⟨rfl, rfl⟩ k1
        refine ⟨rfl, ?_⟩
        have zi : Sz 1500 (fr + (0 + (j : Int))) := by
          rw [Int.zero_add]
          exact (Sz.add (n := 64) zfr (znat j (by omega) (by decide)) (by decide : 64 < 65)).mono (by decide)
        exact ⟨_, rfl, _, rfl, _, rfl, _, _, rfl, rfl, _, rfl, r, _, N, m, y, o, k, rfl, fo10.same s11, g, zi, by omega, fun t H13 nt s13 et => k1 _ H13 s13 ⟨t, rfl, et⟩⟩
      intro usD H11 hl eD s11 hp
      have rowsD : Rows H11 usD ((List.range m.den).map fun (j : Nat) => stp (fun i => stF m o (fr + (j : Int) + (i : Nat))) N) := by
        refine ⟨by simp [hl], fun j u hu => ?_⟩
        obtain ⟨q, e1, e2⟩ := hp j u hu
        have hj : j < m.den := by
          rw [← hl]
          exact (List.getElem?_eq_some_iff.mp hu).1
        refine ⟨q, _, e1, by rw [List.getElem?_map, List.getElem?_range hj]; rfl, ?_⟩
        rw [Int.zero_add] at e2
        exact e2
      have sameD : ∀ x, x ∈ ((List.range m.den).map fun (j : Nat) => stp (fun i => stF m o (fr + (j : Int) + (i : Nat))) N) ↔ x ∈ (ts.map fun t => rw_ m.num m.den t N) := fun x => by
        rw [← moon_rows m o fr N perm x, List.mem_map]
        constructor
        · rintro ⟨j, hj, rfl⟩
          exact ⟨j, List.mem_range.mp hj, rfl⟩
        · rintro ⟨j, hj, rfl⟩
          exact ⟨j, List.mem_range.mpr hj, rfl⟩
      refine ⟨_, rfl, _, rfl, ?_⟩
      dsimp only [tNil]
      refine set_srt eD rowsD (by omega) hN1 (fun z hz => bd z ((sameD z).mp hz)) rise sameD fun p12 us12 H12 n12 s12 e12 rows12 => ⟨_, _, (rows10.same (s11.trans s12)).dp ((s11.trans s12) _ _ eR10), rows12.dp e12, sh_tups _, sh_tups _, _, rfl, no' (by rw [eqv_rows]; rfl) ?_⟩
      exact ⟨_, _, rfl, s11.trans s12⟩
    rintro σ H11 ⟨v7, v8, rfl, s11⟩
    refine ⟨40, rfl, by decide, by decide, ?_⟩
    refine for_range (n := 40) (fun j σ H' => ∃ (v7 v8 : Option V), σ = [some (.ref l), some (.bl gr), some (.ref r), some (.int (N : Nat)), some (.ref p), some (.ref R), some (.int fr), v7, v8, none] ∧ Same H10 H') ⟨_, _, rfl, s11⟩ ?_ ?_
    · rintro j σ H12 hj ⟨w7, w8, rfl, s12⟩
      have zj : Sz 10 (0 + (j : Int)) := by
        rw [Int.zero_add]
        exact znat (n := 10) j (by omega) (by decide)
      have zi : Sz 1500 (fr + (0 + (j : Int)) * (0 + (j : Int)) * 7919) := (Sz.add (n := 64) zfr (((zj.mul zj).mul (szi (n := 13) 7919)).mono (by decide)) (by decide : 64 < 65)).mono (by decide)
      refine ⟨_, rfl, _, rfl, _, rfl, _, rfl, _, _, rfl, rfl, .inl ⟨by omega, by omega⟩, _, _, rfl, rfl, .inr ⟨by decide, by decide⟩, _, _, rfl, rfl, _, rfl, r, _, N, m, y, o, k, rfl, fo10.same s12, g, zi, by omega, fun t H13 nt s13 et => ?_⟩
      have s103 := s12.trans s13
      refine ⟨_, rfl, tupD _, _, dp_tup et, (rows10.same s103).dp (s103 _ _ eR10), sh_tup _, sh_tups _, _, rfl, no' ?_ ⟨_, _, rfl, s103⟩⟩
      rw [any_row (moon_row m o _ N perm)]
      rfl
    rintro σ H12 ⟨w7, w8, rfl, s12⟩
    have fo12 := fo10.same s12
    obtain ⟨a, b, c, d', e, h1, h2, h3, h4⟩ := id fo12
    refine ⟨_, rfl, r, _, _, _, rfl, rfl, SqT.of e, rfl, _, rfl, a, N, m, rfl, h1, g.zm, by omega, fun D usD H13 nD s13 eD rowsD => ?_⟩
    have sameD : ∀ x, x ∈ ((List.range (N + 1)).map fun (i : Nat) => rw_ m.num m.den ((0 - (i : Int) * m.num) % (m.den : Int)) N) ↔ x ∈ (ts.map fun t => rw_ m.num m.den t N) := fun x => by
      rw [← grid_same hd N ts perm x, List.mem_map]
      constructor
      · rintro ⟨j, hj, rfl⟩
        exact ⟨j, List.mem_range.mp hj, rfl⟩
      · rintro ⟨j, hj, rfl⟩
        exact ⟨j, List.mem_range.mpr hj, rfl⟩
    dsimp only [tNil]
    refine set_srt eD rowsD (by have := rowsD.1; simp at this; omega) hN1 (fun z hz => bd z ((sameD z).mp hz)) rise sameD fun p14 us14 H14 n14 s14 e14 rows14 => ?_
    have s104 := s12.trans (s13.trans s14)
    have eR14 := s104 _ _ eR10
    refine ⟨_, rfl, _, rfl, _, _, (rows10.same s104).dp eR14, rows14.dp e14, sh_tups _, sh_tups _, _, rfl, no' (by rw [eqv_rows]; rfl) ?_⟩
    refine ⟨_, rfl, .inl ⟨rfl, _, SqL.of eR14⟩, (by show 1 ≤ sizeLine; decide), fun t15 n15 => ?_⟩
    have s15 := Same.new (o := .tup [.int 0]) n15
    have eR15 := s15 _ _ eR14
    refine ⟨R, _, _, rfl, rfl, eR15, Nat.lt_trans (show us.length < 999 by omega) (by decide), ?_⟩
    have neRp : R ≠ p14 := fun z => by
      have e14' := s13.trans s14
      rw [← z] at n14
      have := (s12.trans s13) _ _ eR10
      rw [n14] at this
      cases this
    have s105 := s104.trans s15
    have cl16 := (cl10.same s105).putL (ys := us ++ [V.ref t15]) eR15
    have rows16 := (rows14.same s15).putL (ys := us ++ [V.ref t15]) eR15
    have e16 : (L2.upd (L2.upd H14 t15 (.tup [.int 0])) R (.lst (us ++ [V.ref t15]))) p14 = some (.lst us14) := by
      rw [upd_ne neRp.symm]
      exact s15 _ _ e14
    have b16 : But l H (L2.upd (L2.upd H14 t15 (.tup [.int 0])) R (.lst (us ++ [V.ref t15]))) := fun b o hb e => by
      have e7 : H7 b = some o := s7 _ _ ((b5.trans b6) b o hb e)
      rw [upd_ne (ne_of_none e7 nR)]
      exact s105 _ _ (s10 _ _ (b9 _ _ hb (s8 _ _ e7)))
    refine ⟨_, rfl, _, rfl, rfl, p, N, m, y, o, k, rfl, cl16, g, by omega, fun R2 H17 us17 ts17 nR2 s17 eR17 perm17 ris17 rows17 => ?_⟩
    have rows17 : Rows H17 us17 (ts17.map fun t => rw_ m.num m.den t N) := rows17
    have ets : (ts17.map fun t => rw_ m.num m.den t N) = ts.map fun t => rw_ m.num m.den t N := srt_same (TS.code (m.num + 1)) _ _ (rows_rise hd ha (cop m) perm17 ris17) rise fun x => ((perm17.trans perm.symm).map _).mem_iff
    rw [ets] at rows17
    refine ⟨_, rfl, _, _, rows17.dp eR17, (rows16.same s17).dp (s17 _ _ e16), sh_tups _, sh_tups _, ?_⟩
    rw [eqv_rows]
    exact q H17 (b16.trans (But.same s17))
end
/-! ### the law of unlike stretches -/
section
variable {P : Program} {w : World} {K : PySem.W.Frag} {mg : Str → Option Value} {base : Heap}
theorem ok_law (D : Df K mg "law" s_law []) (f_l_draws : Ca P w K mg base CX0 1 "_law_draws" s_l_draws [] ["_law_cell"] spDraws) (g_enumerate : mg "enumerate" = none) (f_l_right : Ca P w K mg base CX0 11 "_law_right" s_l_right [] ["_law_draws_here", "_law_great"] spRight32) : Ca P w K mg base CX0 13 "law" s_law [] ["_law_script"] (spLaw K) := by
  refine ca0 (k := 12) D c_law (fun vs H Q E h => ?_) fun f cdv A outer s H vs Q E hr h => ?_
  · obtain ⟨a, ns, rfl, _⟩ := h
    rfl
  · obtain ⟨a, ns, rfl, hS, hlen, q⟩ := h
    refine ⟨_, (pss_cons (ps_for PassesOwn.never rfl (pi_enum rfl g_enumerate (pa_cons (pe_op op_cat (pe_slice sl_list (pv 0) po_none (po_some pe_int)) (pe_lst (pa_cons pe_int pa_nil))) pa_nil)) (pg_tup rfl (pgs_cons (pg_name (i := 1) c_law.nd rfl (.inl rfl)) (pgs_cons (pg_name (i := 2) c_law.nd rfl (.inl rfl)) pgs_nil))) (pss_one (ps_if (pt_not (pt_val (pe_ca f_l_right b_l_right hr (by decide) pass0 rfl (pa_cons (pe_ca f_l_draws b_l_draws hr (by decide) pass0 rfl (pa_cons (pv 2) pa_nil)) (pa_cons (pe_cmpR op_eq (pv 1) pe_int (nomark _)) pa_nil))))) (pss_one (ps_ret pe_bl)) pss_nil)))
      (pss_one (ps_ret pe_bl))), ?_⟩
    refine ⟨_, rfl, _, rfl, a, _, rfl, hS, fun p1 n1 => ?_⟩
    refine ⟨(by show 1 ≤ sizeLine; decide), fun p2 n2 => ?_⟩
    have ne12 : p1 ≠ p2 := ne_of_none upd_same n2
    refine ⟨p1, p2, _, _, rfl, rfl, (by rw [upd_ne ne12]; exact upd_same), upd_same, cut_len hlen, fun l3 n3 => ?_⟩
    generalize hH0 : L2.upd _ l3 (.lst (cutV (ns.map V.int) none (some 6) ++ [V.int 0])) = H0
    have hl3 : H0 l3 = some (.lst (cutV (ns.map V.int) none (some 6) ++ [V.int 0])) := by rw [← hH0]; exact upd_same
    refine ⟨l3, _, rfl, SqL.of hl3, for_it (walk_enum (K := K) (a := l3) (xs := cutV (ns.map V.int) none (some 6) ++ [V.int 0])) (fun i σ H' => ∃ v1 v2 : Option V, σ = [some (.ref a), v1, v2] ∧ H' l3 = some (.lst (cutV (ns.map V.int) none (some 6) ++ [V.int 0])))
      ⟨_, _, rfl, hl3⟩ (fun i σ H' _ ⟨_, _, _, e⟩ => SqL.of e) ?_ (fun σ H' ⟨_, _, e, _⟩ => by subst e; exact q H')⟩
    rintro i x σ H1 H2 hi ⟨v1, v2, rfl, e3⟩ ⟨T, x1, x2, rfl, nT, rfl, g1, g2⟩
    cases g1
    obtain ⟨c, rfl⟩ := cut_ints g2
    have e32 : (L2.upd H1 T (.tup [.int (i : Nat), .int c])) l3 = some (.lst (cutV (ns.map V.int) none (some 6) ++ [V.int 0])) := by rw [upd_ne (ne_of_none e3 nT)]; exact e3
    refine ⟨T, _, rfl, SqT.of upd_same, rfl, _, _, rfl, _, _, rfl, rfl, ?_⟩
    refine ⟨_, rfl, c, rfl, fun l H2 nl s2 d2 => ?_⟩
    have nel : l3 ≠ l := ne_of_none e32 nl
    exact ⟨_, rfl, rfl, l, _, rfl, d2, fun H3 b3 => ⟨_, rfl, no' rfl ⟨_, _, rfl, b3 _ _ nel (s2 _ _ e32)⟩⟩⟩
end
/-! ### what the top has written -/
theorem fin {P : Program} {w : World} {K : PySem.W.Frag} {mg : Str → Option Value} {fa C Cc : Addr} (hfa : mg "law" = some (.ref fa))
    (cl : Cls K C) (nT : PySem.W.findIn K (.ref C) "top" = some none) (nB : PySem.W.findIn K (.ref C) "bottom" = some none) (ha : PySem.W.findIn K (.ref C) "__class__" = some (some (.builtin "object.__class__")))
    (hn : PySem.W.specialIn K (.builtin "object.__class__") "__get__" = some (some (.builtin "getset_descriptor.__get__"))) (htk : PySem.W.takesIn K (.builtin "object.__class__") = some true) (hm : PySem.W.mroIn K C (.type "object") = some true)
    (iC : PySem.W.isClsIn K C = true) (tC : PySem.W.typeIn K (.ref C) = some (.type "type")) (sI : PySem.W.subIn K (.type "int") (.ref C) = some false) (hC : mg "Share" = some (.ref C))
    (dShare : Di K mg "Share" C "Share.__init__" s_Share_init [.int 1])
    (clc : Cls K Cc) (n1 : PySem.W.findIn K (.ref Cc) "month" = some none) (n2 : PySem.W.findIn K (.ref Cc) "year" = some none) (n3 : PySem.W.findIn K (.ref Cc) "moon" = some none) (n4 : PySem.W.findIn K (.ref Cc) "mark" = some none) (ne : Cc ≠ C) {uM : Value} (aM : mg "MARKS" = some uM) (rM : RelV (.int 12) uM)
    (dCal : Di K mg "Calendar" Cc "Calendar.__init__" s_Calendar_init [.non, .non])
    (g_abs : mg "abs" = none) (g_range : mg "range" = none) (g_isinstance : mg "isinstance" = none) (g_list : mg "list" = none) (g_set : mg "set" = none) (g_len : mg "len" = none) (g_min : mg "min" = none) (g_zip : mg "zip" = none) (g_tuple : mg "tuple" = none) (g_sorted : mg "sorted" = none) (g_enumerate : mg "enumerate" = none)
    (d_common_divisor : Df K mg "common_divisor" s_common_divisor []) (d_as_share : Df K mg "as_share" s_as_share []) (d_plus : Df K mg "plus" s_plus []) (d_minus : Df K mg "minus" s_minus []) (d_times : Df K mg "times" s_times []) (d_over : Df K mg "over" s_over []) (d_before : Df K mg "before" s_before []) (d_whole : Df K mg "whole" s_whole []) (d_rounded_up : Df K mg "rounded_up" s_rounded_up []) (d_refuse_unfit : Df K mg "refuse_unfit" s_refuse_unfit []) (d_moment_or_nought : Df K mg "moment_or_nought" s_moment_or_nought []) (d_twelfth : Df K mg "twelfth" s_twelfth []) (d_stretches : Df K mg "stretches" s_stretches []) (d_stretch_at : Df K mg "stretch_at" s_stretch_at []) (d_steps : Df K mg "steps" s_steps []) (d_l_draws : Df K mg "_law_draws" s_l_draws []) (d_l_next : Df K mg "_law_next" s_l_next []) (d_l_low : Df K mg "_law_low" s_l_low []) (d_l_plus : Df K mg "_law_plus" s_l_plus []) (d_l_by : Df K mg "_law_by" s_l_by []) (d_l_part : Df K mg "_law_part" s_l_part []) (d_l_moment : Df K mg "_law_moment" s_l_moment []) (d_l_four : Df K mg "_law_four" s_l_four []) (d_l_floor : Df K mg "_law_floor" s_l_floor []) (d_l_start : Df K mg "_law_start" s_l_start []) (d_l_made : Df K mg "_law_made" s_l_made []) (d_l_row : Df K mg "_law_row" s_l_row []) (d_l_small : Df K mg "_law_small" s_l_small []) (d_l_grid : Df K mg "_law_grid" s_l_grid []) (d_l_right : Df K mg "_law_right" s_l_right []) (d_law : Df K mg "law" s_law []) :
    ∃ fd : FuncData, (∀ (s : Shared) (u : Value), BindsTo s fd ⟨[u], []⟩ [("_law_script", u)]) ∧ ∀ base : Heap, K.In base → base.Ns mainGlobals mg → FnOk P w K mg base CX0 13 fa fd ["_law_script"] (spLaw K) := by
  refine fin_of hfa d_law b_law fun base => ?_
  have T : ShX K C := ⟨⟨cl, nT, nB⟩, fun H a dx fs e => .base (.ins e cl ha hn htk hm), kit_no iC tC rfl sI⟩
  have marks : ∃ t, mg "MARKS" = some (.int 12 t) := by
    obtain ⟨t, e⟩ := rM
    exact ⟨t, by rw [aM, e]⟩
  have Tc : CaT K C Cc := ⟨clc, n1, n2, n3, n4, ne⟩
  have f1 := ok_gcd (P := P) (w := w) (base := base) d_common_divisor g_abs
  have f2 := ok_shI dShare T.toShT f1
  have f3 := ok_as d_as_share T g_isinstance hC f2
  have F : ShF P w K mg base C := { T := T, mkS := f2, asS := f3, plus := ok_plus d_plus T f3 f2, minus := ok_minus d_minus T f3 f2, times := ok_times d_times T f3 f2, over := ok_over d_over T f3 f2, before := ok_before d_before T f3, whole := ok_whole d_whole T f3, up := ok_rounded d_rounded_up T f3, marks := marks }
  have tw := ok_tw d_twelfth F
  have cal := ok_caI dCal Tc F (ok_unfit d_refuse_unfit F tw) (ok_moment d_moment_or_nought F)
  obtain ⟨tkM, hMk⟩ := id marks
  have lo := ok_low (P := P) (w := w) (base := base) d_l_low g_abs
  have nx := ok_next (P := P) (w := w) (base := base) d_l_next
  have dr := ok_draws (P := P) (w := w) (base := base) d_l_draws g_range
  have pl := ok_lplus d_l_plus lo
  have by' := ok_lby d_l_by lo
  have fl := ok_lfloor (P := P) (w := w) (base := base) d_l_floor
  have ls := ok_lstart d_l_start fl pl by'
  have pt := ok_lpart d_l_part nx lo
  have mo := ok_lmom d_l_moment nx pt pl
  have fo := ok_lfour d_l_four nx pt pl by' mo
  have ma := ok_lmade2 d_l_made f2 cal
  have st := ok_steps (P := P) (w := w) (base := base) d_steps g_zip
  have sa := ok_sat d_stretch_at T.toShT st g_range g_tuple
  have sr := ok_stretches d_stretches T.toShT Tc sa g_range g_min g_sorted
  have rw' := ok_lrow d_l_row ls g_range g_zip g_tuple
  have sm := ok_lsmall d_l_small nx lo fl
  have gd := ok_lgrid (P := P) (w := w) (base := base) d_l_grid g_range g_zip g_tuple
  have rg := ok_lright32 d_l_right fo nx sm ma rw' gd sr g_isinstance g_list g_sorted g_set g_len g_min g_range
  exact ok_law d_law dr g_enumerate rg
theorem walk {l : PySem.W.OpenLaw} {q : Program} {loose : List Str} {XP : (Str → Option Value) → Heap → Prop} {YP : World → Heap → Prop} {d : DefRec} {K : Params → PySem.W.Frag} (hn : l.most = some 63) (hdf : d.params.defaults = [])
    (hY : ∀ (w : World) (h : Heap), YP w h → (K w.params).In h)
    (F : ∀ (w : World) (mg : Str → Option Value) (fa : Addr) (h : Heap), (K w.params).In h → h.Ns mainGlobals mg → mg d.name = some (.ref fa) →
      ∃ fd : FuncData, (∀ (s : Shared) (u : Value), BindsTo s fd ⟨[u], []⟩ [("_law_script", u)]) ∧ ∀ base : Heap, (K w.params).In base → base.Ns mainGlobals mg → FnOk l.prog w (K w.params) mg base CX0 13 fa fd ["_law_script"] (spLaw (K w.params))) :
    PySem.W.WalkO q loose XP YP l.row.toRowW d [] (fun f vs => PySem.call f vs) :=
  L2.walk_of (n := 63) (k := 13) (x := "_law_script") (CX := fun _ => CX0) (sp := fun w => spLaw (K w.params)) hn (by decide) hdf ⟨rfl, by decide, by decide⟩ hY F (fun _ _ a ns hl _ hS => ⟨a, ns, rfl, hS, hl, fun _ => rfl⟩) fun _ _ _ _ _ z => z
end MM
open PySem PySem.W PyProof.Rows in
set_option maxRecDepth 100000 in
set_option maxHeartbeats 0 in
theorem PySem.Challenge.cw_meanmoon_k32_all_unlike_stretches_holds : PySem.Challenge.rw_meanmoon_k32_all_unlike_stretches.Holds := by
  w_on; o_law; k_head; (case hw => w_witness2)
  k_fill
  refine MM.walk (l := PySem.Challenge.rw_meanmoon_k32_all_unlike_stretches) rfl rfl (fun w h Y => PySem.W.kIn_of Y) ?F
  case F =>
    intro w mg fa h KX G hmg
    refine' MM.fin hmg
      ⟨?pg, ?hd, ?po, ?sa⟩ ?nT ?nB ?ha ?hn ?htk ?hm ?iC ?tC ?sI (PySem.W.mg_of KX G ?aC)
      (MM.di_mk (its := [_]) (PySem.W.mg_of KX G ?aC) ?s1 ?s2 ?s3 ?s4 ?s5 ?s6 ?s7 ?s8 ?s9 ?s0 (by decide))
      ⟨?pgc, ?hdc, ?poc, ?sac⟩ ?n1 ?n2 ?n3 ?n4 ?ne (PySem.W.mg_of KX G ?aM) ?rM
      (MM.di_mk (its := [_, _]) (PySem.W.mg_of KX G ?aD) ?c1 ?c2 ?c3 ?c4 ?c5 ?c6 ?c7 ?c8 ?c9 (.cons rfl (.cons rfl .nil)) (by decide))
      (PySem.W.mg_none_of KX G ?z0)
      (PySem.W.mg_none_of KX G ?z1)
      (PySem.W.mg_none_of KX G ?z2)
      (PySem.W.mg_none_of KX G ?z3)
      (PySem.W.mg_none_of KX G ?z4)
      (PySem.W.mg_none_of KX G ?z5)
      (PySem.W.mg_none_of KX G ?z6)
      (PySem.W.mg_none_of KX G ?z7)
      (PySem.W.mg_none_of KX G ?z8)
      (PySem.W.mg_none_of KX G ?z9)
      (PySem.W.mg_none_of KX G ?z10)
      (MM.df_mk KX G ?a_common_divisor ?l_common_divisor ?c_common_divisor ?k_common_divisor)
      (MM.df_mk KX G ?a_as_share ?l_as_share ?c_as_share ?k_as_share)
      (MM.df_mk KX G ?a_plus ?l_plus ?c_plus ?k_plus)
      (MM.df_mk KX G ?a_minus ?l_minus ?c_minus ?k_minus)
      (MM.df_mk KX G ?a_times ?l_times ?c_times ?k_times)
      (MM.df_mk KX G ?a_over ?l_over ?c_over ?k_over)
      (MM.df_mk KX G ?a_before ?l_before ?c_before ?k_before)
      (MM.df_mk KX G ?a_whole ?l_whole ?c_whole ?k_whole)
      (MM.df_mk KX G ?a_rounded_up ?l_rounded_up ?c_rounded_up ?k_rounded_up)
      (MM.df_mk KX G ?a_refuse_unfit ?l_refuse_unfit ?c_refuse_unfit ?k_refuse_unfit)
      (MM.df_mk KX G ?a_moment_or_nought ?l_moment_or_nought ?c_moment_or_nought ?k_moment_or_nought)
      (MM.df_mk KX G ?a_twelfth ?l_twelfth ?c_twelfth ?k_twelfth)
      (MM.df_mk KX G ?a_stretches ?l_stretches ?c_stretches ?k_stretches)
      (MM.df_mk KX G ?a_stretch_at ?l_stretch_at ?c_stretch_at ?k_stretch_at)
      (MM.df_mk KX G ?a_steps ?l_steps ?c_steps ?k_steps)
      (MM.df_mk KX G ?a_l_draws ?l_l_draws ?c_l_draws ?k_l_draws)
      (MM.df_mk KX G ?a_l_next ?l_l_next ?c_l_next ?k_l_next)
      (MM.df_mk KX G ?a_l_low ?l_l_low ?c_l_low ?k_l_low)
      (MM.df_mk KX G ?a_l_plus ?l_l_plus ?c_l_plus ?k_l_plus)
      (MM.df_mk KX G ?a_l_by ?l_l_by ?c_l_by ?k_l_by)
      (MM.df_mk KX G ?a_l_part ?l_l_part ?c_l_part ?k_l_part)
      (MM.df_mk KX G ?a_l_moment ?l_l_moment ?c_l_moment ?k_l_moment)
      (MM.df_mk KX G ?a_l_four ?l_l_four ?c_l_four ?k_l_four)
      (MM.df_mk KX G ?a_l_floor ?l_l_floor ?c_l_floor ?k_l_floor)
      (MM.df_mk KX G ?a_l_start ?l_l_start ?c_l_start ?k_l_start)
      (MM.df_mk KX G ?a_l_made ?l_l_made ?c_l_made ?k_l_made)
      (MM.df_mk KX G ?a_l_row ?l_l_row ?c_l_row ?k_l_row)
      (MM.df_mk KX G ?a_l_small ?l_l_small ?c_l_small ?k_l_small)
      (MM.df_mk KX G ?a_l_grid ?l_l_grid ?c_l_grid ?k_l_grid)
      (MM.df_mk KX G ?a_l_right ?l_l_right ?c_l_right ?k_l_right)
      (MM.df_mk KX G ?a_law ?l_law ?c_law ?k_law)
    (case aC => k_is)
    (case pg => k_is)
    (case hd => k_is)
    (case po => k_is)
    (case sa => k_is)
    (case nT => k_is)
    (case nB => k_is)
    (case ha => k_is)
    (case hn => k_is)
    (case htk => k_is)
    (case hm => k_is)
    (case iC => k_is)
    (case tC => k_is)
    (case sI => k_is)
    (case s1 => k_is)
    (case s2 => k_is)
    (case s3 => k_is)
    (case s4 => k_is)
    (case s5 => k_is)
    (case s6 => k_is)
    (case s7 => k_is)
    (case s8 => k_is)
    (case aD => k_is)
    (case pgc => k_is)
    (case hdc => k_is)
    (case poc => k_is)
    (case sac => k_is)
    (case n1 => k_is)
    (case n2 => k_is)
    (case n3 => k_is)
    (case n4 => k_is)
    (case aM => k_is)
    (case c1 => k_is)
    (case c2 => k_is)
    (case c3 => k_is)
    (case c4 => k_is)
    (case c5 => k_is)
    (case c6 => k_is)
    (case c7 => k_is)
    (case c8 => k_is)
    (case z0 => k_is)
    (case z1 => k_is)
    (case z2 => k_is)
    (case z3 => k_is)
    (case z4 => k_is)
    (case z5 => k_is)
    (case z6 => k_is)
    (case z7 => k_is)
    (case z8 => k_is)
    (case z9 => k_is)
    (case z10 => k_is)
    (case a_common_divisor => k_is)
    (case l_common_divisor => k_is)
    (case c_common_divisor => k_is)
    (case k_common_divisor => k_is)
    (case a_as_share => k_is)
    (case l_as_share => k_is)
    (case c_as_share => k_is)
    (case k_as_share => k_is)
    (case a_plus => k_is)
    (case l_plus => k_is)
    (case c_plus => k_is)
    (case k_plus => k_is)
    (case a_minus => k_is)
    (case l_minus => k_is)
    (case c_minus => k_is)
    (case k_minus => k_is)
    (case a_times => k_is)
    (case l_times => k_is)
    (case c_times => k_is)
    (case k_times => k_is)
    (case a_over => k_is)
    (case l_over => k_is)
    (case c_over => k_is)
    (case k_over => k_is)
    (case a_before => k_is)
    (case l_before => k_is)
    (case c_before => k_is)
    (case k_before => k_is)
    (case a_whole => k_is)
    (case l_whole => k_is)
    (case c_whole => k_is)
    (case k_whole => k_is)
    (case a_rounded_up => k_is)
    (case l_rounded_up => k_is)
    (case c_rounded_up => k_is)
    (case k_rounded_up => k_is)
    (case a_refuse_unfit => k_is)
    (case l_refuse_unfit => k_is)
    (case c_refuse_unfit => k_is)
    (case k_refuse_unfit => k_is)
    (case a_moment_or_nought => k_is)
    (case l_moment_or_nought => k_is)
    (case c_moment_or_nought => k_is)
    (case k_moment_or_nought => k_is)
    (case a_twelfth => k_is)
    (case l_twelfth => k_is)
    (case c_twelfth => k_is)
    (case k_twelfth => k_is)
    (case a_stretches => k_is)
    (case l_stretches => k_is)
    (case c_stretches => k_is)
    (case k_stretches => k_is)
    (case a_stretch_at => k_is)
    (case l_stretch_at => k_is)
    (case c_stretch_at => k_is)
    (case k_stretch_at => k_is)
    (case a_steps => k_is)
    (case l_steps => k_is)
    (case c_steps => k_is)
    (case k_steps => k_is)
    (case a_l_draws => k_is)
    (case l_l_draws => k_is)
    (case c_l_draws => k_is)
    (case k_l_draws => k_is)
    (case a_l_next => k_is)
    (case l_l_next => k_is)
    (case c_l_next => k_is)
    (case k_l_next => k_is)
    (case a_l_low => k_is)
    (case l_l_low => k_is)
    (case c_l_low => k_is)
    (case k_l_low => k_is)
    (case a_l_plus => k_is)
    (case l_l_plus => k_is)
    (case c_l_plus => k_is)
    (case k_l_plus => k_is)
    (case a_l_by => k_is)
    (case l_l_by => k_is)
    (case c_l_by => k_is)
    (case k_l_by => k_is)
    (case a_l_part => k_is)
    (case l_l_part => k_is)
    (case c_l_part => k_is)
    (case k_l_part => k_is)
    (case a_l_moment => k_is)
    (case l_l_moment => k_is)
    (case c_l_moment => k_is)
    (case k_l_moment => k_is)
    (case a_l_four => k_is)
    (case l_l_four => k_is)
    (case c_l_four => k_is)
    (case k_l_four => k_is)
    (case a_l_floor => k_is)
    (case l_l_floor => k_is)
    (case c_l_floor => k_is)
    (case k_l_floor => k_is)
    (case a_l_start => k_is)
    (case l_l_start => k_is)
    (case c_l_start => k_is)
    (case k_l_start => k_is)
    (case a_l_made => k_is)
    (case l_l_made => k_is)
    (case c_l_made => k_is)
    (case k_l_made => k_is)
    (case a_l_row => k_is)
    (case l_l_row => k_is)
    (case c_l_row => k_is)
    (case k_l_row => k_is)
    (case a_l_small => k_is)
    (case l_l_small => k_is)
    (case c_l_small => k_is)
    (case k_l_small => k_is)
    (case a_l_grid => k_is)
    (case l_l_grid => k_is)
    (case c_l_grid => k_is)
    (case k_l_grid => k_is)
    (case a_l_right => k_is)
    (case l_l_right => k_is)
    (case c_l_right => k_is)
    (case k_l_right => k_is)
    (case a_law => k_is)
    (case l_law => k_is)
    (case c_law => k_is)
    (case k_law => k_is)
    (case s9 => rfl)
    (case s0 => exact .cons ⟨_, rfl⟩ .nil)
    (case ne => decide)
    (case rM => exact ⟨_, rfl⟩)
    (case c9 => rfl)
#print axioms PySem.Challenge.cw_meanmoon_k32_all_unlike_stretches_holds
