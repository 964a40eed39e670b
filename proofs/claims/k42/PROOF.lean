import PyProof.Rows.All
import Wide.All
import OpenK.AllK
import Wide.FinOn
import PyProof.NoPylong
import HandS.ForMost
import HandS.Wide
import HandS.Defaults
import HandS.MakeKw
import HandS.MakeKwOnly
import HandS.Exc
import HandS.WordsExc
import HandS.IsInst
import HandS.FStr
import HandS.Style
import HandS.Codes
import HandS.NoneIn
import PyProof.LongRange
import HandS.Walk
import HandS.Zip
import PyProof.P3Eq
import PyProof.EqLayable
import KE.KTupSum
import HandS.SortInts
import HandS.Deep
import HandS.Iter
import PySem.Challenge.RW_meanmoon_k42_near_rounds
set_option Elab.async false
set_option linter.all false
set_option maxRecDepth 100000
set_option maxHeartbeats 4000000
namespace MM
/-! fractions as Rat: the program's and the law's lowest terms are num and den -/
theorem gcd_fmod (a b : Int) : Int.gcd b (a.fmod b) = Int.gcd a b := by
  have h : a.fmod b = a - b * a.fdiv b := by have := Int.mul_fdiv_add_fmod a b; omega
  rw [h, Int.gcd_comm a b]
  rw [Int.sub_eq_add_neg, ← Int.mul_neg, Int.gcd_add_mul_left_right]
theorem gcd_emod' (a b : Int) : Int.gcd b (a % b) = Int.gcd a b := by
  have h : a % b = a - b * (a / b) := by have := Int.mul_ediv_add_emod a b; omega
  rw [h, Int.gcd_comm a b]
  rw [Int.sub_eq_add_neg, ← Int.mul_neg, Int.gcd_add_mul_left_right]
theorem fmod_lt (a : Int) {b : Int} (h : b ≠ 0) : (a.fmod b).natAbs < b.natAbs := by
  rcases Int.lt_or_gt_of_ne h with hb | hb
  · have e : a.fmod b = -((-a).fmod (-b)) := by rw [Int.neg_fmod_neg, Int.neg_neg]
    have h1 := Int.fmod_nonneg_of_pos (-a) (show (0 : Int) < -b by omega)
    have h2 := Int.fmod_lt_of_pos (-a) (show (0 : Int) < -b by omega)
    rw [e]
    omega
  · have h1 := Int.fmod_nonneg_of_pos a hb
    have h2 := Int.fmod_lt_of_pos a hb
    omega
theorem gcd_pos {t b : Int} (h : b ≠ 0) : 0 < Int.gcd t b := Int.gcd_pos_of_ne_zero_right t h
/-- the divisor that makes lowest terms -/
def gs (t b : Int) : Int := if b < 0 then -(Int.gcd t b : Int) else (Int.gcd t b : Int)
theorem gs_ne {t b : Int} (h : b ≠ 0) : gs t b ≠ 0 := by
  have := gcd_pos (t := t) h
  unfold gs
  split <;> omega
theorem low_num {t b : Int} (h : b ≠ 0) : t.fdiv (gs t b) = (Rat.divInt t b).num := by
  have hg := gcd_pos (t := t) h
  rw [Rat.num_divInt, Int.gcd_comm b t]
  unfold gs
  split
  · rename_i hb
    rw [Int.sign_eq_neg_one_of_neg hb, Int.neg_one_mul]
    rw [← Int.neg_fdiv_neg, Int.neg_neg, Int.fdiv_eq_ediv_of_nonneg _ (by omega)]
  · rw [Int.sign_eq_one_of_pos (by omega), Int.one_mul, Int.fdiv_eq_ediv_of_nonneg _ (by omega)]
theorem low_den {t b : Int} (h : b ≠ 0) : b.fdiv (gs t b) = ((Rat.divInt t b).den : Int) := by
  have hg := gcd_pos (t := t) h
  rw [Rat.den_divInt, if_neg h, Int.gcd_comm b t, Int.natCast_ediv]
  unfold gs
  split
  · rename_i hb
    rw [← Int.neg_fdiv_neg, Int.neg_neg, Int.fdiv_eq_ediv_of_nonneg _ (by omega)]
    congr 1
    omega
  · rw [Int.fdiv_eq_ediv_of_nonneg _ (by omega)]
    congr 1
    omega
theorem den_pos (q : Rat) : (0 : Int) < (q.den : Int) := by
  have := q.den_pos
  omega
/-- sizes -/
def Sz (n : Nat) (i : Int) : Prop := i.natAbs < 2 ^ n
def Rz (n : Nat) (q : Rat) : Prop := Sz n q.num ∧ Sz n q.den
theorem Sz.mono {n m : Nat} {i : Int} (h : Sz n i) (l : n ≤ m) : Sz m i := Nat.lt_of_lt_of_le h (Nat.pow_le_pow_right (by decide) l)
theorem Rz.mono {n m : Nat} {q : Rat} (h : Rz n q) (l : n ≤ m) : Rz m q := ⟨h.1.mono l, h.2.mono l⟩
theorem Sz.mul {n m : Nat} {i j : Int} (h : Sz n i) (k : Sz m j) : Sz (n + m) (i * j) := by
  unfold Sz
  rw [Int.natAbs_mul, Nat.pow_add]
  exact Nat.mul_lt_mul'' h k
theorem Sz.add {n m : Nat} {i j : Int} (h : Sz n i) (k : Sz n j) (l : n < m) : Sz m (i + j) := by
  have h' : i.natAbs < 2 ^ n := h
  have k' : j.natAbs < 2 ^ n := k
  have e : 2 ^ (n + 1) ≤ 2 ^ m := Nat.pow_le_pow_right (by decide) l
  rw [Nat.pow_succ] at e
  have z := Int.natAbs_add_le i j
  unfold Sz
  omega
theorem Sz.neg {n : Nat} {i : Int} (h : Sz n i) : Sz n (-i) := by
  unfold Sz
  rw [Int.natAbs_neg]
  exact h
theorem Sz.sub {n m : Nat} {i j : Int} (h : Sz n i) (k : Sz n j) (l : n < m) : Sz m (i - j) := by
  rw [Int.sub_eq_add_neg]
  exact h.add k.neg l
theorem natAbs_ediv_le (a : Int) {b : Nat} : (a / (b : Int)).natAbs ≤ a.natAbs := Int.natAbs_ediv_le_natAbs _ _
theorem Rz.divInt {n : Nat} {t b : Int} (h : Sz n t) (k : Sz n b) (h0 : 0 < n) : Rz n (Rat.divInt t b) := by
  refine ⟨?_, ?_⟩
  · unfold Sz
    rw [Rat.num_divInt]
    refine Nat.lt_of_le_of_lt (Int.natAbs_ediv_le_natAbs _ _) ?_
    rw [Int.natAbs_mul]
    refine Nat.lt_of_le_of_lt ?_ h
    have : b.sign.natAbs ≤ 1 := by
      rcases Int.lt_trichotomy b 0 with z | z | z
      · rw [Int.sign_eq_neg_one_of_neg z]; decide
      · rw [z]; decide
      · rw [Int.sign_eq_one_of_pos z]; decide
    calc b.sign.natAbs * t.natAbs ≤ 1 * t.natAbs := Nat.mul_le_mul_right _ this
      _ = t.natAbs := Nat.one_mul _
  · unfold Sz
    rw [Rat.den_divInt]
    split
    · show 1 < 2 ^ n
      exact Nat.one_lt_two_pow (by omega)
    · rw [Int.natAbs_natCast]
      exact Nat.lt_of_le_of_lt (Nat.div_le_self _ _) k
theorem add_eq (p q : Rat) : p + q = Rat.divInt (p.num * q.den + q.num * p.den) ((p.den : Int) * q.den) := by
  have := Rat.divInt_add_divInt p.num q.num (d₁ := p.den) (d₂ := q.den) (by have := den_pos p; omega) (by have := den_pos q; omega)
  rw [Rat.num_divInt_den, Rat.num_divInt_den] at this
  exact this
theorem sub_eq (p q : Rat) : p - q = Rat.divInt (p.num * q.den - q.num * p.den) ((p.den : Int) * q.den) := by
  rw [Rat.sub_eq_add_neg, add_eq]
  rw [Rat.neg_num, Rat.neg_den, Int.neg_mul, ← Int.sub_eq_add_neg]
theorem mul_eq (p q : Rat) : p * q = Rat.divInt (p.num * q.num) ((p.den : Int) * q.den) := by
  have := Rat.divInt_mul_divInt p.num q.num (d₁ := p.den) (d₂ := q.den)
  rw [Rat.num_divInt_den, Rat.num_divInt_den] at this
  exact this
theorem div_eq (p q : Rat) (h : q ≠ 0) : p / q = Rat.divInt (p.num * q.den) ((p.den : Int) * q.num) := by
  rw [Rat.div_def, mul_eq]
  have hq : q.num ≠ 0 := fun z => h (Rat.num_eq_zero.mp z)
  have e : q⁻¹ = Rat.divInt q.den q.num := by
    have := Rat.inv_divInt q.num q.den
    rw [Rat.num_divInt_den] at this
    exact this
  rw [← mul_eq, e]
  have := Rat.divInt_mul_divInt p.num q.den (d₁ := p.den) (d₂ := q.num)
  rw [Rat.num_divInt_den] at this
  exact this
theorem lt_iff' (p q : Rat) : p < q ↔ p.num * q.den < q.num * p.den := Rat.lt_iff p q
theorem Rz.add {n l m : Nat} {p q : Rat} (h : Rz n p) (k : Rz l q) (hl : n + l < m) : Rz m (p + q) := by
  rw [add_eq]
  exact Rz.divInt (Sz.add (n := n + l) ((h.1.mul k.2).mono (by omega)) ((k.1.mul h.2).mono (by omega)) hl) ((h.2.mul k.2).mono (by omega)) (by omega)
theorem Rz.sub {n l m : Nat} {p q : Rat} (h : Rz n p) (k : Rz l q) (hl : n + l < m) : Rz m (p - q) := by
  rw [sub_eq]
  exact Rz.divInt (Sz.sub (n := n + l) ((h.1.mul k.2).mono (by omega)) ((k.1.mul h.2).mono (by omega)) hl) ((h.2.mul k.2).mono (by omega)) (by omega)
theorem Rz.mul {n l m : Nat} {p q : Rat} (h : Rz n p) (k : Rz l q) (hl : n + l < m) : Rz m (p * q) := by
  rw [mul_eq]
  exact Rz.divInt ((h.1.mul k.1).mono (by omega)) ((h.2.mul k.2).mono (by omega)) (by omega)
theorem Rz.div {n l m : Nat} {p q : Rat} (h : Rz n p) (k : Rz l q) (z : q ≠ 0) (hl : n + l < m) : Rz m (p / q) := by
  rw [div_eq p q z]
  exact Rz.divInt ((h.1.mul k.2).mono (by omega)) ((h.2.mul k.1).mono (by omega)) (by omega)
theorem Rz.int {n : Nat} {i : Int} (h : Sz n i) (h0 : 0 < n) : Rz n (i : Rat) := ⟨h, (by show 1 < 2 ^ n; exact Nat.one_lt_two_pow (by omega))⟩
theorem Sz.floor {n : Nat} {q : Rat} (h : Rz n q) : Sz n q.floor := by
  unfold Sz
  rw [Rat.floor_def]
  exact Nat.lt_of_le_of_lt (Int.natAbs_ediv_le_natAbs _ _) h.1
theorem neg_div_ceil (q : Rat) : -(-q.num / (q.den : Int)) = q.ceil := by
  have := Rat.ceil_eq_neg_floor_neg q
  rw [this, Rat.floor_def, Rat.neg_num, Rat.neg_den]
theorem Rz.neg {n : Nat} {q : Rat} (h : Rz n q) : Rz n (-q) := ⟨by rw [Rat.neg_num]; exact h.1.neg, by rw [Rat.neg_den]; exact h.2⟩
theorem Sz.ceil {n : Nat} {q : Rat} (h : Rz n q) : Sz n q.ceil := by
  rw [Rat.ceil_eq_neg_floor_neg]
  exact (Sz.floor h.neg).neg
theorem Sz.of {n : Nat} {i : Int} (h1 : -(2 ^ n) < i) (h2 : i < 2 ^ n) : Sz n i := by
  unfold Sz
  have e : ((2 ^ n : Nat) : Int) = (2 : Int) ^ n := by simp
  omega
end MM
namespace MM
/-! the calendar's mathematics: floor, ceil, and the steps of months and marks -/
structure Fit (m y : Rat) : Prop where
  one : 1 ≤ m
  between : (m.ceil : Rat) ≤ y / 12
  thirteen : y + 1 ≤ 13 * m
theorem Fit.pos {m y : Rat} (f : Fit m y) : 0 < m := by
  have := f.one
  grind
theorem Fit.ypos {m y : Rat} (f : Fit m y) : 0 < y / 12 := by
  have h1 := f.one
  have h2 := f.between
  have h3 : m ≤ (m.ceil : Rat) := Rat.le_ceil
  grind
def stF (m o : Rat) (k : Int) : Int := (o + k * m).floor
def mdF (y k : Rat) (j : Int) : Int := (k + j * (y / 12)).floor
def maF (m o : Rat) (d : Int) : Int := ((((d + 1 : Int) : Rat) - o) / m).ceil - 1
def jF (y k : Rat) (d : Int) : Int := (((d : Rat) - k) / (y / 12)).ceil
theorem lt_ceil_iff {q : Rat} {i : Int} : i < q.ceil ↔ (i : Rat) < q := by
  have h : q.ceil ≤ i ↔ q ≤ (i : Rat) := Rat.ceil_le_iff
  constructor
  · intro hi
    have : ¬ q.ceil ≤ i := by omega
    rw [h] at this
    exact Rat.not_le.mp this
  · intro hi
    have : ¬ q ≤ (i : Rat) := Rat.not_le.mpr hi
    rw [← h] at this
    omega
theorem floor_le_iff {q : Rat} {i : Int} : q.floor ≤ i ↔ q < ((i + 1 : Int) : Rat) := by
  have h := Rat.floor_lt_iff (a := q) (x := i + 1)
  rw [← h]
  omega
/-- the months up to K begin by the day d -/
theorem st_le {m o : Rat} (hm : 0 < m) {k d : Int} : stF m o k ≤ d ↔ k ≤ maF m o d := by
  unfold stF maF
  rw [floor_le_iff]
  have e : k ≤ ((((d + 1 : Int) : Rat) - o) / m).ceil - 1 ↔ k < ((((d + 1 : Int) : Rat) - o) / m).ceil := by omega
  rw [e, lt_ceil_iff, Rat.lt_div_iff hm]
  constructor <;> intro h <;> grind
theorem ma_of {m o : Rat} (hm : 0 < m) {k d : Int} (h1 : stF m o k ≤ d) (h2 : d < stF m o (k + 1)) : maF m o d = k := by
  have a := (st_le hm).mp h1
  have b : ¬ k + 1 ≤ maF m o d := fun z => by
    have := (st_le hm).mpr z
    omega
  omega
theorem st_ma {m o : Rat} (hm : 0 < m) (d : Int) : stF m o (maF m o d) ≤ d := (st_le hm).mpr (Int.le_refl _)
theorem ma_st {m o : Rat} (hm : 0 < m) (d : Int) : d < stF m o (maF m o d + 1) := by
  have : ¬ stF m o (maF m o d + 1) ≤ d := fun z => by
    have := (st_le hm).mp z
    omega
  omega
theorem cast_add1 (k : Int) : ((k + 1 : Int) : Rat) = (k : Rat) + 1 := by
  rw [Rat.intCast_add]
  rfl
theorem st_step {m o : Rat} (hm : 1 ≤ m) (k : Int) : stF m o k + 1 ≤ stF m o (k + 1) := by
  unfold stF
  rw [Rat.le_floor_iff, cast_add1, cast_add1]
  have h := Rat.floor_le (o + (k : Rat) * m)
  grind
theorem md_lt {y k : Rat} (hy : 0 < y / 12) {j d : Int} : mdF y k j < d ↔ j < jF y k d := by
  unfold mdF jF
  rw [Rat.floor_lt_iff, lt_ceil_iff, Rat.lt_div_iff hy]
  constructor <;> intro h <;> grind
theorem md_ge {y k : Rat} (hy : 0 < y / 12) (d : Int) : d ≤ mdF y k (jF y k d) := by
  have : ¬ mdF y k (jF y k d) < d := fun z => by
    have := (md_lt hy).mp z
    omega
  omega
/-- of two months in a row one has a mark -/
theorem two_months {m y o k : Rat} (f : Fit m y) (i : Int) : mdF y k (jF y k (stF m o (i - 1))) < stF m o (i + 1) := by
  have hy := f.ypos
  have h1 : mdF y k (jF y k (stF m o (i - 1)) - 1) < stF m o (i - 1) := (md_lt hy).mpr (by omega)
  unfold mdF at h1 ⊢
  rw [Rat.floor_lt_iff] at h1 ⊢
  have e1 : ((jF y k (stF m o (i - 1)) - 1 : Int) : Rat) = (jF y k (stF m o (i - 1)) : Rat) - 1 := by rw [Rat.intCast_sub]; rfl
  rw [e1] at h1
  have h2 : ((stF m o (i - 1) : Int) : Rat) ≤ o + ((i - 1 : Int) : Rat) * m := Rat.floor_le _
  have h3 : o + ((i + 1 : Int) : Rat) * m - 1 < ((stF m o (i + 1) : Int) : Rat) := Rat.lt_floor
  have e2 : ((i - 1 : Int) : Rat) = (i : Rat) - 1 := by rw [Rat.intCast_sub]; rfl
  rw [e2] at h2
  rw [cast_add1] at h3
  have a := f.one
  have b := f.thirteen
  have c : y / 12 ≤ 2 * m - 1 := by grind
  grind
theorem k0_le {m o : Rat} (hm : 0 < m) (d : Int) : (((d : Rat) - o) / m).floor - 1 ≤ maF m o d := by
  have h : ((((d : Rat) - o) / m).floor - 1) < ((((d + 1 : Int) : Rat) - o) / m).ceil := by
    rw [lt_ceil_iff, Rat.intCast_sub]
    have h1 := Rat.floor_le (((d : Rat) - o) / m)
    have h2 : ((d : Rat) - o) / m < (((d + 1 : Int) : Rat) - o) / m := by
      rw [cast_add1, Rat.lt_div_iff hm, Rat.div_mul_cancel (by grind)]
      grind
    have h3 : ((1 : Int) : Rat) = 1 := rfl
    grind
  unfold maF
  omega
theorem j0_le {y k : Rat} (d : Int) : (((d : Rat) - k) / (y / 12)).floor - 1 ≤ jF y k d := by
  have h : (((d : Rat) - k) / (y / 12)).floor ≤ (((d : Rat) - k) / (y / 12)).ceil := Rat.intCast_le_intCast.mp (Rat.le_trans (Rat.floor_le _) Rat.le_ceil)
  unfold jF
  omega
end MM
namespace MM
theorem floor_divInt {t b : Int} (hb : 0 < b) : (Rat.divInt t b).floor = t / b := by
  rw [Rat.floor_def]
  have h := Rat.num_divInt_den (Rat.divInt t b)
  have hd := den_pos (Rat.divInt t b)
  rw [Rat.divInt_eq_divInt_iff (by omega) (by omega)] at h
  have e1 : t / b = (t * ((Rat.divInt t b).den : Int)) / (b * ((Rat.divInt t b).den : Int)) := (Int.mul_ediv_mul_of_pos_left _ _ hd).symm
  rw [e1, ← h, Int.mul_comm b, Int.mul_ediv_mul_of_pos_left _ _ hb]
theorem inv_eq (q : Rat) : q⁻¹ = Rat.divInt q.den q.num := by
  have := Rat.inv_divInt q.num q.den
  rw [Rat.num_divInt_den] at this
  exact this
theorem div12 (x y : Rat) (hy : y ≠ 0) : Rat.divInt (x.num * 12 * y.den) ((x.den : Int) * y.num) = x / (y / 12) := by
  have e : x / (y / 12) = x * 12 * y⁻¹ := by grind
  rw [e, inv_eq]
  have h1 : x * 12 = Rat.divInt (x.num * 12) ((x.den : Int) * 1) := by
    have h := Rat.divInt_mul_divInt x.num 12 (d₁ := x.den) (d₂ := 1)
    rw [Rat.num_divInt_den] at h
    exact h
  rw [h1, Rat.divInt_mul_divInt, Int.mul_one]
theorem Sz.between {n : Nat} {a x b : Int} (ha : Sz n a) (hb : Sz n b) (h1 : a ≤ x) (h2 : x ≤ b) : Sz n x := by
  unfold Sz at *
  omega
theorem Fit.ypos' {m y : Rat} (f : Fit m y) : 0 < y := by
  have := f.ypos
  grind
theorem num_pos {q : Rat} (h : 0 < q) : 0 < q.num := by
  have := (lt_iff' 0 q).mp h
  rw [show (0 : Rat).num = 0 from rfl, show (0 : Rat).den = 1 from rfl] at this
  omega
end MM
namespace MM
theorem unit_divInt {t b : Int} (h0 : 0 ≤ t) (h1 : t ≤ b) (hb : 0 < b) : 0 ≤ Rat.divInt t b ∧ Rat.divInt t b ≤ 1 := by
  have hb' : (0 : Rat) < (b : Rat) := Rat.intCast_lt_intCast.mpr hb
  have h0' : (0 : Rat) ≤ (t : Rat) := Rat.intCast_le_intCast.mpr h0
  have h1' : (t : Rat) ≤ (b : Rat) := Rat.intCast_le_intCast.mpr h1
  rw [Rat.divInt_eq_div]
  have e : (t : Rat) / (b : Rat) * (b : Rat) = t := Rat.div_mul_cancel (by grind)
  refine ⟨?_, ?_⟩
  · apply Rat.not_lt.mp
    intro z
    have := Rat.mul_lt_mul_of_pos_right z hb'
    grind
  · apply Rat.not_lt.mp
    intro z
    have := Rat.mul_lt_mul_of_pos_right z hb'
    grind
theorem cast_sub1 (w : Int) : ((w - 1 : Int) : Rat) = (w : Rat) - 1 := by
  rw [Rat.intCast_sub]
  rfl
theorem cast_12 (w : Int) : ((12 * w : Int) : Rat) = 12 * (w : Rat) := by
  rw [Rat.intCast_mul]
  rfl
/-- the law's drawn month and year make a calendar -/
theorem fit_drawn {w : Int} (hw : 1 ≤ w) {s r : Rat} (s0 : 0 ≤ s) (s1 : s ≤ 1) (r0 : 0 ≤ r) (r1 : r ≤ 1) :
    Fit ((((12 * w + 1 : Int) : Rat) + s * ((w - 1 : Int) : Rat)) * Rat.divInt 1 13) (((12 * w : Int) : Rat) + r * s * ((w - 1 : Int) : Rat)) := by
  have hW : (1 : Rat) ≤ (w : Rat) := Rat.intCast_le_intCast.mpr hw
  rw [cast_add1, cast_12, cast_sub1, Rat.divInt_eq_div]
  have a0 : 0 ≤ s * ((w : Rat) - 1) := Rat.mul_nonneg s0 (by grind)
  have a1 : s * ((w : Rat) - 1) ≤ 1 * ((w : Rat) - 1) := Rat.mul_le_mul_of_nonneg_right s1 (by grind)
  have b0 : 0 ≤ r * (s * ((w : Rat) - 1)) := Rat.mul_nonneg r0 a0
  have b1 : r * (s * ((w : Rat) - 1)) ≤ 1 * (s * ((w : Rat) - 1)) := Rat.mul_le_mul_of_nonneg_right r1 a0
  have e : r * s * ((w : Rat) - 1) = r * (s * ((w : Rat) - 1)) := Rat.mul_assoc _ _ _
  rw [e]
  have c1 : ((1 : Int) : Rat) = 1 := rfl
  have c13 : ((13 : Int) : Rat) = 13 := rfl
  rw [c1, c13]
  generalize s * ((w : Rat) - 1) = z at *
  generalize r * z = u at *
  refine ⟨by grind, ?_, by grind⟩
  have h : ((12 * (w : Rat) + 1 + z) * (1 / 13)).ceil ≤ w := Rat.ceil_le_iff.mpr (by grind)
  have h' : (((12 * (w : Rat) + 1 + z) * (1 / 13)).ceil : Rat) ≤ (w : Rat) := Rat.intCast_le_intCast.mpr h
  grind
end MM
namespace MM
open PySem PySem.Spec PyProof.Rows L2
/-! ### defs and their calls -/
/-- a def of the module under its name, with its defaults -/
structure Df (K : PySem.W.Frag) (mg : Str → Option Value) (x : Str) (st : Stmt) (dvs : List V) : Prop where
  ex : ∃ (f : Addr) (fd : FuncData), FunD K x x (defArgs st) (defBody st) (defScope st) dvs [] f fd ∧ mg x = some (.ref f)
/-- what is known of a def that is called: its promise, how it is bound -/
structure Ca (P : Program) (w : World) (K : PySem.W.Frag) (mg : Str → Option Value) (base : Heap) (CX : CXT) (k : Nat) (x : Str) (st : Stmt) (dvs : List V) (ps : List Str) (sp : Sp) : Prop where
  ex : ∃ (f : Addr) (fd : FuncData), FunD K x x (defArgs st) (defBody st) (defScope st) dvs [] f fd ∧ mg x = some (.ref f) ∧ FnOk P w K mg base CX k f fd ps sp
/-- the parameters of a def, all given by place -/
def Bd (x qual : Str) (st : Stmt) (ps : List Str) : Prop := ∀ (kV doc pm : Value) (an : Option Addr) (cdv ct : Value) (us : List Value), us.length = ps.length →
  bindArgs (PySem.W.fnOf x qual (defArgs st) (defBody st) (defScope st) .none kV doc pm an cdv ct) ⟨us, []⟩ = pure (ps.zip us)
section
variable {P : Program} {w : World} {K : PySem.W.Frag} {mg : Str → Option Value} {base : Heap} {x : Str} {st : Stmt} {dvs : List V} {N ps : List Str} {k : Nat} {sp : Sp}
theorem ca0 (D : Df K mg x st dvs) (S : FnScope N ps (defScope st)) (len : ∀ vs H Q E, sp vs H Q E → vs.length = ps.length)
    (body : ∀ (f : Addr) (cdv : Value) (A : Around) (outer : List Env) (s : Shared) (H : Hp) (vs : List V) (Q : VK) (E : XK), Room k (A.deeper (envOfC x (defScope st) s.heap.objs.size f cdv)) → sp vs H Q E →
      ∃ t, PSs (cxOf CX0 P w K mg base N x (defScope st) f cdv A outer s H E).nox (defBody st) t ∧ t { nx := fun _ H' => Q .non H', rt := Q } (start N vs) H) : Ca P w K mg base CX0 (k + 1) x st dvs ps sp := by
  obtain ⟨f, fd, F, hm⟩ := D.ex
  refine ⟨f, fd, F, hm, F.ok S len fun cdv A outer s H vs Q E hr h => ?_⟩
  obtain ⟨t, h1, h2⟩ := body f cdv A outer s H vs Q E hr h
  exact ⟨t, h1.nox, h2⟩
theorem caX (D : Df K mg x st dvs) (S : FnScope N ps (defScope st)) (len : ∀ vs H Q E, sp vs H Q E → vs.length = ps.length)
    (body : ∀ (f : Addr) (cdv : Value) (A : Around) (outer : List Env) (s : Shared) (H : Hp) (vs : List V) (Q : VK) (E : XK), Room k (A.deeper (envOfC x (defScope st) s.heap.objs.size f cdv)) → sp vs H Q E →
      ∃ t, PSs (cxOf (L2.CX P w) P w K mg base N x (defScope st) f cdv A outer s H E) (defBody st) t ∧ t { nx := fun _ H' => Q .non H', rt := Q } (start N vs) H) : Ca P w K mg base (L2.CX P w) (k + 1) x st dvs ps sp := by
  obtain ⟨f, fd, F, hm⟩ := D.ex
  exact ⟨f, fd, F, hm, F.ok S len fun cdv A outer s H vs Q E hr h => body f cdv A outer s H vs Q E hr h⟩
theorem FunD.none {qual : Str} {params : Arguments} {bodyS : List Stmt} {scope : Scope} {f : Addr} {fd : FuncData} (F : FunD K x qual params bodyS scope [] [] f fd) :
    ∃ (kV doc pm : Value) (an : Option Addr) (cdv ct : Value), fd = PySem.W.fnOf x qual params bodyS scope .none kV doc pm an cdv ct := by
  obtain ⟨oc, od, dV, kV, doc, pm, an, cdv, ct, osl, rfl, lk, hcd, hD, hK⟩ := F.ex
  rcases hD with ⟨_, rfl⟩ | ⟨e, _⟩
  · exact ⟨kV, doc, pm, an, cdv, ct, rfl⟩
  · exact absurd rfl e
end
section
variable {X : Cx} {CX : CXT} {k j n : Nat} {C : Addr} {x m : Str} {st : Stmt} {sp : Sp} {ps ks : List Str} {dvs : List V} {E : XK} {p pos apos : Pos} {e o : Expr} {es : List Expr} {kws : List Keyword} {ta : TE} {t tk : TA}
/-- f(e, ..), all parameters by place -/
theorem pe_ca (c : Ca X.prog X.w X.K X.mg X.base CX k x st [] ps sp) (b : Bd x x st ps) (hr : Room j X.A) (hk : k ≤ j) (hx : Passes CX X E) (hg : Gl X x) (ha : PA X (e :: es) t)
    (hdb : (x == ("__debug__" : Str)) = false := by decide) (he : starEach (e :: es) X.env = (false, eval e X.env) :: starEach es X.env := by rfl) (hpl : (backTo pos (starEach es X.env)).any (·.1) = false := by rfl) :
    PE X (.Call (.Name x p) (e :: es) [] pos) (tCall sp [] E t) := by
  obtain ⟨f, fd, F, hm, G⟩ := c.ex
  exact pe_call G (hr.mono hk) hg hm F.kp (F.bindsN b) .nil hx ha hdb he hpl
/-- how keywords bind where there is no default: g puts the places' values and the keywords' in order -/
structure Kb (x : Str) (st : Stmt) (n : Nat) (ks ps : List Str) (g : {α : Type} → List α → List α → List α) : Prop where
  bind : ∀ (kV doc pm : Value) (an : Option Addr) (cdv ct : Value) (us ws : List Value), us.length = n → ws.length = ks.length →
    bindArgs (PySem.W.fnOf x x (defArgs st) (defBody st) (defScope st) .none kV doc pm an cdv ct) ⟨us, ks.zip ws⟩ = pure (ps.zip (g us ws))
  rel : ∀ {vs zs : List V} {us ws : List Value}, vs.length = n → zs.length = ks.length → Vals vs us → Vals zs ws → Vals (g vs zs) (g us ws)
/-- f(k = v, ..) of a def without defaults -/
theorem pe_caK {g : {α : Type} → List α → List α → List α} (c : Ca X.prog X.w X.K X.mg X.base CX k x st [] ps sp) (b : Kb x st 0 ks ps g) (hr : Room j X.A) (hk : k ≤ j) (hx : Passes CX X E) (hg : Gl X x) (hkw : PK X kws tk)
    (hall : (backToKw pos (keywordEach kws X.env)).all (·.1.isSome) = true := by rfl) (hks : (backToKw pos (keywordEach kws X.env)).filterMap (·.1) = ks := by rfl) (hdb : (x == ("__debug__" : Str)) = false := by decide)
    (hpl : ((backTo pos (starEach [] X.env)).any (·.1) || (backToKw pos (keywordEach kws X.env)).any (·.1.isNone)) = false := by rfl) :
    PE X (.Call (.Name x p) [] kws pos) (fun σ H Q => tk σ H fun zs H2 => zs.length = ks.length ∧ sp (g [] zs) H2 Q E) := by
  obtain ⟨f, fd, F, hm, G⟩ := c.ex
  obtain ⟨kV, doc, pm, an, cdv, ct, rfl⟩ := FunD.none F
  refine ⟨fun pins s σ H Q I h => ?_⟩
  refine wpAny_Call_Name_kw (ld_glob I hg hm ?_ hdb)
  refine PySem.W.callWith_KW0 (h₀ := X.base) I.ok.mod.kin F.kp hall ?_ hpl
  refine thn (hkw.run pos pins s σ H _ I h) fun ws s2 ⟨zs, H2, I2, rz, l2, q2⟩ => ⟨I2.kIn, ?_⟩
  rw [hks]
  have r2 : Vals (g [] zs) (g [] ws) := b.rel rfl l2 .nil rz
  refine wpAny_call (codeAny_mono (G.run X.A X.stack s2 H2 ⟨[], ks.zip ws⟩ (g [] ws) (g [] zs) Q E (hr.mono hk) I2.env0 (.of_eq (b.bind kV doc pm an cdv ct [] ws rfl (rz.length.symm.trans l2))) r2 q2) fun r s' hq => ?_)
  match r, hq with
  | .error e, hq => exact hx pins σ H2 s2 e s' I2 hq
  | .ok (.ret u), hq => exact I2.after hq
  | .ok .next, hq => exact False.elim hq
  | .ok .brk, hq => exact False.elim hq
  | .ok .cont, hq => exact False.elim hq
end
/-! ### whole numbers -/
section
variable {X : Cx}
/-- // by any divisor but 0 -/
def CDivA (_ j : Int) : Prop := j ≠ 0 ∧ Sz 8900 j
theorem op_fdivA : OpR X (binaryOp .FloorDiv) (rI CDivA fun i j => .int (i.fdiv j)) := opI fun i j _ _ _ _ _ hc q =>
  PyProof.Rows.floordiv_int hc.1 q (.inl (PyProof.noPylong_of_log2 (Nat.lt_of_lt_of_le (PySem.Flt.log2_lt_of (by decide) hc.2) (by decide))))
/-- * of two numbers of some thousand bits -/
def CMulA (i j : Int) : Prop := Sz 100000 i ∧ Sz 100000 j
theorem op_mulA : OpR X (binaryOp .Mult) (rI CMulA fun i j => .int (i * j)) := opI fun i j _ _ _ _ _ hc q =>
  PyProof.Rows.mul_int q (CMulW.ok (wide_mul hc.1 hc.2 (by decide) (by decide) (by decide)))
end
/-! ### a pick out of a written list -/
theorem pick {α : Type} {xs : List α} {z : Int} {P : α → Prop} (h0 : 0 ≤ z) (h1 : z < xs.length) (h : ∀ x ∈ xs, P x) : ∃ v, atI xs z = some v ∧ P v := by
  have hl : z.toNat < xs.length := by omega
  refine ⟨xs[z.toNat], ?_, h _ (List.getElem_mem hl)⟩
  unfold atI ixN
  rw [if_pos h0, if_pos h1]
  exact List.getElem?_eq_getElem hl
end MM
namespace MM
open PySem PySem.Spec PyProof.Rows L2
/-- what binds where some parameters have defaults: n given by place, the defaults from the j-th on fill up -/
def Bd1 (x qual : Str) (st : Stmt) (ps : List Str) (n j m : Nat) : Prop := ∀ (T : Addr) (kV doc pm : Value) (an : Option Addr) (cdv ct : Value) (us its : List Value), us.length = n → its.length = m →
  ∃ k, bindArgs (PySem.W.fnOf x qual (defArgs st) (defBody st) (defScope st) (.ref T) kV doc pm an cdv ct) ⟨us, []⟩ = seqItems? (.ref T) >>= k ∧ k (some its.toArray) = pure (ps.zip (us ++ its.drop j))
/-- the __init__ of a class -/
structure Di (K : PySem.W.Frag) (mg : Str → Option Value) (x : Str) (C : Addr) (qual : Str) (st : Stmt) (dvs : List V) : Prop where
  ex : ∃ (f : Addr) (fd : FuncData), FunD K "__init__" qual (defArgs st) (defBody st) (defScope st) dvs [] f fd ∧ Mk K C f ∧ mg x = some (.ref C)
structure Ci (P : Program) (w : World) (K : PySem.W.Frag) (mg : Str → Option Value) (base : Heap) (CX : CXT) (k : Nat) (x : Str) (C : Addr) (qual : Str) (st : Stmt) (dvs : List V) (ps : List Str) (sp : Sp) : Prop where
  ex : ∃ (f : Addr) (fd : FuncData), FunD K "__init__" qual (defArgs st) (defBody st) (defScope st) dvs [] f fd ∧ Mk K C f ∧ mg x = some (.ref C) ∧ FnOk P w K mg base CX k f fd ps sp
/-- a method of a class -/
structure Dm (K : PySem.W.Frag) (C : Addr) (m qual : Str) (st : Stmt) : Prop where
  ex : ∃ (f : Addr) (fd : FuncData), FunD K m qual (defArgs st) (defBody st) (defScope st) [] [] f fd ∧ Meth K C m f ∧ Cls K C
structure Cm (P : Program) (w : World) (K : PySem.W.Frag) (mg : Str → Option Value) (base : Heap) (CX : CXT) (k : Nat) (C : Addr) (m qual : Str) (st : Stmt) (ps : List Str) (sp : Sp) : Prop where
  ex : ∃ (f : Addr) (fd : FuncData), FunD K m qual (defArgs st) (defBody st) (defScope st) [] [] f fd ∧ Meth K C m f ∧ Cls K C ∧ FnOk P w K mg base CX k f fd ps sp
section
variable {P : Program} {w : World} {K : PySem.W.Frag} {mg : Str → Option Value} {base : Heap} {x m qual : Str} {C : Addr} {st : Stmt} {dvs : List V} {N ps : List Str} {k : Nat} {sp : Sp}
theorem ci0 (D : Di K mg x C qual st dvs) (S : FnScope N ps (defScope st)) (len : ∀ vs H Q E, sp vs H Q E → vs.length = ps.length)
    (body : ∀ (f : Addr) (cdv : Value) (A : Around) (outer : List Env) (s : Shared) (H : Hp) (vs : List V) (Q : VK) (E : XK), Room k (A.deeper (envOfC qual (defScope st) s.heap.objs.size f cdv)) → sp vs H Q E →
      ∃ t, PSs (cxOf CX0 P w K mg base N qual (defScope st) f cdv A outer s H E).nox (defBody st) t ∧ t { nx := fun _ H' => Q .non H', rt := Q } (start N vs) H) : Ci P w K mg base CX0 (k + 1) x C qual st dvs ps sp := by
  obtain ⟨f, fd, F, M, hm⟩ := D.ex
  refine ⟨f, fd, F, M, hm, F.ok S len fun cdv A outer s H vs Q E hr h => ?_⟩
  obtain ⟨t, h1, h2⟩ := body f cdv A outer s H vs Q E hr h
  exact ⟨t, h1.nox, h2⟩
theorem ciX (D : Di K mg x C qual st dvs) (S : FnScope N ps (defScope st)) (len : ∀ vs H Q E, sp vs H Q E → vs.length = ps.length)
    (body : ∀ (f : Addr) (cdv : Value) (A : Around) (outer : List Env) (s : Shared) (H : Hp) (vs : List V) (Q : VK) (E : XK), Room k (A.deeper (envOfC qual (defScope st) s.heap.objs.size f cdv)) → sp vs H Q E →
      ∃ t, PSs (cxOf (L2.CX P w) P w K mg base N qual (defScope st) f cdv A outer s H E) (defBody st) t ∧ t { nx := fun _ H' => Q .non H', rt := Q } (start N vs) H) : Ci P w K mg base (L2.CX P w) (k + 1) x C qual st dvs ps sp := by
  obtain ⟨f, fd, F, M, hm⟩ := D.ex
  exact ⟨f, fd, F, M, hm, F.ok S len fun cdv A outer s H vs Q E hr h => body f cdv A outer s H vs Q E hr h⟩
theorem cm0 (D : Dm K C m qual st) (S : FnScope N ps (defScope st)) (len : ∀ vs H Q E, sp vs H Q E → vs.length = ps.length)
    (body : ∀ (f : Addr) (cdv : Value) (A : Around) (outer : List Env) (s : Shared) (H : Hp) (vs : List V) (Q : VK) (E : XK), Room k (A.deeper (envOfC qual (defScope st) s.heap.objs.size f cdv)) → sp vs H Q E →
      ∃ t, PSs (cxOf CX0 P w K mg base N qual (defScope st) f cdv A outer s H E).nox (defBody st) t ∧ t { nx := fun _ H' => Q .non H', rt := Q } (start N vs) H) : Cm P w K mg base CX0 (k + 1) C m qual st ps sp := by
  obtain ⟨f, fd, F, M, hc⟩ := D.ex
  refine ⟨f, fd, F, M, hc, F.ok S len fun cdv A outer s H vs Q E hr h => ?_⟩
  obtain ⟨t, h1, h2⟩ := body f cdv A outer s H vs Q E hr h
  exact ⟨t, h1.nox, h2⟩
end
section
variable {X : Cx} {CX : CXT} {k j n d : Nat} {C : Addr} {x m qual : Str} {st : Stmt} {sp : Sp} {ps ks : List Str} {dvs : List V} {E : XK} {p pos apos : Pos} {e o : Expr} {es : List Expr} {kws : List Keyword} {ta : TE} {t tk : TA}
/-- C(e, ..): n values, then the defaults from the d-th on; n counts self too -/
theorem pe_ci (c : Ci X.prog X.w X.K X.mg X.base CX k x C qual st dvs ps sp) (b : Bd1 "__init__" qual st ps n d dvs.length) (hd : dvs ≠ []) (hn : n + (dvs.length - d) = ps.length) (hr : Room j X.A) (hk : k + 1 ≤ j) (hx : Passes CX X E) (hg : Gl X x) (ha : PA X (e :: es) t)
    (hdb : (x == ("__debug__" : Str)) = false := by decide) (he : starEach (e :: es) X.env = (false, eval e X.env) :: starEach es X.env := by rfl) (hpl : (backTo pos (starEach es X.env)).any (·.1) = false := by rfl) :
    PE X (.Call (.Name x p) (e :: es) [] pos) (tMake C sp (dvs.drop d) E t) := by
  obtain ⟨f, fd, F, M, hm, G⟩ := c.ex
  obtain ⟨ds, r, bb⟩ := F.binds1 n d hd hn b
  exact pe_make M G (hr.mono hk) hg hm bb r hx ha hdb he hpl
/-- o.m(e, ..) -/
theorem pe_cm {pl : Sem Bool} (c : Cm X.prog X.w X.K X.mg X.base CX k C m qual st ps sp) (b : Bd m qual st ps) (hr : Room j X.A) (hk : k ≤ j) (hx : Passes CX X E) (he : PE X o ta) (ha : PA X (e :: es) t)
    (hst : starEach (e :: es) X.env = (false, eval e X.env) :: starEach es X.env := by rfl) (hpl : (backTo pos (starEach es X.env)).any (·.1) = false := by rfl)
    (ht : eval (.Call (.Attribute o m apos) (e :: es) [] pos) X.env = (eval o X.env >>= fun ov => standAt apos.atName >>= fun _ => holding [ov] (getMethod ov m pl) >>= fun q => callWith pos q.1 q.2 (backTo pos (starEach (e :: es) X.env)) (backToKw pos (keywordEach [] X.env))) := by rfl) :
    PE X (.Call (.Attribute o m apos) (e :: es) [] pos) (tMeth C m sp [] E ta t) := by
  obtain ⟨f, fd, F, M, hc, G⟩ := c.ex
  exact pe_meth (pl := pl) he hc M G (hr.mono hk) (F.bindsN b) .nil hx ha hst hpl ht
/-- how keywords bind in a method, or a def, without defaults -/
structure Kbm (x qual : Str) (st : Stmt) (n : Nat) (ks ps : List Str) (g : {α : Type} → List α → List α → List α) : Prop where
  bind : ∀ (kV doc pm : Value) (an : Option Addr) (cdv ct : Value) (us ws : List Value), us.length = n → ws.length = ks.length →
    bindArgs (PySem.W.fnOf x qual (defArgs st) (defBody st) (defScope st) .none kV doc pm an cdv ct) ⟨us, ks.zip ws⟩ = pure (ps.zip (g us ws))
  rel : ∀ {vs zs : List V} {us ws : List Value}, vs.length = n → zs.length = ks.length → Vals vs us → Vals zs ws → Vals (g vs zs) (g us ws)
/-- o.m(k = v, ..) -/
theorem pe_cmK {pl : Sem Bool} {g : {α : Type} → List α → List α → List α} (c : Cm X.prog X.w X.K X.mg X.base CX k C m qual st ps sp) (b : Kbm m qual st 1 ks ps g) (hr : Room j X.A) (hk : k ≤ j) (hx : Passes CX X E) (he : PE X o ta) (hkw : PK X kws tk)
    (hall : (backToKw pos (keywordEach kws X.env)).all (·.1.isSome) = true := by rfl) (hks : (backToKw pos (keywordEach kws X.env)).filterMap (·.1) = ks := by rfl)
    (hpl : ((backTo pos (starEach [] X.env)).any (·.1) || (backToKw pos (keywordEach kws X.env)).any (·.1.isNone)) = false := by rfl)
    (ht : eval (.Call (.Attribute o m apos) [] kws pos) X.env = (eval o X.env >>= fun ov => standAt apos.atName >>= fun _ => holding [ov] (getMethod ov m pl) >>= fun q => callWith pos q.1 q.2 (backTo pos (starEach [] X.env)) (backToKw pos (keywordEach kws X.env))) := by rfl) :
    PE X (.Call (.Attribute o m apos) [] kws pos) (fun σ H Q => ta σ H fun x H1 => ∃ a dx fs, x = .ref a ∧ H1 a = some (.ins C dx fs) ∧ fs.lookup m = none ∧ tk σ H1 fun zs H2 => zs.length = ks.length ∧ sp (g [.ref a] zs) H2 Q E) := by
  obtain ⟨f, fd, F, M, hc, G⟩ := c.ex
  obtain ⟨kV, doc, pm, an, cdv, ct, rfl⟩ := FunD.none F
  refine ⟨fun pins s σ H Q I h => ?_⟩
  refine PySem.W.methodCall_KW (pl := pl) (thn (he.run pins s σ H _ I h) fun u s1 ⟨y, H1, I1, ry, a, dx, fs, ey, ea, l, q⟩ => ?_) ht
  subst ey
  obtain rfl : u = Value.ref a := ry
  refine getmeth_ok I1 ea hc M l ?_
  refine PySem.W.callWith_KW0 (first := [.ref a]) (h₀ := X.base) I.ok.mod.kin M.kp hall ?_ hpl
  refine thn (hkw.run pos pins s1 σ H1 _ I1 q) fun ws s2 ⟨zs, H2, I2, rz, l2, q2⟩ => ⟨I2.kIn, ?_⟩
  rw [hks]
  have r2 : Vals (g [V.ref a] zs) (g [Value.ref a] ws) := b.rel rfl l2 (.cons rfl .nil) rz
  refine wpAny_call (codeAny_mono (G.run X.A X.stack s2 H2 ⟨[.ref a], ks.zip ws⟩ (g [.ref a] ws) (g [.ref a] zs) Q E (hr.mono hk) I2.env0 (.of_eq (b.bind kV doc pm an cdv ct [.ref a] ws rfl (rz.length.symm.trans l2))) r2 q2) fun r s' hq => ?_)
  match r, hq with
  | .error e, hq => exact hx pins σ H2 s2 e s' I2 hq
  | .ok (.ret u), hq => exact I2.after hq
  | .ok .next, hq => exact False.elim hq
  | .ok .brk, hq => exact False.elim hq
  | .ok .cont, hq => exact False.elim hq
end
/-- the keywords take their places: one self, the keywords in the parameters' order -/
def g1 {α : Type} : List α → List α → List α := fun us ws => us ++ ws
theorem g1_rel {n m : Nat} {vs zs : List V} {us ws : List Value} (_ : vs.length = n) (_ : zs.length = m) (h : Vals vs us) (k : Vals zs ws) : Vals (g1 vs zs) (g1 us ws) := h.append k
/-- how C(.., k = v, ..) binds where __init__ has defaults -/
structure Kd (qual : Str) (st : Stmt) (dn n : Nat) (ks ps : List Str) (g : {α : Type} → List α → List α → List α → List α) : Prop where
  bind : ∀ (T : Addr) (kV doc pm : Value) (an : Option Addr) (cdv ct : Value) (us its ws : List Value), us.length = n → its.length = dn → ws.length = ks.length →
    ∃ k, bindArgs (PySem.W.fnOf "__init__" qual (defArgs st) (defBody st) (defScope st) (.ref T) kV doc pm an cdv ct) ⟨us, ks.zip ws⟩ = seqItems? (.ref T) >>= k ∧ k (some its.toArray) = pure (ps.zip (g us its ws))
  rel : ∀ {vs ds zs : List V} {us its ws : List Value}, Vals vs us → Vals ds its → Vals zs ws → Vals (g vs ds zs) (g us its ws)
section
variable {X : Cx} {CX : CXT} {k j n d : Nat} {C : Addr} {x m qual : Str} {st : Stmt} {sp : Sp} {ps ks : List Str} {dvs : List V} {E : XK} {p pos apos : Pos} {e o : Expr} {es : List Expr} {kws : List Keyword} {ta : TE} {t tk : TA}
theorem pe_ciK0 {g : {α : Type} → List α → List α → List α → List α} (c : Ci X.prog X.w X.K X.mg X.base CX k x C qual st dvs ps sp) (b : Kd qual st dvs.length 1 ks ps g) (hd : dvs ≠ []) (hr : Room j X.A) (hk : k + 1 ≤ j) (hx : Passes CX X E) (hg : Gl X x) (hkw : PK X kws tk)
    (hall : (backToKw pos (keywordEach kws X.env)).all (·.1.isSome) = true := by rfl) (hks : (backToKw pos (keywordEach kws X.env)).filterMap (·.1) = ks := by rfl) (hdb : (x == ("__debug__" : Str)) = false := by decide)
    (hpl : ((backTo pos (starEach [] X.env)).any (·.1) || (backToKw pos (keywordEach kws X.env)).any (·.1.isNone)) = false := by rfl) :
    PE X (.Call (.Name x p) [] kws pos) (tMakeK C 0 ks.length sp (fun vs zs => g vs dvs zs) E tNil tk) := by
  obtain ⟨f, fd, F, M, hm, G⟩ := c.ex
  obtain ⟨its, hb⟩ := F.kbindsD 1 ks g hd b.rel b.bind
  exact pe_makeK0 M G (hr.mono hk) hg hm hb hx hkw hall hks hdb hpl
theorem pe_ciK {g : {α : Type} → List α → List α → List α → List α} (c : Ci X.prog X.w X.K X.mg X.base CX k x C qual st dvs ps sp) (b : Kd qual st dvs.length (n + 1) ks ps g) (hd : dvs ≠ []) (hr : Room j X.A) (hk : k + 1 ≤ j) (hx : Passes CX X E) (hg : Gl X x) (ha : PA X (e :: es) t) (hkw : PK X kws tk)
    (hall : (backToKw pos (keywordEach kws X.env)).all (·.1.isSome) = true := by rfl) (hks : (backToKw pos (keywordEach kws X.env)).filterMap (·.1) = ks := by rfl) (hdb : (x == ("__debug__" : Str)) = false := by decide)
    (he : starEach (e :: es) X.env = (false, eval e X.env) :: starEach es X.env := by rfl) (hpl : ((backTo pos (starEach (e :: es) X.env)).any (·.1) || (backToKw pos (keywordEach kws X.env)).any (·.1.isNone)) = false := by rfl) :
    PE X (.Call (.Name x p) (e :: es) kws pos) (tMakeK C n ks.length sp (fun vs zs => g vs dvs zs) E t tk) := by
  obtain ⟨f, fd, F, M, hm, G⟩ := c.ex
  obtain ⟨its, hb⟩ := F.kbindsD (n + 1) ks g hd b.rel b.bind
  exact pe_makeK M G (hr.mono hk) hg hm hb hx ha hkw hall hks hdb he hpl
end
end MM
namespace MM
open PySem PySem.Spec PyProof.Rows L2
/-! ### range(a, b) of numbers of any size -/
theorem turn_long {P : Program} {w : World} {K : PySem.W.Frag} {tg : Expr} (it : Addr) (lo : Int) (n : Nat) : Turn P w K tg (Itr lo n) [it] it (fun i h => IsLongIter h it (lo + (i : Nat) * 1) ((n : Int) - (i : Nat)) 1) := by
  refine { mem := List.mem_singleton.mpr rfl, obj := fun i h st b hb => ?_, keep := fun i h h' st k => k it (List.mem_singleton.mpr rfl) _ st, item := ?_, done := ?_, self := fun _ _ _ _ _ st h => wpAny_pyIter_longiter st h }
  · cases List.mem_singleton.mp hb
    exact ⟨_, st, fun v z => nomatch (show Data.fields _ = Data.cell v from z)⟩
  · intro X hP hw hK hc i pins s σ H E I hf st hg
    subst hP; subst hw; subst hK
    obtain ⟨f0, f1, f2, f3, f4, f5⟩ := hf it (List.mem_singleton.mpr rfl)
    refine (Walks.longrange (prog := X.prog) (w := X.w) (I.ok.hd hc) it lo 1 n).item i s _ _ hg st fun v h' tk hv st' kk => ?_
    obtain ⟨t, rfl⟩ := hv
    have J : Inv X pins σ H { s with heap := h', toks := tk } := I.turned (fun b o hb e => kk b o (fun z => hb (List.mem_singleton.mp z)) e) f0 f1 f3 f4 f5
    refine ⟨_, rfl, go_of (s := { s with heap := h', toks := tk }) (n := "longrange_iterator") st' rfl rfl (by decide) ⟨.int (lo + i), H, J, ⟨t, ?_⟩, ⟨rfl, rfl⟩, st', fun b hb => (hf b hb).1⟩⟩
    rw [Int.mul_one]
  · intro X hP hw hK hc i pins s σ H E I hf st hg
    subst hP; subst hw; subst hK
    obtain ⟨f0, f1, f2, f3, f4, f5⟩ := hf it (List.mem_singleton.mpr rfl)
    have hl : n ≤ i := hg
    exact wpAny_pyNext_long_end (I.ok.hd hc) st (by omega) fun h' eb => ⟨rfl, I.turned (t' := s.toks) (fun b o hb e => eb b o hb e) f0 f1 f3 f4 f5⟩
section
variable {X : Cx} {tg : Expr}
theorem long_it {pins : List (Addr × Obj)} {σ : L2.St} {H : Hp} {s : Shared} {R : It → Hp → Prop} {E : Value → Shared → Prop} {lo hi : Int} {t u v : Tok} {tk : Nat} (I : Inv X pins σ H s) (q : R (Itr lo (hi - lo).toNat) H) :
    wpAny (model X.prog X.w) X.A (pyIter (.ref s.heap.objs.size)) (PIE X pins σ tg R) E { s with heap := s.heap.push { cls := .type "range", data := .fields #[.int lo t, .int hi u, .int 1 v] }, toks := tk } := by
  have J : Inv X pins σ H { s with heap := s.heap.push { cls := .type "range", data := .fields #[.int lo t, .int hi u, .int 1 v] }, toks := tk } := I.kept fun b o e => Heap.get?_push_of_some _ e
  have e0 : lo + ((0 : Nat) : Int) * 1 = lo := by simp
  have e1 : (((hi - lo).toNat : Nat) : Int) - ((0 : Nat) : Int) = Builtin.Range.rangeSize lo hi 1 := by
    rw [rangeSize_one]
    split <;> omega
  cases hsm : Builtin.Range.small lo hi 1 with
  | true =>
    refine wpAny_pyIter_range (IsRange.new ..) hsm ⟨_, [_], _, _, H, rfl, J.kept (t' := tk) fun b o e => Heap.get?_push_of_some _ e, turn_range _ lo (hi - lo).toNat, ?_, fun b hb => ?_, q⟩
    · show IsRangeIter _ _ (lo + ((0 : Nat) : Int) * 1) ((((hi - lo).toNat : Nat) : Int) - ((0 : Nat) : Int)) 1
      rw [e0, e1]
      exact Heap.get?_push_size _ rfl
    · cases List.mem_singleton.mp hb
      exact J.fpOk (Nat.le_refl _) (J.hok.fresh (Nat.le_refl _))
  | false =>
    refine wpAny_pyIter_longrange (IsRange.new ..) hsm ⟨_, [_], _, _, H, rfl, J.kept (t' := tk) fun b o e => Heap.get?_push_of_some _ e, turn_long _ lo (hi - lo).toNat, ?_, fun b hb => ?_, q⟩
    · show IsLongIter _ _ (lo + ((0 : Nat) : Int) * 1) ((((hi - lo).toNat : Nat) : Int) - ((0 : Nat) : Int)) 1
      rw [e0, e1]
      exact Heap.get?_push_size _ rfl
    · cases List.mem_singleton.mp hb
      exact J.fpOk (Nat.le_refl _) (J.hok.fresh (Nat.le_refl _))
def iRngA (ta : TA) : TI := fun σ H R => ta σ H fun vs H1 => ∃ i j : Int, vs = [.int i, .int j] ∧ R (Itr i (j - i).toNat) H1
theorem pi_rangeA {a b : Expr} {ta : TA} {p pos : Pos} (hg : Gl X "range") (hm : X.mg "range" = none) (ha : PA X [a, b] ta) (hs : starEach [a, b] X.env = [(false, eval a X.env), (false, eval b X.env)] := by rfl) (hs2 : starEach [b] X.env = [(false, eval b X.env)] := by rfl) :
    PI X tg (.Call (.Name "range" p) [a, b] [] pos) (iRngA ta) := by
  refine ⟨fun pins s σ H R I h => Call_ (ld_blt I hg hm boot_range (PyProof.Rows.callWith_type1 (thn (ha.run pos pins s σ H _ I h) fun us s1 ⟨vs, H1, I1, r1, q1⟩ => ?_) (by rw [hs, hs2]) (by rw [hs2]; rfl)))⟩
  obtain ⟨i, j, e, q⟩ := q1
  subst e
  obtain ⟨u1, u2, rfl, ⟨t, rfl⟩, ⟨t', rfl⟩⟩ := vals2 r1
  exact call_range_2 (long_it I1 q)
end
end MM
namespace MM
open PySem PySem.Spec PyProof.Rows L2
section
variable {K : PySem.W.Frag} {h : Heap} {mg : Str → Option Value} {x m qual : Str} {st : Stmt} {f C T : Addr} {oc kV doc pm cdv ct cT : Value} {od an dT : Option Addr} {osl sT : Array (Option Value)} {nT : Nat}
theorem df_mk (X : K.In h) (G : h.Ns mainGlobals mg) (a : PySem.W.nsIn K mainGlobals x = some (some (.ref f))) (l : K.lookup f = some ⟨oc, od, .func (PySem.W.fnOf x x (defArgs st) (defBody st) (defScope st) .none kV doc pm an cdv ct), osl⟩)
    (c : PySem.W.codeIn K cdv x = true) (k : PySem.W.keepIn K (.ref f) = true) : Df K mg x st [] :=
  ⟨f, _, ⟨⟨oc, od, .none, kV, doc, pm, an, cdv, ct, osl, rfl, l, c, .inl ⟨rfl, rfl⟩, .inl rfl⟩, k⟩, PySem.W.mg_of X G a⟩
theorem dm_mk (cl : Cls K C) (a : PySem.W.findIn K (.ref C) m = some (some (.ref f))) (i : PySem.W.isFn K (.ref f) = true) (l : K.lookup f = some ⟨oc, od, .func (PySem.W.fnOf m qual (defArgs st) (defBody st) (defScope st) .none kV doc pm an cdv ct), osl⟩)
    (c : PySem.W.codeIn K cdv qual = true) (k : PySem.W.keepIn K (.ref f) = true) : Dm K C m qual st :=
  ⟨f, _, ⟨⟨oc, od, .none, kV, doc, pm, an, cdv, ct, osl, rfl, l, c, .inl ⟨rfl, rfl⟩, .inl rfl⟩, k⟩, ⟨a, i, k⟩, cl⟩
theorem di_mk {its : List Value} {dvs : List V} (hC : mg x = some (.ref C)) (a : PySem.W.findIn K (.ref C) "__init__" = some (some (.ref f))) (i : PySem.W.isFn K (.ref f) = true)
    (l : K.lookup f = some ⟨oc, od, .func (PySem.W.fnOf "__init__" qual (defArgs st) (defBody st) (defScope st) (.ref T) kV doc pm an cdv ct), osl⟩) (c : PySem.W.codeIn K cdv qual = true) (k : PySem.W.keepIn K (.ref f) = true)
    (mk : PySem.W.makesIn K C = true) (kc : PySem.W.keepIn K (.ref C) = true) {oT : Obj} (lT : K.lookup T = some oT) (eT : oT.data = .seq its.toArray nT) (r : Vals dvs its) (ne : dvs ≠ []) : Di K mg x C qual st dvs :=
  ⟨f, _, ⟨⟨oc, od, .ref T, kV, doc, pm, an, cdv, ct, osl, rfl, l, c, .inr ⟨ne, T, _, its, nT, rfl, lT, eT, r⟩, .inl rfl⟩, k⟩, ⟨mk, a, i, kc⟩, hC⟩
theorem kit_no {t : Value} (iC : PySem.W.isClsIn K C = true) (tC : PySem.W.typeIn K (.ref C) = some (.type "type")) (ht : (t == Value.ref C) = false) (sI : PySem.W.subIn K t (.ref C) = some false) : PySem.W.kitOne K t (.ref C) = some false := by
  unfold PySem.W.kitOne PySem.W.kitCls
  have iC' : (PySem.W.clsIn K C).isSome = true := iC
  rw [ht, if_neg Bool.false_ne_true]
  show (if ((PySem.W.clsIn K C).isSome && PySem.W.typeIn K (.ref C) == some (.type "type")) = true then PySem.W.subIn K t (.ref C) else none) = some false
  rw [iC', tC, if_pos (by simp)]
  exact sI
theorem fund_inj {params : Arguments} {body : List Stmt} {scope : Scope} {dvs : List V} {kws : List (Str × V)} {fd fd' : FuncData} (F : FunD K x qual params body scope dvs kws f fd) (F' : FunD K x qual params body scope dvs kws f fd') : fd = fd' := by
  obtain ⟨oc, od, dV, kV, doc, pm, an, cdv, ct, osl, e, lk, _⟩ := F.ex
  obtain ⟨oc', od', dV', kV', doc', pm', an', cdv', ct', osl', e', lk', _⟩ := F'.ex
  rw [lk] at lk'
  injection lk' with z
  injection z with z1 z2 z3 z4
  injection z3
end
/-- from the law's promise to what the end of the walk asks -/
theorem fin_of {P : Program} {w : World} {K : PySem.W.Frag} {mg : Str → Option Value} {st : Stmt} {k : Nat} {x : Str} {sp : Sp} {fa : Addr} (hfa : mg "law" = some (.ref fa)) (D : Df K mg "law" st []) (b : Bd "law" "law" st [x])
    (h : ∀ base : Heap, Ca P w K mg base CX0 k "law" st [] [x] sp) :
    ∃ fd : FuncData, (∀ (s : Shared) (u : Value), BindsTo s fd ⟨[u], []⟩ [(x, u)]) ∧ ∀ base : Heap, K.In base → base.Ns mainGlobals mg → FnOk P w K mg base CX0 k fa fd [x] sp := by
  obtain ⟨f, fd, F, hm⟩ := D.ex
  have e := hfa.symm.trans hm
  cases e
  refine ⟨fd, fun s u => ?_, fun base _ _ => ?_⟩
  · obtain ⟨kV, doc, pm, an, cdv, ct, rfl⟩ := FunD.none F
    exact .of_eq (b kV doc pm an cdv ct [u] rfl)
  · obtain ⟨f', fd', F', hm', G⟩ := (h base).ex
    have e' := hm.symm.trans hm'
    cases e'
    have e2 := fund_inj F F'
    subst e2
    exact G
end MM
namespace MM
open PySem PySem.Spec PyProof.Rows L2
theorem no' {A B : Prop} {b : Bool} (hb : b = false) (h : B) : if b = true then A else B := by
  subst hb
  exact iteF h
theorem upd_keep {H H1 : Hp} {D : Addr} {o : HO} (nD : H D = none) (s : Same H H1) : Same H (L2.upd H1 D o) := fun b u e => by
  rw [upd_ne (ne_of_none e nD)]
  exact s b u e
section
variable {J : It} {n : Nat} {G : Hp → Prop} {Y : Nat → Hp → V → Hp → Prop}
/-- a comprehension without a test whose i-th thing has Ps i -/
theorem lc_all (w : Walk J n G Y) (hY : ∀ i H x H', Y i H x H' → Same H H') {g : TG} {te : TE} {vs : List Nat} {σ : L2.St} {H : Hp} {D : Addr} {Qd : Hp → Prop} (nD : H D = none) (hn : n < sizeLine) (Ps : Nat → V → Hp → Prop)
    (hm : ∀ j v H1 H2, Same H1 H2 → Ps j v H1 → Ps j v H2) (hp : ∀ j v H1 acc acc', H1 D = some (.lst acc) → Ps j v H1 → Ps j v (L2.upd H1 D (.lst acc'))) (hG : ∀ H', Same H H' → G H')
    (hs : ∀ i x H1 H2 (R : V → Hp → Prop), i < n → Same H H1 → Y i H1 x H2 → (∀ v H3, Same H2 H3 → Ps i v H3 → R v H3) → g x (wipe σ vs) H2 fun σ2 H3 => wipe σ2 vs = wipe σ vs ∧ te σ2 H3 R)
    (hd : ∀ (us : List V) H', us.length = n → H' D = some (.lst us) → Same H H' → (∀ j v, us[j]? = some v → Ps j v H') → Qd H') :
    ∃ W : Nat → Nat → Hp → Prop, (∃ m, W 0 m (L2.upd H D (.lst []))) ∧ ∀ i m H, W i m H →
      (J.stop i H ∧ Qd H) ∨ (J.go i H ∧ ∃ Nx : Hp → Prop, (∀ H', Nx H' → ∃ m', m' < m ∧ W (i + 1) m' H') ∧ ∀ x H', J.yld i H x H' → g x (wipe σ vs) H' fun σ2 H2 => wipe σ2 vs = wipe σ vs ∧ tYes σ2 H2 fun b H3 =>
        if b = true then te σ2 H3 fun y H4 => ∃ acc, H4 D = some (.lst acc) ∧ acc.length < sizeLine ∧ Nx (L2.upd H4 D (.lst (acc ++ [y]))) else Nx H3) := by
  refine lc_it w (fun i H' => ∃ us : List V, us.length = i ∧ H' D = some (.lst us) ∧ Same H H' ∧ ∀ j v, us[j]? = some v → Ps j v H') ⟨[], rfl, upd_same, upd_keep nD (Same.refl H), fun j v h => by simp at h⟩ (fun i H' _ ⟨_, _, _, s, _⟩ => hG H' s) ?_ (fun H' ⟨us, l, e, s, p⟩ => hd us H' l e s p)
  rintro i x H1 H2 hi ⟨us, hl, e, s, p⟩ y
  refine hs i x H1 H2 _ hi s y fun v H3 s3 pv => ?_
  have s2 := hY _ _ _ _ y
  have e3 := s3 _ _ (s2 _ _ e)
  refine ⟨us, e3, by omega, us ++ [v], by rw [List.length_append, hl]; rfl, upd_same, upd_keep nD (s.trans (s2.trans s3)), fun j u hj => ?_⟩
  by_cases hjl : j < us.length
  · rw [List.getElem?_append_left hjl] at hj
    exact hp _ _ _ _ _ e3 (hm _ _ _ _ (s2.trans s3) (p j u hj))
  · rw [List.getElem?_append_right (by omega)] at hj
    have ej : j = us.length := by
      by_cases hz : j - us.length = 0
      · omega
      · have : ([v] : List V)[j - us.length]? = none := List.getElem?_eq_none_iff.mpr (by simp; omega)
        rw [this] at hj
        cases hj
    subst ej
    rw [Nat.sub_self] at hj
    cases hj
    rw [hl]
    exact hp _ _ _ _ _ e3 pv
/-- a comprehension whose i-th thing is the whole number f i -/
theorem lc_ints (w : Walk J n G Y) (hY : ∀ i H x H', Y i H x H' → Same H H') {g : TG} {te : TE} {vs : List Nat} {σ : L2.St} {H : Hp} {D : Addr} {Qd : Hp → Prop} (nD : H D = none) (hn : n < sizeLine) (f : Nat → Int) (hG : ∀ H', Same H H' → G H')
    (hs : ∀ i x H1 H2 (R : V → Hp → Prop), i < n → Same H H1 → Y i H1 x H2 → (∀ H3, Same H2 H3 → R (.int (f i)) H3) → g x (wipe σ vs) H2 fun σ2 H3 => wipe σ2 vs = wipe σ vs ∧ te σ2 H3 R)
    (hd : ∀ H', H' D = some (.lst (((List.range n).map f).map V.int)) → Same H H' → Qd H') :
    ∃ W : Nat → Nat → Hp → Prop, (∃ m, W 0 m (L2.upd H D (.lst []))) ∧ ∀ i m H, W i m H →
      (J.stop i H ∧ Qd H) ∨ (J.go i H ∧ ∃ Nx : Hp → Prop, (∀ H', Nx H' → ∃ m', m' < m ∧ W (i + 1) m' H') ∧ ∀ x H', J.yld i H x H' → g x (wipe σ vs) H' fun σ2 H2 => wipe σ2 vs = wipe σ vs ∧ tYes σ2 H2 fun b H3 =>
        if b = true then te σ2 H3 fun y H4 => ∃ acc, H4 D = some (.lst acc) ∧ acc.length < sizeLine ∧ Nx (L2.upd H4 D (.lst (acc ++ [y]))) else Nx H3) := by
  refine lc_all w hY nD hn (fun i v _ => v = .int (f i)) (fun _ _ _ _ _ h => h) (fun _ _ _ _ _ _ h => h) hG (fun i x H1 H2 R hi s y k => hs i x H1 H2 R hi s y fun H3 s3 => k _ H3 s3 rfl) fun us H' l e s p => ?_
  have eu : us = ((List.range n).map f).map V.int := by
    refine List.ext_getElem? fun j => ?_
    by_cases hj : j < us.length
    · have h1 := List.getElem?_eq_getElem hj
      rw [h1, p j _ h1]
      rw [List.getElem?_map, List.getElem?_map, List.getElem?_range (by omega)]
      rfl
    · rw [List.getElem?_eq_none_iff.mpr (by omega), List.getElem?_eq_none_iff.mpr (by simp; omega)]
  subst eu
  exact hd H' e s
end
theorem yFn_same {f : Nat → V} : ∀ i H x H', YFn f i H x H' → Same H H' := fun _ _ _ _ h => by rw [h.1]; exact Same.refl _
theorem yAt_same {xs : List V} : ∀ i H x H', YAt xs i H x H' → Same H H' := fun _ _ _ _ h => by rw [h.1]; exact Same.refl _
theorem yPair_same {xs ys : Nat → Option V} : ∀ i H x H', YPair xs ys i H x H' → Same H H' := by
  rintro i H x H' ⟨T, a, b, rfl, nT, rfl, _⟩
  exact upd_keep nT (Same.refl H)
/-! ### lists of whole numbers, compared -/
theorem dps_ints {K : PySem.W.Frag} {H : Hp} : ∀ ns : List Int, DpAll K H (ns.map V.int) (ns.map PyData.int)
  | [] => .nil
  | n :: ns => .cons (.int n) (dps_ints ns)
theorem dp_ints {K : PySem.W.Frag} {H : Hp} {a : Addr} {ns : List Int} (h : H a = some (.lst (ns.map V.int))) : Dp K H (.ref a) (.list (ns.map PyData.int)) := .lst (SqL.of h) (dps_ints ns)
theorem lay_ints : ∀ ns : List Int, PyData.canLayAll0 (ns.map PyData.int) = true
  | [] => rfl
  | n :: ns => by
    rw [List.map_cons, PyData.canLayAll0, lay_ints ns]
    rfl
theorem dep_ints : ∀ ns : List Int, PyData.depthAll (ns.map PyData.int) ≤ 1
  | [] => by simp [PyData.depthAll]
  | n :: ns => by
    have h := dep_ints ns
    simp only [List.map_cons, PyData.depthAll, PyData.depth]
    omega
theorem sh_ints (ns : List Int) : SeqAt.shaped (.list (ns.map PyData.int)) = true := by
  have h := dep_ints ns
  show (PyData.canLay0 (.list (ns.map PyData.int)) && decide (PyData.depth (.list (ns.map PyData.int)) ≤ 64)) = true
  rw [Bool.and_eq_true]
  refine ⟨by simp only [PyData.canLay0]; exact lay_ints ns, decide_eq_true ?_⟩
  simp only [PyData.depth]
  omega
theorem eqv_intL (ns : List Int) : PyData.eqv (.list (ns.map PyData.int)) (.list (ns.map PyData.int)) = true := SeqAt.eqv_refl _ (by simp only [PyData.canLay0]; exact lay_ints ns)
/-! ### steps from each to the next -/
def stp (f : Nat → Int) (n : Nat) : List Int := (List.range n).map fun i => f (i + 1) - f i
theorem stp_sum (f : Nat → Int) : ∀ n, (stp f n).sum = f n - f 0
  | 0 => by simp [stp]
  | n + 1 => by
    have h := stp_sum f n
    unfold stp at *
    rw [List.range_succ, List.map_append, List.sum_append, h]
    simp
    omega
end MM
namespace MM
open PySem PySem.Spec PyProof.Rows L2
theorem hu65 {k : Nat} {A : Around} (r : Room k A) : A.units + 65 < cLine := by
  have := r.un
  omega
section
variable {X : Cx}
/-- sum(t) of a tuple of whole numbers -/
def rSumT (K : PySem.W.Frag) : List V → Hp → VK → Prop := fun vs H Q => ∃ (a : Addr) (ns : List Int), vs = [V.ref a] ∧ SqT K H a (ns.map V.int) ∧ Q (.int ns.sum) H
theorem cr_sumT (hc : X.calm = true) : CallR X (.builtin "sum") (rSumT X.K) := by
  intro pins s σ H vs us Q I r h
  obtain ⟨a, ns, rfl, hs, q⟩ := h
  obtain ⟨its, rv, hl, _⟩ := I.tuple hs
  rw [Vals.ref1 r]
  have hi := rv.ints
  obtain ⟨xs, hx⟩ := hi.allInts.items
  have hn : numsOf its.toArray.toList = ns := by rw [show its.toArray.toList = its from rfl, hi.numsOf]
  have hl : s.heap.IsTuple a its.toArray := hl
  rw [hx] at hl hn
  rw [nums_intItems] at hn
  refine PySem.W.ktm_sumG (I.ok.hd hc) hl fun h' tk t' hk => ⟨.int _, H, I.kept hk, ⟨_, rfl⟩, ?_⟩
  rw [preSum_eq, List.take_of_length_le (by simp), hn]
  exact q
end
/-! ### data of rows of whole numbers -/
def tupD (ns : List Int) : PyData := .tuple (ns.map PyData.int)
theorem dp_tup {K : PySem.W.Frag} {H : Hp} {a : Addr} {ns : List Int} (h : H a = some (.tup (ns.map V.int))) : Dp K H (.ref a) (tupD ns) := .tup (SqT.of h) (dps_ints ns)
theorem lay_tups : ∀ zs : List (List Int), PyData.canLayAll0 (zs.map tupD) = true
  | [] => rfl
  | z :: zs => by
    rw [List.map_cons, PyData.canLayAll0, lay_tups zs, tupD, PyData.canLay0, lay_ints]
    rfl
theorem dep_tups : ∀ zs : List (List Int), PyData.depthAll (zs.map tupD) ≤ 3
  | [] => by simp [PyData.depthAll]
  | z :: zs => by
    have h := dep_tups zs
    have h2 := dep_ints z
    simp only [List.map_cons, PyData.depthAll, tupD, PyData.depth]

    omega
theorem sh_tups (zs : List (List Int)) : SeqAt.shaped (.list (zs.map tupD)) = true := by
  have h := dep_tups zs
  show (PyData.canLay0 (.list (zs.map tupD)) && decide (PyData.depth (.list (zs.map tupD)) ≤ 64)) = true
  rw [Bool.and_eq_true]
  refine ⟨by simp only [PyData.canLay0]; exact lay_tups zs, decide_eq_true ?_⟩
  simp only [PyData.depth]
  omega
theorem sh_tup (ns : List Int) : SeqAt.shaped (tupD ns) = true := by
  have h := dep_ints ns
  show (PyData.canLay0 (tupD ns) && decide (PyData.depth (tupD ns) ≤ 64)) = true
  rw [Bool.and_eq_true]
  refine ⟨by simp only [tupD, PyData.canLay0]; exact lay_ints ns, decide_eq_true ?_⟩
  simp only [tupD, PyData.depth]
  omega
theorem eqv_tup (ns : List Int) : PyData.eqv (tupD ns) (tupD ns) = true := SeqAt.eqv_refl _ (by simp only [tupD, PyData.canLay0]; exact lay_ints ns)
/-- a list whose things are the rows zs -/
def Rows (H : Hp) (us : List V) (zs : List (List Int)) : Prop := us.length = zs.length ∧ ∀ (j : Nat) (u : V), us[j]? = some u → ∃ (q : Addr) (z : List Int), u = .ref q ∧ zs[j]? = some z ∧ H q = some (.tup (z.map V.int))
theorem Rows.same {H H1 : Hp} {us : List V} {zs : List (List Int)} (h : Rows H us zs) (s : Same H H1) : Rows H1 us zs := ⟨h.1, fun j u hu => by
  obtain ⟨q, z, e1, e2, e3⟩ := h.2 j u hu
  exact ⟨q, z, e1, e2, s _ _ e3⟩⟩
theorem Rows.dps {K : PySem.W.Frag} {H : Hp} : ∀ {us : List V} {zs : List (List Int)}, Rows H us zs → DpAll K H us (zs.map tupD)
  | [], [], _ => .nil
  | [], _ :: _, h => by have := h.1; simp at this
  | _ :: _, [], h => by have := h.1; simp at this
  | u :: us, z :: zs, h => by
    obtain ⟨q, z', rfl, e2, e3⟩ := h.2 0 u rfl
    cases e2
    refine .cons (dp_tup e3) (Rows.dps ⟨by have := h.1; simpa using this, fun j v hv => h.2 (j + 1) v (by simpa using hv)⟩)
theorem Rows.dp {K : PySem.W.Frag} {H : Hp} {a : Addr} {us : List V} {zs : List (List Int)} (h : Rows H us zs) (e : H a = some (.lst us)) : Dp K H (.ref a) (.list (zs.map tupD)) := .lst (SqL.of e) h.dps
theorem any_row {zs : List (List Int)} {z : List Int} (h : z ∈ zs) : ((zs.map tupD).any fun d => PyData.eqv d (tupD z)) = true := List.any_eq_true.mpr ⟨tupD z, List.mem_map.mpr ⟨z, h, rfl⟩, eqv_tup z⟩
end MM
namespace MM
open PySem PySem.Spec PyProof.Rows L2
/-! ### calls of a def with defaults, which never raises -/
/-- how f(.., k = v, ..) binds where f has defaults -/
structure Kdn (x : Str) (st : Stmt) (dn n : Nat) (ks ps : List Str) (g : {α : Type} → List α → List α → List α → List α) : Prop where
  bind : ∀ (T : Addr) (kV doc pm : Value) (an : Option Addr) (cdv ct : Value) (us its ws : List Value), us.length = n → its.length = dn → ws.length = ks.length →
    ∃ k, bindArgs (PySem.W.fnOf x x (defArgs st) (defBody st) (defScope st) (.ref T) kV doc pm an cdv ct) ⟨us, ks.zip ws⟩ = seqItems? (.ref T) >>= k ∧ k (some its.toArray) = pure (ps.zip (g us its ws))
  rel : ∀ {vs ds zs : List V} {us its ws : List Value}, Vals vs us → Vals ds its → Vals zs ws → Vals (g vs ds zs) (g us its ws)
section
variable {X : Cx} {CX : CXT} {k j n d : Nat} {f : Addr} {fd : FuncData} {ps ks : List Str} {sp : Sp} {dvs : List V} {x : Str} {st : Stmt} {p pos : Pos} {e : Expr} {es : List Expr} {kws : List Keyword} {t tk : TA} {E : XK}
/-- f(e, ..): n values, the defaults from the d-th on -/
theorem pe_caD (c : Ca X.prog X.w X.K X.mg X.base CX k x st dvs ps sp) (b : Bd1 x x st ps n d dvs.length) (hd : dvs ≠ []) (hn : n + (dvs.length - d) = ps.length) (hr : Room j X.A) (hk : k ≤ j) (hx : Passes CX X E) (hg : Gl X x) (ha : PA X (e :: es) t)
    (hdb : (x == ("__debug__" : Str)) = false := by decide) (he : starEach (e :: es) X.env = (false, eval e X.env) :: starEach es X.env := by rfl) (hpl : (backTo pos (starEach es X.env)).any (·.1) = false := by rfl) :
    PE X (.Call (.Name x p) (e :: es) [] pos) (tCall sp (dvs.drop d) E t) := by
  obtain ⟨f, fd, F, hm, G⟩ := c.ex
  obtain ⟨ds, r, bb⟩ := F.binds1 n d hd hn b
  exact pe_call G (hr.mono hk) hg hm F.kp bb r hx ha hdb he hpl
theorem run_fnkP {pins : List (Addr × Obj)} {σ : L2.St} {H : Hp} {s : Shared} {Q : VK} {us ws : List Value} {vs zs : List V} {g : List Value → List Value → List Value} {gV : List V → List V → List V} (F : FnOk X.prog X.w X.K X.mg X.base CX k f fd ps sp) (hr : Room k X.A) (hb : KBn X.K fd ps n ks g gV) (hx : Passes CX X E)
    (I : Inv X pins σ H s) (r : Vals vs us) (rz : Vals zs ws) (l1 : vs.length = n) (l2 : zs.length = ks.length) (h : sp (gV vs zs) H Q E) : wpAny (model X.prog X.w) X.A (call (.ref f) us (ks.zip ws)) (EP X pins σ Q) X.xe s := by
  have r2 := hb.rel r rz
  refine wpAny_call (codeAny_mono (F.run X.A X.stack s H ⟨us, ks.zip ws⟩ (g us ws) (gV vs zs) Q _ hr I.env0 (hb.to s us ws I.kIn (r.length.symm.trans l1) (rz.length.symm.trans l2)) r2 h) fun r s' hq => ?_)
  match r, hq with
  | .error e, hq => exact hx pins σ H s e s' I hq
  | .ok (.ret u), hq => exact I.after hq
  | .ok .next, hq => exact False.elim hq
  | .ok .brk, hq => exact False.elim hq
  | .ok .cont, hq => exact False.elim hq
/-- f(e, .., k = v, ..) -/
theorem pe_caDk {g : {α : Type} → List α → List α → List α → List α} (c : Ca X.prog X.w X.K X.mg X.base CX k x st dvs ps sp) (b : Kdn x st dvs.length n ks ps g) (hd : dvs ≠ []) (hr : Room j X.A) (hk : k ≤ j) (hx : Passes CX X E) (hg : Gl X x) (ha : PA X (e :: es) t) (hkw : PK X kws tk)
    (hall : (backToKw pos (keywordEach kws X.env)).all (·.1.isSome) = true := by rfl) (hks : (backToKw pos (keywordEach kws X.env)).filterMap (·.1) = ks := by rfl) (hdb : (x == ("__debug__" : Str)) = false := by decide)
    (he : starEach (e :: es) X.env = (false, eval e X.env) :: starEach es X.env := by rfl) (hpl : ((backTo pos (starEach (e :: es) X.env)).any (·.1) || (backToKw pos (keywordEach kws X.env)).any (·.1.isNone)) = false := by rfl) :
    PE X (.Call (.Name x p) (e :: es) kws pos) (fun σ H Q => t σ H fun vs H1 => tk σ H1 fun zs H2 => vs.length = n ∧ zs.length = ks.length ∧ sp (g vs dvs zs) H2 Q E) := by
  obtain ⟨f, fd, F, hm, G⟩ := c.ex
  obtain ⟨its, hb⟩ := F.kbindsD n ks g hd b.rel b.bind
  refine ⟨fun pins s σ H Q I h => ?_⟩
  refine wpAny_Call_Name_kw (ld_glob I hg hm ?_ hdb)
  refine PySem.W.callWith_KW (h₀ := X.base) I.ok.mod.kin F.kp hall (thn (ha.run pos pins s σ H _ I h) fun us s1 ⟨vs, H1, I1, r, q⟩ => ?_) hpl he
  refine thn (hkw.run pos pins s1 σ H1 _ I1 q) fun ws s2 ⟨zs, H2, I2, rz, l1, l2, q2⟩ => ⟨I2.kIn, ?_⟩
  rw [hks]
  exact run_fnkP G (hr.mono hk) hb hx I2 r rz l1 l2 q2
/-- f(k = v, ..) -/
theorem pe_caDk0 {g : {α : Type} → List α → List α → List α → List α} (c : Ca X.prog X.w X.K X.mg X.base CX k x st dvs ps sp) (b : Kdn x st dvs.length 0 ks ps g) (hd : dvs ≠ []) (hr : Room j X.A) (hk : k ≤ j) (hx : Passes CX X E) (hg : Gl X x) (hkw : PK X kws tk)
    (hall : (backToKw pos (keywordEach kws X.env)).all (·.1.isSome) = true := by rfl) (hks : (backToKw pos (keywordEach kws X.env)).filterMap (·.1) = ks := by rfl) (hdb : (x == ("__debug__" : Str)) = false := by decide)
    (hpl : ((backTo pos (starEach [] X.env)).any (·.1) || (backToKw pos (keywordEach kws X.env)).any (·.1.isNone)) = false := by rfl) :
    PE X (.Call (.Name x p) [] kws pos) (fun σ H Q => tk σ H fun zs H2 => zs.length = ks.length ∧ sp (g [] dvs zs) H2 Q E) := by
  obtain ⟨f, fd, F, hm, G⟩ := c.ex
  obtain ⟨its, hb⟩ := F.kbindsD 0 ks g hd b.rel b.bind
  refine ⟨fun pins s σ H Q I h => ?_⟩
  refine wpAny_Call_Name_kw (ld_glob I hg hm ?_ hdb)
  refine PySem.W.callWith_KW0 (h₀ := X.base) I.ok.mod.kin F.kp hall ?_ hpl
  refine thn (hkw.run pos pins s σ H _ I h) fun ws s2 ⟨zs, H2, I2, rz, l2, q2⟩ => ⟨I2.kIn, ?_⟩
  rw [hks]
  exact run_fnkP (us := []) (vs := []) G (hr.mono hk) hb hx I2 .nil rz rfl l2 q2
end
end MM
namespace MM
/-! ### rounds: when months and years come together -/
theorem den_mul (x : Rat) : (x.den : Rat) * x = (x.num : Rat) := by
  have h := Rat.num_divInt_den x
  rw [Rat.divInt_eq_div] at h
  have hd : ((x.den : Int) : Rat) ≠ 0 := by
    have := x.den_nz
    intro z
    exact this (by exact_mod_cast z)
  rw [Rat.intCast_natCast] at h hd
  grind
def lcI (a b : Int) : Int := a / (Int.gcd a b : Int) * b
theorem gcd_div_gcd {a b : Int} (ha : 0 < a) : Int.gcd (b / (Int.gcd a b : Int)) (a / (Int.gcd a b : Int)) = 1 := by
  have hg : 0 < Int.gcd a b := Int.gcd_pos_of_ne_zero_left b (by omega)
  have := Int.gcd_ediv_gcd_ediv_gcd (i := a) (j := b) hg
  rw [Int.gcd_comm]
  exact this
theorem lc_facts {a b : Int} (ha : 0 < a) (hb : 0 < b) : 0 < lcI a b ∧ lcI a b % a = 0 ∧ lcI a b % b = 0 ∧ lcI a b / a = b / (Int.gcd a b : Int) ∧ lcI a b / b = a / (Int.gcd a b : Int) ∧ 0 < b / (Int.gcd a b : Int) ∧ 0 < a / (Int.gcd a b : Int) := by
  have hg : 0 < Int.gcd a b := Int.gcd_pos_of_ne_zero_left b (by omega)
  obtain ⟨x, hx⟩ := Int.gcd_dvd_left a b
  obtain ⟨z, hz⟩ := Int.gcd_dvd_right a b
  unfold lcI
  generalize hG : (Int.gcd a b : Int) = G at *
  have hG0 : 0 < G := by omega
  have e1 : a / G = x := by rw [hx, Int.mul_ediv_cancel_left _ (by omega)]
  have e2 : b / G = z := by rw [hz, Int.mul_ediv_cancel_left _ (by omega)]
  have x0 : 0 < x := by
    apply Int.not_le.mp
    intro h
    have := Int.mul_le_mul_of_nonneg_left h (Int.le_of_lt hG0)
    omega
  have z0 : 0 < z := by
    apply Int.not_le.mp
    intro h
    have := Int.mul_le_mul_of_nonneg_left h (Int.le_of_lt hG0)
    omega
  rw [e1, e2]
  have e3 : x * b = a * z := by rw [hx, hz]; ac_rfl
  refine ⟨Int.mul_pos x0 hb, ?_, ?_, ?_, ?_, z0, x0⟩
  · rw [e3]
    exact Int.mul_emod_right _ _
  · exact Int.mul_emod_left _ _
  · rw [e3, Int.mul_ediv_cancel_left _ (by omega)]
  · rw [Int.mul_ediv_cancel _ (by omega)]
def wrD (m y : Rat) : Int := lcI m.num y.num
def wrM (m y : Rat) : Int := wrD m y / m.num * m.den
def wrY (m y : Rat) : Int := wrD m y / y.num * y.den
theorem div_back {a d : Int} (h : d % a = 0) : d / a * a = d := Int.ediv_mul_cancel (Int.dvd_of_emod_eq_zero h)
theorem wr_eqM {m y : Rat} (hm : 0 < m) (hy : 0 < y) : wrD m y * m.den = wrM m y * m.num := by
  have f := lc_facts (num_pos hm) (num_pos hy)
  have := div_back (show wrD m y % m.num = 0 from f.2.1)
  unfold wrM
  rw [Int.mul_right_comm, this]
theorem wr_eqY {m y : Rat} (hm : 0 < m) (hy : 0 < y) : wrD m y * y.den = wrY m y * y.num := by
  have f := lc_facts (num_pos hm) (num_pos hy)
  have := div_back (show wrD m y % y.num = 0 from f.2.2.1)
  unfold wrY
  rw [Int.mul_right_comm, this]
theorem den_ne (x : Rat) : ((x.den : Int) : Rat) ≠ 0 := by
  have := x.den_nz
  intro z
  exact this (by exact_mod_cast z)
theorem of_den {x : Rat} {D M : Int} (h : D * x.den = M * x.num) : (M : Rat) * x = (D : Rat) := by
  have h1 : ((D * x.den : Int) : Rat) = ((M * x.num : Int) : Rat) := by rw [h]
  rw [Rat.intCast_mul, Rat.intCast_mul] at h1
  have h2 := den_mul x
  have h3 := den_ne x
  rw [Rat.intCast_natCast] at h1 h3
  grind
theorem fl_int (x : Rat) (n : Int) : (x + n).floor = x.floor + n := by
  have h1 : ∀ i : Int, (x + n).floor ≤ i ↔ x.floor + n ≤ i := fun i => by
    rw [floor_le_iff]
    have h2 : x.floor + n ≤ i ↔ x.floor ≤ i - n := by omega
    rw [h2, floor_le_iff]
    have e1 : ((i + 1 : Int) : Rat) = (i : Rat) + 1 := cast_add1 i
    have e2 : ((i - n + 1 : Int) : Rat) = (i : Rat) - n + 1 := by rw [cast_add1, Rat.intCast_sub]
    rw [e1, e2]
    grind
  have a := (h1 ((x + n).floor)).mp (Int.le_refl _)
  have b := (h1 (x.floor + n)).mpr (Int.le_refl _)
  omega
theorem st_shift {m o : Rat} {M D : Int} (h : (M : Rat) * m = D) (k t : Int) : stF m o (k + t * M) = stF m o k + t * D := by
  unfold stF
  rw [← fl_int]
  congr 1
  rw [Rat.intCast_add, Rat.intCast_mul, Rat.intCast_mul, ← h]
  grind
theorem ma_shift {m o : Rat} {M D : Int} (hm : 0 < m) (h : (M : Rat) * m = D) (d t : Int) : maF m o (d + t * D) = maF m o d + t * M := by
  refine ma_of hm ?_ ?_
  · rw [st_shift h]
    have := st_ma (o := o) hm d
    omega
  · rw [Int.add_right_comm, st_shift h]
    have := ma_st (o := o) hm d
    omega
theorem md_shift {y k : Rat} {Y D : Int} (h : (Y : Rat) * y = D) (j t : Int) : mdF y k (j + 12 * (t * Y)) = mdF y k j + t * D := by
  unfold mdF
  rw [← fl_int]
  congr 1
  have e : ((12 : Int) : Rat) = 12 := rfl
  rw [Rat.intCast_add, Rat.intCast_mul, Rat.intCast_mul, Rat.intCast_mul, ← h, e]
  grind
theorem j_shift {y k : Rat} {Y D : Int} (hy : 0 < y / 12) (h : (Y : Rat) * y = D) (d t : Int) : jF y k (d + t * D) = jF y k d + 12 * (t * Y) := by
  have key : ∀ j : Int, j < jF y k (d + t * D) ↔ j < jF y k d + 12 * (t * Y) := fun j => by
    rw [← md_lt hy]
    have e : mdF y k j = mdF y k (j - 12 * (t * Y)) + t * D := by
      rw [← md_shift h]
      congr 1
      omega
    rw [e]
    have e2 : j < jF y k d + 12 * (t * Y) ↔ j - 12 * (t * Y) < jF y k d := by omega
    rw [e2, ← md_lt hy]
    omega
  have a := key (jF y k (d + t * D))
  have b := key (jF y k d + 12 * (t * Y))
  omega
end MM
namespace MM
/-! ### convergents -/
/-- a state of Euclid's steps over A and B: m months and y years, fm and fy those ahead -/
structure Eu (A B s one two y m fy fm : Int) : Prop where
  s1 : s = 1 ∨ s = -1
  e1 : m * B - y * A = s * two
  e2 : fm * B - fy * A = -(s * one)
  det : m * fy - fm * y = s
  t0 : 0 ≤ two
  to : two ≤ one
  o0 : 0 < one
  y0 : 0 ≤ y
  f0 : 0 ≤ fy
theorem Eu.step {A B s one two y m fy fm : Int} (h : Eu A B s one two y m fy fm) (ht : two ≠ 0) : Eu A B (-s) two (one % two) (one / two * y + fy) (one / two * m + fm) y m := by
  obtain ⟨s1, e1, e2, det, t0, to, o0, y0, f0⟩ := h
  have e := Int.mul_ediv_add_emod one two
  have r0 := Int.emod_nonneg one ht
  have r1 := Int.emod_lt_of_pos one (show 0 < two by omega)
  have p0 : 0 ≤ one / two := Int.ediv_nonneg (by omega) t0
  generalize one / two = p at *
  generalize one % two = r at *
  refine ⟨by omega, ?_, ?_, ?_, r0, by omega, by omega, ?_, y0⟩
  · grind
  · grind
  · grind
  · have := Int.mul_nonneg p0 y0
    omega
/-- the convergents behind a state, of at most so many years -/
def cvs (most : Int) : Nat → Int → Int → Int → Int → Int → Int → List (Int × Int)
  | 0, _, _, _, _, _, _ => []
  | f + 1, one, two, y, m, fy, fm =>
    if two = 0 then [] else if most < one / two * y + fy then [] else (one / two * y + fy, one / two * m + fm) :: cvs most f two (one % two) (one / two * y + fy) (one / two * m + fm) y m
theorem cvs_go {most : Int} {f : Nat} {one two y m fy fm : Int} (ht : two ≠ 0) (hm : ¬ most < one / two * y + fy) : cvs most (f + 1) one two y m fy fm = (one / two * y + fy, one / two * m + fm) :: cvs most f two (one % two) (one / two * y + fy) (one / two * m + fm) y m := by
  rw [cvs, if_neg ht, if_neg hm]
theorem cvs_end {most : Int} {f : Nat} {one two y m fy fm : Int} (ht : two = 0) : cvs most f one two y m fy fm = [] := by
  cases f with
  | zero => rfl
  | succ f => rw [cvs, if_pos ht]
theorem cvs_stop {most : Int} {f : Nat} {one two y m fy fm : Int} (ht : two ≠ 0) (hm : most < one / two * y + fy) : cvs most f one two y m fy fm = [] := by
  cases f with
  | zero => rfl
  | succ f => rw [cvs, if_neg ht, if_pos hm]
theorem Eu.part {A B s one two y m fy fm : Int} (h : Eu A B s one two y m fy fm) (ht : two ≠ 0) : 1 ≤ one / two := by
  have := h.to
  have := h.t0
  exact (Int.le_ediv_iff_mul_le (by omega)).mpr (by omega)
theorem Eu.less {A B s one two y m fy fm : Int} (h : Eu A B s one two y m fy fm) (ht : two ≠ 0) {f : Nat} (hf : one * two < 2 ^ (f + 1)) : two * (one % two) < 2 ^ f := by
  have p1 := h.part ht
  have e := Int.mul_ediv_add_emod one two
  have r0 := Int.emod_nonneg one ht
  have t0 := h.t0
  have r1 := Int.emod_lt_of_pos one (show 0 < two by omega)
  generalize one / two = p at *
  generalize one % two = r at *
  have h1 : two * r + two * r ≤ one * two := by
    have h2 : r + r ≤ one := by
      have : two * 1 ≤ two * p := Int.mul_le_mul_of_nonneg_left p1 t0
      omega
    have h3 := Int.mul_le_mul_of_nonneg_left h2 t0
    rw [Int.mul_add] at h3
    rw [Int.mul_comm one two]
    exact h3
  rw [Int.pow_succ] at hf
  omega
theorem fuel_pos {one two : Int} (h1 : 0 < one) (h2 : 0 < two) {f : Nat} (hf : one * two < 2 ^ f) : ∃ g, f = g + 1 := by
  cases f with
  | zero =>
    have := Int.mul_pos h1 h2
    rw [Int.pow_zero] at hf
    omega
  | succ g => exact ⟨g, rfl⟩
/-- more years: the same come first -/
theorem cvs_prefix {a b : Int} (hab : a ≤ b) : ∀ (f : Nat) (one two y m fy fm : Int), cvs a f one two y m fy fm <+: cvs b f one two y m fy fm
  | 0, _, _, _, _, _, _ => List.prefix_refl _
  | f + 1, one, two, y, m, fy, fm => by
    unfold cvs
    by_cases ht : two = 0
    · rw [if_pos ht, if_pos ht]
      exact List.prefix_refl _
    · rw [if_neg ht, if_neg ht]
      by_cases ha : a < one / two * y + fy
      · rw [if_pos ha]
        exact List.nil_prefix
      · rw [if_neg ha, if_neg (by omega)]
        exact (List.prefix_cons_inj _).mpr (cvs_prefix hab f _ _ _ _ _ _)
/-- a row behind another -/
structure Nx (A B : Int) (p q : Int × Int) : Prop where
  lt : p.1 < q.1
  det : (q.2 * p.1 - q.1 * p.2).natAbs = 1
  sg : (q.2 * B - q.1 * A) * (p.2 * B - p.1 * A) ≤ 0
  ls : (q.2 * B - q.1 * A).natAbs < (p.2 * B - p.1 * A).natAbs
/-- how much a row lacks, by parts -/
def dv (A B : Int) (p : Int × Int) : Int := p.2 * B - p.1 * A
/-- the years of the row behind the last two -/
def nxt (A B : Int) (p q : Int × Int) : Int := p.1 + ((dv A B p).natAbs : Int) / ((dv A B q).natAbs : Int) * q.1
/-- rows in order behind q, ahead of which p stands -/
def G3 (A B most : Int) : Int × Int → Int × Int → List (Int × Int) → Prop
  | p, q, [] => dv A B q = 0 ∨ most < nxt A B p q
  | _, q, r :: L => Nx A B q r ∧ r.1 ≤ most ∧ G3 A B most q r L
theorem Eu.abs1 {A B s one two y m fy fm : Int} (h : Eu A B s one two y m fy fm) : ((dv A B (y, m)).natAbs : Int) = two := by
  have e := h.e1
  have t0 := h.t0
  show ((m * B - y * A).natAbs : Int) = two
  rw [e]
  rcases h.s1 with z | z <;> rw [z] <;> omega
theorem Eu.abs2 {A B s one two y m fy fm : Int} (h : Eu A B s one two y m fy fm) : ((dv A B (fy, fm)).natAbs : Int) = one := by
  have e := h.e2
  have t0 := h.o0
  show ((fm * B - fy * A).natAbs : Int) = one
  rw [e]
  rcases h.s1 with z | z <;> rw [z] <;> omega
theorem Eu.nx {A B s one two y m fy fm : Int} (h : Eu A B s one two y m fy fm) (ht : two ≠ 0) (hl : y < one / two * y + fy) : Nx A B (y, m) (one / two * y + fy, one / two * m + fm) := by
  have h2 := h.step ht
  have a1 := h.abs1
  have a2 := h2.abs1
  have r0 := Int.emod_nonneg one ht
  have t0 := h.t0
  have r1 := Int.emod_lt_of_pos one (show 0 < two by omega)
  have d2 := h2.det
  have e1 := h.e1
  have e2 := h2.e1
  refine ⟨hl, ?_, ?_, ?_⟩
  · show ((one / two * m + fm) * y - (one / two * y + fy) * m).natAbs = 1
    rw [Int.mul_comm (one / two * y + fy) m, d2]
    rcases h.s1 with z | z <;> rw [z] <;> rfl
  · show ((one / two * m + fm) * B - (one / two * y + fy) * A) * (m * B - y * A) ≤ 0
    rw [e1, e2]
    have e3 : -s * (one % two) * (s * two) = -((one % two) * two) := by
      rcases h.s1 with z | z <;> rw [z] <;> grind
    rw [e3]
    have := Int.mul_nonneg r0 t0
    omega
  · have a2 : (((one / two * m + fm) * B - (one / two * y + fy) * A).natAbs : Int) = one % two := a2
    have a1 : ((m * B - y * A).natAbs : Int) = two := a1
    show ((one / two * m + fm) * B - (one / two * y + fy) * A).natAbs < (m * B - y * A).natAbs
    omega
theorem eu_chain (most : Int) {A B : Int} : ∀ (f : Nat) {s one two y m fy fm : Int}, Eu A B s one two y m fy fm → 1 ≤ y → 1 ≤ fy → one * two < 2 ^ f → G3 A B most (fy, fm) (y, m) (cvs most f one two y m fy fm)
  | 0, s, one, two, y, m, fy, fm, h, hy, hf, hb => by
    left
    have a := h.abs1
    have t0 := h.t0
    by_cases ht : two = 0
    · omega
    · obtain ⟨g, e⟩ := fuel_pos h.o0 (by omega) hb
      cases e
  | f + 1, s, one, two, y, m, fy, fm, h, hy, hf, hb => by
    have a := h.abs1
    unfold cvs
    by_cases ht : two = 0
    · rw [if_pos ht]
      left
      omega
    · rw [if_neg ht]
      by_cases hm : most < one / two * y + fy
      · rw [if_pos hm]
        right
        unfold nxt
        rw [a, h.abs2]
        show most < fy + one / two * y
        omega
      · rw [if_neg hm]
        have p1 := h.part ht
        have hl : y < one / two * y + fy := by
          have := Int.mul_le_mul_of_nonneg_right p1 (show 0 ≤ y by omega)
          omega
        exact ⟨h.nx ht hl, by show one / two * y + fy ≤ most; omega, eu_chain most f (h.step ht) (by omega) hy (h.less ht hb)⟩
theorem eu_start {A B : Int} (h1 : 0 < B) (h2 : B ≤ A) : Eu A B 1 A B 0 1 1 0 := ⟨.inl rfl, by omega, by omega, by omega, by omega, h2, by omega, by omega, by omega⟩
/-- the rows that are told -/
def rowsL (most A B : Int) (f : Nat) : List (Int × Int) :=
  if A % B = 0 then [(1, A / B)]
  else if B / (A % B) = 1 then (1, A / B + 1) :: cvs most f (A % B) (B % (A % B)) 1 (A / B + 1) 1 (A / B)
  else (1, A / B) :: cvs most (f + 1) B (A % B) 1 (A / B) 0 1
theorem rows_prefix {a b : Int} (hab : a ≤ b) (A B : Int) (f : Nat) : rowsL a A B f <+: rowsL b A B f := by
  unfold rowsL
  split
  · exact List.prefix_refl _
  split
  · exact (List.prefix_cons_inj _).mpr (cvs_prefix hab _ _ _ _ _ _ _)
  · exact (List.prefix_cons_inj _).mpr (cvs_prefix hab _ _ _ _ _ _ _)
theorem rows_good {most A B : Int} {f : Nat} (h1 : 0 < B) (h2 : B ≤ A) (hf : A * B < 2 ^ (f + 2)) : ∃ q R, rowsL most A B f = q :: R ∧ q.1 = 1 ∧ 2 * (dv A B q).natAbs ≤ B ∧ G3 A B most (0, 1) q R := by
  have E0 := eu_start h1 h2
  have E1 := E0.step (by omega)
  have f1 := E0.less (by omega) hf
  rw [show A / B * 0 + 1 = 1 by omega, show A / B * 1 + 0 = A / B by omega] at E1
  have a1 := E1.abs1
  have r0 := Int.emod_nonneg A (show B ≠ 0 by omega)
  have r1 := Int.emod_lt_of_pos A h1
  unfold rowsL
  by_cases hr : A % B = 0
  · rw [if_pos hr]
    refine ⟨_, _, rfl, rfl, by omega, .inl (by omega)⟩
  rw [if_neg hr]
  have f2 := E1.less hr f1
  have E2 := E1.step hr
  have e := Int.mul_ediv_add_emod B (A % B)
  have p1 := E1.part hr
  have q0 := Int.emod_nonneg B hr
  have q1 := Int.emod_lt_of_pos B (show 0 < A % B by omega)
  by_cases hp : B / (A % B) = 1
  · rw [if_pos hp]
    rw [hp] at E2 e
    rw [show (1 : Int) * 1 + 0 = 1 by omega, show 1 * (A / B) + 1 = A / B + 1 by omega] at E2
    have a2 := E2.abs1
    have c := eu_chain most f E2 (by omega) (by omega) f2
    refine ⟨_, _, rfl, rfl, ?_, ?_⟩
    · omega
    · revert c
      cases cvs most f (A % B) (B % (A % B)) 1 (A / B + 1) 1 (A / B) with
      | nil =>
        intro c
        rcases c with c | c
        · exact .inl c
        · by_cases hz : B % (A % B) = 0
          · exact .inl (by omega)
          right
          unfold nxt at c ⊢
          have a3 : ((dv A B (0, 1)).natAbs : Int) = B := by
            show ((1 * B - 0 * A).natAbs : Int) = B
            rw [Int.one_mul, Int.zero_mul]
            omega
          rw [a2, E2.abs2] at c
          rw [a2, a3]
          have e2 : B / (B % (A % B)) = 1 + (A % B) / (B % (A % B)) := by
            have e3 : B = A % B + B % (A % B) * 1 := by omega
            have e4 : (A % B + B % (A % B) * 1) / (B % (A % B)) = A % B / (B % (A % B)) + 1 := Int.add_mul_ediv_left _ _ hz
            rw [← e3] at e4
            omega
          rw [e2]
          show most < 0 + (1 + (A % B) / (B % (A % B))) * 1
          have c : most < 1 + A % B / (B % (A % B)) * 1 := c
          omega
      | cons r L => exact fun c => c
  · rw [if_neg hp]
    refine ⟨_, _, rfl, rfl, ?_, ?_⟩
    · have h3 : (A % B) * 2 ≤ (A % B) * (B / (A % B)) := Int.mul_le_mul_of_nonneg_left (by omega) (by omega)
      omega
    · unfold cvs
      rw [if_neg hr]
      by_cases hm : most < B / (A % B) * 1 + 0
      · rw [if_pos hm]
        right
        unfold nxt
        rw [a1, E1.abs2]
        show most < 0 + B / (A % B) * 1
        omega
      · rw [if_neg hm]
        refine ⟨E1.nx hr (by omega), by show B / (A % B) * 1 + 0 ≤ most; omega, eu_chain most f E2 (by omega) (by omega) f2⟩
end MM
namespace MM
/-! ### what rows lack, as fractions -/
/-- a fraction that is u parts, of which K make L -/
structure Pt (K L : Int) (a : Rat) (u : Int) : Prop where
  k0 : 0 < K
  l0 : 0 < L
  e : a.num * K = u * (L * a.den)
theorem Pt.of {a m : Rat} {u B : Int} (hB : 0 < B) (hm : 0 < m.num) (h : a * (B : Rat) = (u : Rat) * m) : Pt (B * m.den) m.num a u := by
  have h1 := den_mul a
  have h2 := den_mul m
  refine ⟨Int.mul_pos hB (by have := m.den_pos; omega), hm, ?_⟩
  have : ((a.num * (B * m.den) : Int) : Rat) = ((u * (m.num * a.den) : Int) : Rat) := by
    rw [Rat.intCast_mul, Rat.intCast_mul, Rat.intCast_mul, Rat.intCast_mul, Rat.intCast_natCast, Rat.intCast_natCast, ← h1, ← h2]
    grind
  exact_mod_cast this
theorem dpos (a : Rat) : (0 : Int) < (a.den : Int) := by
  have := a.den_pos
  omega
theorem Pt.abs {K L u : Int} {a : Rat} (h : Pt K L a u) : (a.num.natAbs : Int) * K = (u.natAbs : Int) * (L * a.den) := by
  have e := congrArg Int.natAbs h.e
  rw [Int.natAbs_mul, Int.natAbs_mul, Int.natAbs_mul, Int.natAbs_natCast] at e
  have e2 : ((a.num.natAbs * K.natAbs : Nat) : Int) = ((u.natAbs * (L.natAbs * a.den) : Nat) : Int) := by rw [e]
  rw [Int.natCast_mul, Int.natCast_mul, Int.natCast_mul] at e2
  have k0 := h.k0
  have l0 := h.l0
  have eK : ((K.natAbs : Nat) : Int) = K := by omega
  have eL : ((L.natAbs : Nat) : Int) = L := by omega
  rw [eK, eL] at e2
  exact e2
theorem Pt.zero {K L u : Int} {a : Rat} (h : Pt K L a u) : a.num = 0 ↔ u = 0 := by
  have e := h.e
  have k0 := h.k0
  have p : 0 < L * (a.den : Int) := Int.mul_pos h.l0 (dpos a)
  constructor
  · intro z
    rw [z, Int.zero_mul] at e
    rcases Int.mul_eq_zero.mp e.symm with z | z
    · exact z
    · omega
  · intro z
    rw [z, Int.zero_mul] at e
    rcases Int.mul_eq_zero.mp e with z | z
    · exact z
    · omega
/-- both by parts: one product by the other is as the parts -/
theorem Pt.two {K L u v : Int} {a b : Rat} (h : Pt K L a u) (g : Pt K L b v) : ∃ W : Int, 0 < W ∧ (a.num.natAbs : Int) * b.den * K = (u.natAbs : Int) * W ∧ (b.num.natAbs : Int) * a.den * K = (v.natAbs : Int) * W := by
  refine ⟨L * a.den * b.den, Int.mul_pos (Int.mul_pos h.l0 (dpos a)) (dpos b), ?_, ?_⟩
  · have := h.abs
    grind
  · have := g.abs
    grind
theorem Pt.less {K L u v : Int} {a b : Rat} (h : Pt K L a u) (g : Pt K L b v) (l : u.natAbs < v.natAbs) : (a.num.natAbs : Int) * b.den < (b.num.natAbs : Int) * a.den := by
  obtain ⟨W, w0, e1, e2⟩ := h.two g
  have l2 : (u.natAbs : Int) * W < (v.natAbs : Int) * W := Int.mul_lt_mul_of_pos_right (by omega) w0
  rw [← e1, ← e2] at l2
  exact Int.lt_of_mul_lt_mul_right l2 (Int.le_of_lt h.k0)
theorem Pt.quo {K L u v : Int} {a b : Rat} (h : Pt K L a u) (g : Pt K L b v) (hv : v ≠ 0) : (a.num.natAbs : Int) * b.den / ((b.num.natAbs : Int) * a.den) = (u.natAbs : Int) / (v.natAbs : Int) := by
  obtain ⟨W, w0, e1, e2⟩ := h.two g
  have k0 := h.k0
  rw [← Int.mul_ediv_mul_of_pos_left _ _ k0, e1, e2, Int.mul_ediv_mul_of_pos_left _ _ w0]
theorem Pt.sign {K L u v : Int} {a b : Rat} (h : Pt K L a u) (g : Pt K L b v) (l : u * v ≤ 0) : a.num * b.num ≤ 0 := by
  have k0 := h.k0
  have p1 : 0 < L * (a.den : Int) := Int.mul_pos h.l0 (dpos a)
  have p2 : 0 < L * (b.den : Int) := Int.mul_pos h.l0 (dpos b)
  have e : (a.num * b.num) * (K * K) = (u * v) * ((L * (a.den : Int)) * (L * (b.den : Int))) := by
    have e1 := h.e
    have e2 := g.e
    grind
  have l2 : (u * v) * ((L * (a.den : Int)) * (L * (b.den : Int))) ≤ 0 := Int.mul_nonpos_of_nonpos_of_nonneg l (Int.le_of_lt (Int.mul_pos p1 p2))
  rw [← e] at l2
  have kk : 0 < K * K := Int.mul_pos k0 k0
  apply Int.not_lt.mp
  intro z
  have := Int.mul_pos z kk
  omega
/-- of what makes B parts, a is half at most -/
theorem Pt.half {B u : Int} {a m : Rat} (h : Pt (B * m.den) m.num a u) (hB : 0 < B) (l : 2 * (u.natAbs : Int) ≤ B) : 2 * (a.num.natAbs : Int) * m.den ≤ a.den * m.num := by
  have e := h.abs
  have p : 0 < m.num * (a.den : Int) := Int.mul_pos h.l0 (dpos a)
  have l2 : 2 * (u.natAbs : Int) * (m.num * (a.den : Int)) ≤ B * (m.num * (a.den : Int)) := Int.mul_le_mul_of_nonneg_right l (Int.le_of_lt p)
  have e2 : (2 * (a.num.natAbs : Int) * m.den) * B = 2 * (u.natAbs : Int) * (m.num * (a.den : Int)) := by grind
  rw [← e2] at l2
  have e3 : B * (m.num * (a.den : Int)) = ((a.den : Int) * m.num) * B := by grind
  rw [e3] at l2
  exact Int.le_of_mul_le_mul_right l2 hB
/-- what so many years (the first) and months lack -/
def lkR (m y : Rat) (p : Int × Int) : Rat := (p.2 : Rat) * m - (p.1 : Rat) * y
theorem lk_dv {m y : Rat} (hm : m ≠ 0) (p : Int × Int) : lkR m y p * (((y / m).den : Int) : Rat) = (dv (y / m).num (y / m).den p : Rat) * m := by
  have h1 := den_mul (y / m)
  unfold lkR dv
  rw [Rat.intCast_sub, Rat.intCast_mul, Rat.intCast_mul, Rat.intCast_natCast, ← h1]
  grind
theorem lk_pt {m y : Rat} (hm : 0 < m) (p : Int × Int) : Pt ((y / m).den * m.den) m.num (lkR m y p) (dv (y / m).num (y / m).den p) :=
  Pt.of (dpos _) (num_pos hm) (lk_dv (by grind) p)
/-- rows as they are told -/
structure RowsOk (A B most : Int) (L : List (Int × Int)) : Prop where
  hd : ∃ q R, L = q :: R ∧ q.1 = 1
  le : ∀ p ∈ L, 1 ≤ p.1 ∧ p.1 ≤ most
  half : ∀ p ∈ L, 2 * ((dv A B p).natAbs : Int) ≤ B
  nx : ∀ j a b, L[j]? = some a → L[j + 1]? = some b → Nx A B a b
  l1 : ∀ q, L = [q] → dv A B q = 0 ∨ most < nxt A B (0, 1) q
  l2 : ∀ j a b, L[j]? = some a → L[j + 1]? = some b → j + 2 = L.length → dv A B b = 0 ∨ most < nxt A B a b
theorem g3_all {A B most : Int} : ∀ (R : List (Int × Int)) (p q : Int × Int), G3 A B most p q R → 1 ≤ q.1 → q.1 ≤ most → 2 * ((dv A B q).natAbs : Int) ≤ B →
    (∀ r ∈ q :: R, (1 ≤ r.1 ∧ r.1 ≤ most) ∧ 2 * ((dv A B r).natAbs : Int) ≤ B) ∧ (∀ j a b, (q :: R)[j]? = some a → (q :: R)[j + 1]? = some b → Nx A B a b) ∧ (R = [] → dv A B q = 0 ∨ most < nxt A B p q) ∧
    (∀ j a b, (q :: R)[j]? = some a → (q :: R)[j + 1]? = some b → j + 2 = (q :: R).length → dv A B b = 0 ∨ most < nxt A B a b)
  | [], p, q, h, h0, h1, h2 => by
    refine ⟨fun r hr => ?_, fun j a b _ e => ?_, fun _ => h, fun j a b _ e => ?_⟩
    · rw [List.mem_singleton.mp hr]
      exact ⟨⟨h0, h1⟩, h2⟩
    · simp at e
    · simp at e
  | r :: R, p, q, h, h0, h1, h2 => by
    obtain ⟨n1, n2, n3⟩ := h
    have ls : (dv A B r).natAbs < (dv A B q).natAbs := n1.ls
    have lt := n1.lt
    obtain ⟨c1, c2, c3, c4⟩ := g3_all R q r n3 (by omega) n2 (by omega)
    refine ⟨fun s hs => ?_, fun j a b ea eb => ?_, fun z => (by cases z), fun j a b ea eb ej => ?_⟩
    · rcases List.mem_cons.mp hs with z | z
      · rw [z]
        exact ⟨⟨h0, h1⟩, h2⟩
      · exact c1 s z
    · cases j with
      | zero =>
        cases ea
        cases eb
        exact n1
      | succ j => exact c2 j a b (by simpa using ea) (by simpa using eb)
    · cases j with
      | zero =>
        cases ea
        cases eb
        refine c3 ?_
        simp at ej
        exact ej
      | succ j => exact c4 j a b (by simpa using ea) (by simpa using eb) (by simp at ej ⊢; omega)
theorem rows_ok {most A B : Int} {f : Nat} (hm : 1 ≤ most) (h1 : 0 < B) (h2 : B ≤ A) (hf : A * B < 2 ^ (f + 2)) : RowsOk A B most (rowsL most A B f) := by
  obtain ⟨q, R, e, e1, e2, g⟩ := rows_good (most := most) h1 h2 hf
  obtain ⟨c1, c2, c3, c4⟩ := g3_all R (0, 1) q g (by omega) (by omega) (by omega)
  rw [e]
  refine ⟨⟨q, R, rfl, e1⟩, fun p hp => (c1 p hp).1, fun p hp => (c1 p hp).2, c2, fun q' z => ?_, c4⟩
  injection z with z1 z2
  subst z1
  exact c3 z2
/-- the last row, where there is one ahead of it, has years and months without a common divisor -/
theorem cop_dvd {a b c d W M : Int} (h : (a * d - c * b).natAbs = 1) (e : a * W = c * M) : c ∣ W := by
  have h2 : (a * d - c * b) = 1 ∨ (a * d - c * b) = -1 := by omega
  have k : (a * d - c * b) * W = c * (M * d - b * W) := by grind
  rcases h2 with z | z
  · rw [z, Int.one_mul] at k
    exact ⟨_, k⟩
  · rw [z] at k
    exact ⟨-(M * d - b * W), by grind⟩
theorem lk_zero {m y : Rat} {M Y : Int} (hm : 0 < m) (hy : 0 < y) (h : (M : Rat) * m = (Y : Rat) * y) {p : Int × Int} (z : lkR m y p = 0) : p.2 * Y = p.1 * M := by
  unfold lkR at z
  have h1 : (p.2 : Rat) * m = (p.1 : Rat) * y := by grind
  have h2 : ((p.2 : Rat) * (Y : Rat) - (p.1 : Rat) * (M : Rat)) * (m * y) = 0 := by grind
  have h3 : m * y ≠ 0 := by
    have := Rat.mul_pos hm hy
    grind
  have h4 : (p.2 : Rat) * (Y : Rat) - (p.1 : Rat) * (M : Rat) = 0 := by grind
  have h5 : ((p.2 * Y : Int) : Rat) = ((p.1 * M : Int) : Rat) := by
    rw [Rat.intCast_mul, Rat.intCast_mul]
    grind
  exact_mod_cast h5
theorem RowsOk.last {A B most : Int} {L : List (Int × Int)} (h : RowsOk A B most L) {q : Int × Int} (hq : L[L.length - 1]? = some q) {W M : Int} (e : q.2 * W = q.1 * M) : W % q.1 = 0 := by
  obtain ⟨p, R, rfl, p1⟩ := h.hd
  cases R with
  | nil =>
    cases hq
    rw [p1]
    exact Int.emod_one _
  | cons r R =>
    have hl : (p :: r :: R).length - 1 = R.length + 1 := by simp
    rw [hl] at hq
    have hj : R.length < (p :: r :: R).length := by simp; omega
    have ha := List.getElem?_eq_getElem hj
    have n := h.nx _ _ _ ha hq
    exact Int.emod_eq_zero_of_dvd (cop_dvd n.det e)
theorem rowsL_len {most A B : Int} {f : Nat} : (rowsL most A B f).length ≤ f + 2 := by
  have c : ∀ (f : Nat) (one two y m fy fm : Int), (cvs most f one two y m fy fm).length ≤ f := by
    intro f
    induction f with
    | zero => intros; exact Nat.le_refl _
    | succ f ih =>
      intro one two y m fy fm
      unfold cvs
      split
      · simp
      split
      · simp
      · have := ih two (one % two) (one / two * y + fy) (one / two * m + fm) y m
        simp only [List.length_cons]
        omega
  unfold rowsL
  split
  · simp
  split
  · have := c f (A % B) (B % (A % B)) 1 (A / B + 1) 1 (A / B)
    simp only [List.length_cons]
    omega
  · have := c (f + 1) B (A % B) 1 (A / B) 0 1
    simp only [List.length_cons]
    omega
end MM
namespace MM
/-! ### no other years lack less -/
theorem nat_sum {u v : Int} (h : 0 ≤ u * v) : u.natAbs ≤ (u + v).natAbs := by
  by_cases hu : 0 < u
  · have : 0 ≤ v := by
      apply Int.not_lt.mp
      intro z
      have := Int.mul_neg_of_pos_of_neg hu z
      omega
    omega
  · by_cases hu' : u < 0
    · have : v ≤ 0 := by
        apply Int.not_lt.mp
        intro z
        have := Int.mul_neg_of_neg_of_pos hu' z
        omega
      omega
    · omega
theorem nat_mul {a d : Int} (h : a ≠ 0) : d.natAbs ≤ (a * d).natAbs := by
  rw [Int.natAbs_mul]
  exact Nat.le_mul_of_pos_left _ (by omega)
/-- of two rows whose years and months have the determinant 1, or -1, and that lack by unlike signs: what comes ahead of the second lacks no less than the first -/
theorem best_core {A B k x : Int} {q q' : Int × Int} (hD : (q'.2 * q.1 - q'.1 * q.2).natAbs = 1) (hs : dv A B q * dv A B q' ≤ 0) (h1 : 1 ≤ q.1) (hk : 1 ≤ k) (hk' : k < q'.1) : (dv A B q).natAbs ≤ (dv A B (k, x)).natAbs := by
  obtain ⟨y0, m0⟩ := q
  obtain ⟨y1, m1⟩ := q'
  unfold dv at *
  dsimp only at *
  generalize hDD : m1 * y0 - y1 * m0 = D at *
  have dd : D * D = 1 := by
    have : D = 1 ∨ D = -1 := by omega
    rcases this with z | z <;> rw [z] <;> rfl
  generalize ha : D * (k * m1 - x * y1) = a
  generalize hb : D * (x * y0 - k * m0) = b
  have ek : k = a * y0 + b * y1 := by
    have : a * y0 + b * y1 = D * (m1 * y0 - y1 * m0) * k := by rw [← ha, ← hb]; grind
    rw [this, hDD, dd, Int.one_mul]
  have ex : x = a * m0 + b * m1 := by
    have : a * m0 + b * m1 = D * (m1 * y0 - y1 * m0) * x := by rw [← ha, ← hb]; grind
    rw [this, hDD, dd, Int.one_mul]
  have ed : x * B - k * A = a * (m0 * B - y0 * A) + b * (m1 * B - y1 * A) := by
    rw [ex, ek]
    grind
  rw [ed]
  generalize hu : m0 * B - y0 * A = u at *
  generalize hv : m1 * B - y1 * A = v at *
  by_cases b0 : b = 0
  · rw [b0, Int.zero_mul, Int.add_zero] at ek ⊢
    have a0 : a ≠ 0 := fun z => by rw [z, Int.zero_mul] at ek; omega
    exact nat_mul a0
  · have hab : a ≠ 0 ∧ a * b ≤ 0 := by
      rcases (show b ≤ -1 ∨ 1 ≤ b by omega) with hb1 | hb1
      · have : b * y1 ≤ -1 * y1 := Int.mul_le_mul_of_nonneg_right hb1 (by omega)
        have h2 : 0 < a * y0 := by omega
        have h3 : 0 < a := by
          apply Int.not_le.mp
          intro z
          have := Int.mul_nonpos_of_nonpos_of_nonneg z (show 0 ≤ y0 by omega)
          omega
        refine ⟨by omega, ?_⟩
        exact Int.mul_nonpos_of_nonneg_of_nonpos (by omega) (by omega)
      · have : 1 * y1 ≤ b * y1 := Int.mul_le_mul_of_nonneg_right hb1 (by omega)
        have h2 : a * y0 < 0 := by omega
        have h3 : a < 0 := by
          apply Int.not_le.mp
          intro z
          have := Int.mul_nonneg z (show 0 ≤ y0 by omega)
          omega
        refine ⟨by omega, ?_⟩
        exact Int.mul_nonpos_of_nonpos_of_nonneg (by omega) (by omega)
    have hp : 0 ≤ (a * u) * (b * v) := by
      have e : (a * u) * (b * v) = (-(a * b)) * (-(u * v)) := by grind
      rw [e]
      exact Int.mul_nonneg (by omega) (by omega)
    exact Nat.le_trans (nat_mul hab.1) (nat_sum hp)
/-- the row that would come next -/
theorem best_next {A B k x : Int} {p q : Int × Int} (hD : (q.2 * p.1 - q.1 * p.2).natAbs = 1) (hs : dv A B q * dv A B p ≤ 0) (h1 : 1 ≤ q.1) (hk : 1 ≤ k) (hk' : k < nxt A B p q) : (dv A B q).natAbs ≤ (dv A B (k, x)).natAbs := by
  by_cases z : dv A B q = 0
  · rw [z]
    exact Nat.zero_le _
  unfold nxt at hk'
  generalize ht : ((dv A B p).natAbs : Int) / ((dv A B q).natAbs : Int) = t at *
  refine best_core (q' := (p.1 + t * q.1, p.2 + t * q.2)) ?_ ?_ h1 hk hk'
  · show ((p.2 + t * q.2) * q.1 - (p.1 + t * q.1) * q.2).natAbs = 1
    have e : (p.2 + t * q.2) * q.1 - (p.1 + t * q.1) * q.2 = -(q.2 * p.1 - q.1 * p.2) := by grind
    rw [e, Int.natAbs_neg]
    exact hD
  · have e : dv A B (p.1 + t * q.1, p.2 + t * q.2) = dv A B p + t * dv A B q := by
      unfold dv
      grind
    rw [e]
    have hle : t * ((dv A B q).natAbs : Int) ≤ ((dv A B p).natAbs : Int) := by
      rw [← ht]
      exact Int.ediv_mul_le _ (by omega)
    have t0 : 0 ≤ t := by
      rw [← ht]
      exact Int.ediv_nonneg (by omega) (by omega)
    generalize dv A B q = u at *
    generalize dv A B p = v at *
    rcases (show 0 < u ∨ u < 0 by omega) with hu | hu
    · have hv : v ≤ 0 := by
        apply Int.not_lt.mp
        intro z
        have := Int.mul_pos hu z
        omega
      have e1 : (u.natAbs : Int) = u := by omega
      have e2 : (v.natAbs : Int) = -v := by omega
      rw [e1, e2] at hle
      exact Int.mul_nonpos_of_nonneg_of_nonpos (by omega) (by omega)
    · have hv : 0 ≤ v := by
        apply Int.not_lt.mp
        intro z
        have := Int.mul_pos_of_neg_of_neg hu z
        omega
      have e1 : (u.natAbs : Int) = -u := by omega
      have e2 : (v.natAbs : Int) = v := by omega
      rw [e1, e2] at hle
      have e3 : t * -u = -(t * u) := by grind
      rw [e3] at hle
      exact Int.mul_nonpos_of_nonpos_of_nonneg (by omega) (by omega)
theorem RowsOk.best {A B most : Int} {L : List (Int × Int)} (h : RowsOk A B most L) {q : Int × Int} (hq : L[L.length - 1]? = some q) {k x : Int} (hk : 1 ≤ k) (hk' : k ≤ most) : (dv A B q).natAbs ≤ (dv A B (k, x)).natAbs := by
  by_cases z : dv A B q = 0
  · rw [z]
    exact Nat.zero_le _
  have hql := h.le q (List.mem_of_getElem? hq)
  obtain ⟨p, R, e, p1⟩ := h.hd
  subst e
  cases R with
  | nil =>
    cases hq
    have n := (h.l1 q rfl).resolve_left z
    have hn : nxt A B (0, -1) q = nxt A B (0, 1) q := by
      unfold nxt dv
      show 0 + (((-1) * B - 0 * A).natAbs : Int) / _ * _ = 0 + ((1 * B - 0 * A).natAbs : Int) / _ * _
      rw [show ((-1) * B - 0 * A).natAbs = (1 * B - 0 * A).natAbs by omega]
    rcases (show dv A B q ≤ 0 ∨ 0 ≤ dv A B q by omega) with hs | hs
    · by_cases hB : 0 ≤ B
      · refine best_next (p := (0, 1)) ?_ ?_ hql.1 hk (by omega)
        · show (q.2 * 0 - q.1 * 1).natAbs = 1
          rw [p1]
          omega
        · refine Int.mul_nonpos_of_nonpos_of_nonneg hs ?_
          unfold dv
          dsimp only
          omega
      · have := h.half q (List.mem_singleton.mpr rfl)
        omega
    · by_cases hB : 0 ≤ B
      · refine best_next (p := (0, -1)) ?_ ?_ hql.1 hk (by rw [hn]; omega)
        · show (q.2 * 0 - q.1 * (-1)).natAbs = 1
          rw [p1]
          omega
        · refine Int.mul_nonpos_of_nonneg_of_nonpos hs ?_
          unfold dv
          dsimp only
          omega
      · have := h.half q (List.mem_singleton.mpr rfl)
        omega
  | cons r R =>
    have hl : (p :: r :: R).length - 1 = R.length + 1 := by simp
    rw [hl] at hq
    have hj : R.length < (p :: r :: R).length := by simp; omega
    have ha := List.getElem?_eq_getElem hj
    have n := h.nx _ _ _ ha hq
    have l2 := (h.l2 _ _ _ ha hq (by simp)).resolve_left z
    exact best_next n.det n.sg hql.1 hk (by omega)
/-- the months that are nearest to so many years, of two as near the fewer -/
def nmo (A B n : Int) : Int := if B - n * A % B < n * A % B then n * A / B + 1 else n * A / B
theorem nmo_of {A B n x : Int} (hB : 0 < B) (h : 2 * ((dv A B (n, x)).natAbs : Int) < B) : x = nmo A B n := by
  unfold nmo
  unfold dv at h
  dsimp only at h
  have e := Int.mul_ediv_add_emod (n * A) B
  have r0 := Int.emod_nonneg (n * A) (show B ≠ 0 by omega)
  have r1 := Int.emod_lt_of_pos (n * A) hB
  generalize n * A % B = R at *
  generalize n * A / B = Q at *
  have ed : x * B - n * A = (x - Q) * B - R := by rw [← e]; grind
  rw [ed] at h
  have hc : x - Q ≤ -1 ∨ x - Q = 0 ∨ x - Q = 1 ∨ 2 ≤ x - Q := by omega
  rcases hc with c | c | c | c
  · have := Int.mul_le_mul_of_nonneg_right c (show 0 ≤ B by omega)
    omega
  · rw [c, Int.zero_mul] at h
    rw [if_neg (by omega)]
    omega
  · rw [c, Int.one_mul] at h
    rw [if_pos (by omega)]
    omega
  · have := Int.mul_le_mul_of_nonneg_right c (show 0 ≤ B by omega)
    omega
/-- one more year looked at -/
def ad (A B : Int) (L : List (Int × Int)) (z : Int × Int) : List (Int × Int) :=
  match L.getLast? with
  | none => L ++ [z]
  | some q => if (dv A B z).natAbs < (dv A B q).natAbs then L ++ [z] else L
def dueL (A B : Int) : Nat → List (Int × Int)
  | 0 => []
  | n + 1 => ad A B (dueL A B n) ((n : Int) + 1, nmo A B ((n : Int) + 1))
theorem last_of {α : Type} {L : List α} {q : α} (h : L.getLast? = some q) : L[L.length - 1]? = some q := by
  rw [← List.getLast?_eq_getElem?]
  exact h
theorem due_rows {A B : Int} {f : Nat} (h1 : 0 < B) (h2 : B ≤ A) (hf : A * B < 2 ^ (f + 2)) : ∀ n : Nat, 1 ≤ n → dueL A B n = rowsL (n : Int) A B f
  | 0, h => by omega
  | 1, _ => by
    have ok := rows_ok (most := 1) (by omega) h1 h2 hf
    obtain ⟨q, R, e, e1⟩ := ok.hd
    have e0 : dueL A B 1 = [(1, nmo A B 1)] := rfl
    rw [e0]
    show _ = rowsL 1 A B f
    have hR : R = [] := by
      cases R with
      | nil => rfl
      | cons r R =>
        have n := ok.nx 0 q r (by rw [e]; rfl) (by rw [e]; rfl)
        have l := ok.le r (by rw [e]; simp)
        have := n.lt
        omega
    have hq : q = (1, nmo A B 1) := by
      have r0 := Int.emod_nonneg A (show B ≠ 0 by omega)
      have r1 := Int.emod_lt_of_pos A h1
      unfold rowsL at e
      unfold nmo
      rw [Int.one_mul]
      by_cases hr : A % B = 0
      · rw [if_pos hr] at e
        injection e with e3 e4
        rw [← e3, if_neg (by omega)]
      · rw [if_neg hr] at e
        have dm := Int.mul_ediv_add_emod B (A % B)
        have m0 := Int.emod_nonneg B hr
        have m1 := Int.emod_lt_of_pos B (show 0 < A % B by omega)
        by_cases hp : B / (A % B) = 1
        · rw [if_pos hp] at e
          injection e with e3 e4
          rw [hp] at dm
          rw [← e3, if_pos (by omega)]
        · rw [if_neg hp] at e
          injection e with e3 e4
          have p1 : 1 ≤ B / (A % B) := (Int.le_ediv_iff_mul_le (by omega)).mpr (by omega)
          have : A % B * 2 ≤ A % B * (B / (A % B)) := Int.mul_le_mul_of_nonneg_left (by omega) (by omega)
          rw [← e3, if_neg (by omega)]
    rw [e, hR, hq]
  | n + 2, _ => by
    have ih := due_rows h1 h2 hf (n + 1) (by omega)
    have ok := rows_ok (most := ((n + 1 : Nat) : Int)) (by omega) h1 h2 hf
    have ok2 := rows_ok (most := ((n + 2 : Nat) : Int)) (by omega) h1 h2 hf
    have pre := rows_prefix (a := ((n + 1 : Nat) : Int)) (b := ((n + 2 : Nat) : Int)) (by omega) A B f
    have e0 : dueL A B (n + 2) = ad A B (dueL A B (n + 1)) (((n + 1 : Nat) : Int) + 1, nmo A B (((n + 1 : Nat) : Int) + 1)) := rfl
    rw [e0, ih]
    generalize rowsL ((n + 1 : Nat) : Int) A B f = L at *
    generalize rowsL ((n + 2 : Nat) : Int) A B f = L2 at *
    have ek : ((n + 1 : Nat) : Int) + 1 = ((n + 2 : Nat) : Int) := by omega
    rw [ek]
    obtain ⟨T, rfl⟩ := pre
    obtain ⟨q0, R0, eL, e1⟩ := ok.hd
    have hL : L ≠ [] := by rw [eL]; simp
    have hlen : 0 < L.length := by rw [eL]; simp
    obtain ⟨q, hq⟩ : ∃ q, L.getLast? = some q := ⟨L.getLast hL, List.getLast?_eq_some_getLast hL⟩
    have hq' := last_of hq
    unfold ad
    rw [hq]
    dsimp only
    cases T with
    | nil =>
      rw [List.append_nil] at ok2 ⊢
      have b := ok2.best hq' (k := ((n + 2 : Nat) : Int)) (x := nmo A B ((n + 2 : Nat) : Int)) (by omega) (by omega)
      rw [if_neg (by omega)]
    | cons r T =>
      have hl1 : (L ++ r :: T)[L.length - 1]? = some q := by
        rw [List.getElem?_append_left (by omega)]
        exact hq'
      have hl2 : (L ++ r :: T)[L.length - 1 + 1]? = some r := by
        rw [show L.length - 1 + 1 = L.length by omega, List.getElem?_append_right (by omega), Nat.sub_self]
        rfl
      have nx := ok2.nx _ _ _ hl1 hl2
      have ler := ok2.le r (by simp)
      have gt : ((n + 1 : Nat) : Int) < r.1 := by
        apply Int.not_le.mp
        intro z
        have b1 : (dv A B q).natAbs ≤ (dv A B r).natAbs := ok.best hq' (k := r.1) (x := r.2) ler.1 z
        have b2 : (dv A B r).natAbs < (dv A B q).natAbs := nx.ls
        omega
      have er : r.1 = ((n + 2 : Nat) : Int) := by omega
      have hT : T = [] := by
        cases T with
        | nil => rfl
        | cons t T =>
          have hl3 : (L ++ r :: t :: T)[L.length - 1 + 1 + 1]? = some t := by
            rw [show L.length - 1 + 1 + 1 = L.length + 1 by omega, List.getElem?_append_right (by omega), show L.length + 1 - L.length = 1 by omega]
            rfl
          have n3 := ok2.nx _ _ _ hl2 hl3
          have l3 := ok2.le t (by simp)
          have := n3.lt
          omega
      have hfq := ok2.half q (List.mem_of_getElem? hl1)
      have ls : (dv A B r).natAbs < (dv A B q).natAbs := nx.ls
      have e2 : r.2 = nmo A B r.1 := nmo_of h1 (by show 2 * ((dv A B r).natAbs : Int) < B; omega)
      have e3 : r = (((n + 2 : Nat) : Int), nmo A B ((n + 2 : Nat) : Int)) := Prod.ext er (by rw [e2, er])
      rw [hT, ← e3, if_pos ls]
theorem Pt.lt_iff {K L u v : Int} {a b : Rat} (h : Pt K L a u) (g : Pt K L b v) : (a.num.natAbs : Int) * b.den < (b.num.natAbs : Int) * a.den ↔ u.natAbs < v.natAbs := by
  constructor
  · intro l
    apply Nat.not_le.mp
    intro z
    obtain ⟨W, w0, e1, e2⟩ := h.two g
    have l2 : (v.natAbs : Int) * W ≤ (u.natAbs : Int) * W := Int.mul_le_mul_of_nonneg_right (by omega) (by omega)
    rw [← e1, ← e2] at l2
    have := Int.le_of_mul_le_mul_right l2 h.k0
    omega
  · exact h.less g
/-- the whole months of so many years, as the law reckons -/
theorem mo_floor {m y : Rat} (hm : 0 < m) (n : Int) : n * y.num * m.den / (y.den * m.num) = n * (y / m).num / ((y / m).den : Int) := by
  have h1 := den_mul m
  have h2 := den_mul y
  have h3 := den_mul (y / m)
  have pB : (0 : Int) < ((y / m).den : Int) := dpos _
  have pY : (0 : Int) < (y.den : Int) * m.num := Int.mul_pos (dpos y) (num_pos hm)
  have e : n * y.num * m.den * ((y / m).den : Int) = n * (y / m).num * ((y.den : Int) * m.num) := by
    have : ((n * y.num * m.den * ((y / m).den : Int) : Int) : Rat) = ((n * (y / m).num * ((y.den : Int) * m.num) : Int) : Rat) := by
      rw [Rat.intCast_mul, Rat.intCast_mul, Rat.intCast_mul, Rat.intCast_mul, Rat.intCast_mul, Rat.intCast_mul, Rat.intCast_natCast, Rat.intCast_natCast, Rat.intCast_natCast, ← h1, ← h2, ← h3]
      grind
    exact_mod_cast this
  rw [← Int.mul_ediv_mul_of_pos_left _ _ pB, e, Int.mul_comm ((y.den : Int) * m.num) ((y / m).den : Int), Int.mul_ediv_mul_of_pos_left _ _ pY]
end MM
namespace MM
open PySem PySem.Spec PyProof.Rows L2
/-- the text by places -/
def top (i : Nat) : Stmt := PySem.Challenge.pw_meanmoon_k42_near_rounds.main.body.getD i (.Pass ⟨0, 0, 0, 0⟩)
abbrev s__wall : Stmt := top 0
theorem c__wall : FnScope ["k"] ["k"] (defScope s__wall) := ⟨rfl, rfl, rfl, by decide +kernel, rfl, by decide +kernel, by decide +kernel⟩
theorem b__wall : Bd "_wall" "_wall" s__wall ["k"] := fun _ _ _ _ _ _ us hl => match us, hl with | [_], _ => rfl
abbrev s_NoShare_init : Stmt := inClass (top 2) 0
theorem c_NoShare_init : FnScope ["self", "top"] ["self", "top"] (defScope s_NoShare_init) := ⟨rfl, rfl, rfl, by decide +kernel, rfl, by decide +kernel, by decide +kernel⟩
theorem b_NoShare_init : Bd "__init__" "NoShare.__init__" s_NoShare_init ["self", "top"] := fun _ _ _ _ _ _ us hl => match us, hl with | [_, _], _ => rfl
abbrev s_NoCalendar_init : Stmt := inClass (top 3) 0
theorem c_NoCalendar_init : FnScope ["self", "why"] ["self", "why"] (defScope s_NoCalendar_init) := ⟨rfl, rfl, rfl, by decide +kernel, rfl, by decide +kernel, by decide +kernel⟩
theorem b_NoCalendar_init : Bd "__init__" "NoCalendar.__init__" s_NoCalendar_init ["self", "why"] := fun _ _ _ _ _ _ us hl => match us, hl with | [_, _], _ => rfl
abbrev s_numeral : Stmt := top 6
theorem c_numeral : FnScope ["number", "base", "rest", "signs"] ["number", "base"] (defScope s_numeral) := ⟨rfl, rfl, rfl, by decide +kernel, rfl, by decide +kernel, by decide +kernel⟩
abbrev s_Share_init : Stmt := inClass (top 8) 0
theorem c_Share_init : FnScope ["self", "top", "bottom", "common"] ["self", "top", "bottom"] (defScope s_Share_init) := ⟨rfl, rfl, rfl, by decide +kernel, rfl, by decide +kernel, by decide +kernel⟩
abbrev s_Share_eq : Stmt := inClass (top 8) 1
theorem c_Share_eq : FnScope ["self", "other"] ["self", "other"] (defScope s_Share_eq) := ⟨rfl, rfl, rfl, by decide +kernel, rfl, by decide +kernel, by decide +kernel⟩
theorem b_Share_eq : Bd "__eq__" "Share.__eq__" s_Share_eq ["self", "other"] := fun _ _ _ _ _ _ us hl => match us, hl with | [_, _], _ => rfl
abbrev s_Share_str : Stmt := inClass (top 8) 2
theorem c_Share_str : FnScope ["self"] ["self"] (defScope s_Share_str) := ⟨rfl, rfl, rfl, by decide +kernel, rfl, by decide +kernel, by decide +kernel⟩
theorem b_Share_str : Bd "__str__" "Share.__str__" s_Share_str ["self"] := fun _ _ _ _ _ _ us hl => match us, hl with | [_], _ => rfl
abbrev s_Share_repr : Stmt := inClass (top 8) 3
theorem c_Share_repr : FnScope ["self"] ["self"] (defScope s_Share_repr) := ⟨rfl, rfl, rfl, by decide +kernel, rfl, by decide +kernel, by decide +kernel⟩
theorem b_Share_repr : Bd "__repr__" "Share.__repr__" s_Share_repr ["self"] := fun _ _ _ _ _ _ us hl => match us, hl with | [_], _ => rfl
abbrev s_common_divisor : Stmt := top 9
theorem c_common_divisor : FnScope ["one", "two"] ["one", "two"] (defScope s_common_divisor) := ⟨rfl, rfl, rfl, by decide +kernel, rfl, by decide +kernel, by decide +kernel⟩
theorem b_common_divisor : Bd "common_divisor" "common_divisor" s_common_divisor ["one", "two"] := fun _ _ _ _ _ _ us hl => match us, hl with | [_, _], _ => rfl
abbrev s_as_share : Stmt := top 10
theorem c_as_share : FnScope ["number"] ["number"] (defScope s_as_share) := ⟨rfl, rfl, rfl, by decide +kernel, rfl, by decide +kernel, by decide +kernel⟩
theorem b_as_share : Bd "as_share" "as_share" s_as_share ["number"] := fun _ _ _ _ _ _ us hl => match us, hl with | [_], _ => rfl
abbrev s_plus : Stmt := top 11
theorem c_plus : FnScope ["one", "two", "first", "second"] ["one", "two"] (defScope s_plus) := ⟨rfl, rfl, rfl, by decide +kernel, rfl, by decide +kernel, by decide +kernel⟩
theorem b_plus : Bd "plus" "plus" s_plus ["one", "two"] := fun _ _ _ _ _ _ us hl => match us, hl with | [_, _], _ => rfl
abbrev s_minus : Stmt := top 12
theorem c_minus : FnScope ["one", "two", "first", "second"] ["one", "two"] (defScope s_minus) := ⟨rfl, rfl, rfl, by decide +kernel, rfl, by decide +kernel, by decide +kernel⟩
theorem b_minus : Bd "minus" "minus" s_minus ["one", "two"] := fun _ _ _ _ _ _ us hl => match us, hl with | [_, _], _ => rfl
abbrev s_times : Stmt := top 13
theorem c_times : FnScope ["one", "two", "first", "second"] ["one", "two"] (defScope s_times) := ⟨rfl, rfl, rfl, by decide +kernel, rfl, by decide +kernel, by decide +kernel⟩
theorem b_times : Bd "times" "times" s_times ["one", "two"] := fun _ _ _ _ _ _ us hl => match us, hl with | [_, _], _ => rfl
abbrev s_over : Stmt := top 14
theorem c_over : FnScope ["one", "two", "first", "second"] ["one", "two"] (defScope s_over) := ⟨rfl, rfl, rfl, by decide +kernel, rfl, by decide +kernel, by decide +kernel⟩
theorem b_over : Bd "over" "over" s_over ["one", "two"] := fun _ _ _ _ _ _ us hl => match us, hl with | [_, _], _ => rfl
abbrev s_before : Stmt := top 15
theorem c_before : FnScope ["one", "two", "first", "second"] ["one", "two"] (defScope s_before) := ⟨rfl, rfl, rfl, by decide +kernel, rfl, by decide +kernel, by decide +kernel⟩
theorem b_before : Bd "before" "before" s_before ["one", "two"] := fun _ _ _ _ _ _ us hl => match us, hl with | [_, _], _ => rfl
abbrev s_whole : Stmt := top 16
theorem c_whole : FnScope ["share", "number"] ["share"] (defScope s_whole) := ⟨rfl, rfl, rfl, by decide +kernel, rfl, by decide +kernel, by decide +kernel⟩
theorem b_whole : Bd "whole" "whole" s_whole ["share"] := fun _ _ _ _ _ _ us hl => match us, hl with | [_], _ => rfl
abbrev s_rounded_up : Stmt := top 17
theorem c_rounded_up : FnScope ["share", "number"] ["share"] (defScope s_rounded_up) := ⟨rfl, rfl, rfl, by decide +kernel, rfl, by decide +kernel, by decide +kernel⟩
theorem b_rounded_up : Bd "rounded_up" "rounded_up" s_rounded_up ["share"] := fun _ _ _ _ _ _ us hl => match us, hl with | [_], _ => rfl
abbrev s_near_rounds : Stmt := top 19
theorem c_near_rounds : FnScope ["calendar", "most", "months_for", "years", "months"] ["calendar", "most"] (defScope s_near_rounds) := ⟨rfl, rfl, rfl, by decide +kernel, rfl, by decide +kernel, by decide +kernel⟩
theorem b_near_rounds : Bd "near_rounds" "near_rounds" s_near_rounds ["calendar", "most"] := fun _ _ _ _ _ _ us hl => match us, hl with | [_, _], _ => rfl
abbrev s_lack : Stmt := top 20
theorem c_lack : FnScope ["calendar", "years", "months"] ["calendar", "years", "months"] (defScope s_lack) := ⟨rfl, rfl, rfl, by decide +kernel, rfl, by decide +kernel, by decide +kernel⟩
theorem b_lack : Bd "lack" "lack" s_lack ["calendar", "years", "months"] := fun _ _ _ _ _ _ us hl => match us, hl with | [_, _, _], _ => rfl
abbrev s_nearest_months : Stmt := top 21
theorem c_nearest_months : FnScope ["ratio", "most", "one", "two", "years", "months", "fewer_years", "fewer_months", "months_for", "part"] ["ratio", "most"] (defScope s_nearest_months) := ⟨rfl, rfl, rfl, by decide +kernel, rfl, by decide +kernel, by decide +kernel⟩
theorem b_nearest_months : Bd "nearest_months" "nearest_months" s_nearest_months ["ratio", "most"] := fun _ _ _ _ _ _ us hl => match us, hl with | [_, _], _ => rfl
abbrev s_Calendar_init : Stmt := inClass (top 24) 0
theorem c_Calendar_init : FnScope ["self", "month", "year", "moon", "mark"] ["self", "month", "year", "moon", "mark"] (defScope s_Calendar_init) := ⟨rfl, rfl, rfl, by decide +kernel, rfl, by decide +kernel, by decide +kernel⟩
abbrev s_Calendar_start : Stmt := inClass (top 24) 1
theorem c_Calendar_start : FnScope ["self", "k"] ["self", "k"] (defScope s_Calendar_start) := ⟨rfl, rfl, rfl, by decide +kernel, rfl, by decide +kernel, by decide +kernel⟩
theorem b_Calendar_start : Bd "start" "Calendar.start" s_Calendar_start ["self", "k"] := fun _ _ _ _ _ _ us hl => match us, hl with | [_, _], _ => rfl
abbrev s_Calendar_month_at : Stmt := inClass (top 24) 2
theorem c_Calendar_month_at : FnScope ["self", "day"] ["self", "day"] (defScope s_Calendar_month_at) := ⟨rfl, rfl, rfl, by decide +kernel, rfl, by decide +kernel, by decide +kernel⟩
theorem b_Calendar_month_at : Bd "month_at" "Calendar.month_at" s_Calendar_month_at ["self", "day"] := fun _ _ _ _ _ _ us hl => match us, hl with | [_, _], _ => rfl
abbrev s_Calendar_mark_day : Stmt := inClass (top 24) 3
theorem c_Calendar_mark_day : FnScope ["self", "j"] ["self", "j"] (defScope s_Calendar_mark_day) := ⟨rfl, rfl, rfl, by decide +kernel, rfl, by decide +kernel, by decide +kernel⟩
theorem b_Calendar_mark_day : Bd "mark_day" "Calendar.mark_day" s_Calendar_mark_day ["self", "j"] := fun _ _ _ _ _ _ us hl => match us, hl with | [_, _], _ => rfl
abbrev s_Calendar_month_with : Stmt := inClass (top 24) 4
theorem c_Calendar_month_with : FnScope ["self", "j"] ["self", "j"] (defScope s_Calendar_month_with) := ⟨rfl, rfl, rfl, by decide +kernel, rfl, by decide +kernel, by decide +kernel⟩
theorem b_Calendar_month_with : Bd "month_with" "Calendar.month_with" s_Calendar_month_with ["self", "j"] := fun _ _ _ _ _ _ us hl => match us, hl with | [_, _], _ => rfl
abbrev s_Calendar_mark_in : Stmt := inClass (top 24) 5
theorem c_Calendar_mark_in : FnScope ["self", "k"] ["self", "k"] (defScope s_Calendar_mark_in) := ⟨rfl, rfl, rfl, by decide +kernel, rfl, by decide +kernel, by decide +kernel⟩
theorem b_Calendar_mark_in : Bd "mark_in" "Calendar.mark_in" s_Calendar_mark_in ["self", "k"] := fun _ _ _ _ _ _ us hl => match us, hl with | [_, _], _ => rfl
abbrev s_Calendar_name_of : Stmt := inClass (top 24) 6
theorem c_Calendar_name_of : FnScope ["self", "k"] ["self", "k"] (defScope s_Calendar_name_of) := ⟨rfl, rfl, rfl, by decide +kernel, rfl, by decide +kernel, by decide +kernel⟩
theorem b_Calendar_name_of : Bd "name_of" "Calendar.name_of" s_Calendar_name_of ["self", "k"] := fun _ _ _ _ _ _ us hl => match us, hl with | [_, _], _ => rfl
abbrev s_Calendar_eq : Stmt := inClass (top 24) 7
theorem c_Calendar_eq : FnScope ["self", "other"] ["self", "other"] (defScope s_Calendar_eq) := ⟨rfl, rfl, rfl, by decide +kernel, rfl, by decide +kernel, by decide +kernel⟩
theorem b_Calendar_eq : Bd "__eq__" "Calendar.__eq__" s_Calendar_eq ["self", "other"] := fun _ _ _ _ _ _ us hl => match us, hl with | [_, _], _ => rfl
abbrev s_Calendar_str : Stmt := inClass (top 24) 8
theorem c_Calendar_str : FnScope ["self"] ["self"] (defScope s_Calendar_str) := ⟨rfl, rfl, rfl, by decide +kernel, rfl, by decide +kernel, by decide +kernel⟩
theorem b_Calendar_str : Bd "__str__" "Calendar.__str__" s_Calendar_str ["self"] := fun _ _ _ _ _ _ us hl => match us, hl with | [_], _ => rfl
abbrev s_Calendar_repr : Stmt := inClass (top 24) 9
theorem c_Calendar_repr : FnScope ["self"] ["self"] (defScope s_Calendar_repr) := ⟨rfl, rfl, rfl, by decide +kernel, rfl, by decide +kernel, by decide +kernel⟩
theorem b_Calendar_repr : Bd "__repr__" "Calendar.__repr__" s_Calendar_repr ["self"] := fun _ _ _ _ _ _ us hl => match us, hl with | [_], _ => rfl
abbrev s_refuse_unfit : Stmt := top 25
theorem c_refuse_unfit : FnScope ["month", "year"] ["month", "year"] (defScope s_refuse_unfit) := ⟨rfl, rfl, rfl, by decide +kernel, rfl, by decide +kernel, by decide +kernel⟩
theorem b_refuse_unfit : Bd "refuse_unfit" "refuse_unfit" s_refuse_unfit ["month", "year"] := fun _ _ _ _ _ _ us hl => match us, hl with | [_, _], _ => rfl
abbrev s_moment_or_nought : Stmt := top 26
theorem c_moment_or_nought : FnScope ["moment"] ["moment"] (defScope s_moment_or_nought) := ⟨rfl, rfl, rfl, by decide +kernel, rfl, by decide +kernel, by decide +kernel⟩
theorem b_moment_or_nought : Bd "moment_or_nought" "moment_or_nought" s_moment_or_nought ["moment"] := fun _ _ _ _ _ _ us hl => match us, hl with | [_], _ => rfl
abbrev s_twelfth : Stmt := top 27
theorem c_twelfth : FnScope ["year"] ["year"] (defScope s_twelfth) := ⟨rfl, rfl, rfl, by decide +kernel, rfl, by decide +kernel, by decide +kernel⟩
theorem b_twelfth : Bd "twelfth" "twelfth" s_twelfth ["year"] := fun _ _ _ _ _ _ us hl => match us, hl with | [_], _ => rfl
abbrev s_kept_form : Stmt := top 28
theorem c_kept_form : FnScope ["calendar", "month", "moon", "first_moon", "mark"] ["calendar"] (defScope s_kept_form) := ⟨rfl, rfl, rfl, by decide +kernel, rfl, by decide +kernel, by decide +kernel⟩
theorem b_kept_form : Bd "kept_form" "kept_form" s_kept_form ["calendar"] := fun _ _ _ _ _ _ us hl => match us, hl with | [_], _ => rfl
abbrev s_least_alike : Stmt := top 29
theorem c_least_alike : FnScope ["first", "step"] ["first", "step"] (defScope s_least_alike) := ⟨rfl, rfl, rfl, by decide +kernel, rfl, by decide +kernel, by decide +kernel⟩
theorem b_least_alike : Bd "least_alike" "least_alike" s_least_alike ["first", "step"] := fun _ _ _ _ _ _ us hl => match us, hl with | [_, _], _ => rfl
abbrev s_l_draws : Stmt := top 31
theorem c_l_draws : FnScope ["_law_cell", "_law_cut", "_law_k"] ["_law_cell"] (defScope s_l_draws) := ⟨rfl, rfl, rfl, by decide +kernel, rfl, by decide +kernel, by decide +kernel⟩
theorem b_l_draws : Bd "_law_draws" "_law_draws" s_l_draws ["_law_cell"] := fun _ _ _ _ _ _ us hl => match us, hl with | [_], _ => rfl
abbrev s_l_next : Stmt := top 32
theorem c_l_next : FnScope ["_law_draws_here", "_law_k", "_law_number"] ["_law_draws_here"] (defScope s_l_next) := ⟨rfl, rfl, rfl, by decide +kernel, rfl, by decide +kernel, by decide +kernel⟩
theorem b_l_next : Bd "_law_next" "_law_next" s_l_next ["_law_draws_here"] := fun _ _ _ _ _ _ us hl => match us, hl with | [_], _ => rfl
abbrev s_l_low : Stmt := top 33
theorem c_l_low : FnScope ["_law_top", "_law_bottom", "_law_one", "_law_two"] ["_law_top", "_law_bottom"] (defScope s_l_low) := ⟨rfl, rfl, rfl, by decide +kernel, rfl, by decide +kernel, by decide +kernel⟩
theorem b_l_low : Bd "_law_low" "_law_low" s_l_low ["_law_top", "_law_bottom"] := fun _ _ _ _ _ _ us hl => match us, hl with | [_, _], _ => rfl
abbrev s_l_plus : Stmt := top 34
theorem c_l_plus : FnScope ["_law_one", "_law_two"] ["_law_one", "_law_two"] (defScope s_l_plus) := ⟨rfl, rfl, rfl, by decide +kernel, rfl, by decide +kernel, by decide +kernel⟩
theorem b_l_plus : Bd "_law_plus" "_law_plus" s_l_plus ["_law_one", "_law_two"] := fun _ _ _ _ _ _ us hl => match us, hl with | [_, _], _ => rfl
abbrev s_l_by : Stmt := top 35
theorem c_l_by : FnScope ["_law_one", "_law_two"] ["_law_one", "_law_two"] (defScope s_l_by) := ⟨rfl, rfl, rfl, by decide +kernel, rfl, by decide +kernel, by decide +kernel⟩
theorem b_l_by : Bd "_law_by" "_law_by" s_l_by ["_law_one", "_law_two"] := fun _ _ _ _ _ _ us hl => match us, hl with | [_, _], _ => rfl
abbrev s_l_part : Stmt := top 36
theorem c_l_part : FnScope ["_law_draws_here", "_law_pick", "_law_far", "_law_bottom"] ["_law_draws_here"] (defScope s_l_part) := ⟨rfl, rfl, rfl, by decide +kernel, rfl, by decide +kernel, by decide +kernel⟩
theorem b_l_part : Bd "_law_part" "_law_part" s_l_part ["_law_draws_here"] := fun _ _ _ _ _ _ us hl => match us, hl with | [_], _ => rfl
abbrev s_l_moment : Stmt := top 37
theorem c_l_moment : FnScope ["_law_draws_here", "_law_part_here", "_law_pick", "_law_far"] ["_law_draws_here"] (defScope s_l_moment) := ⟨rfl, rfl, rfl, by decide +kernel, rfl, by decide +kernel, by decide +kernel⟩
theorem b_l_moment : Bd "_law_moment" "_law_moment" s_l_moment ["_law_draws_here"] := fun _ _ _ _ _ _ us hl => match us, hl with | [_], _ => rfl
abbrev s_l_four : Stmt := top 38
theorem c_l_four : FnScope ["_law_draws_here", "_law_pick", "_law_told", "_law_lune", "_law_sun", "_law_w", "_law_s", "_law_r"] ["_law_draws_here"] (defScope s_l_four) := ⟨rfl, rfl, rfl, by decide +kernel, rfl, by decide +kernel, by decide +kernel⟩
theorem b_l_four : Bd "_law_four" "_law_four" s_l_four ["_law_draws_here"] := fun _ _ _ _ _ _ us hl => match us, hl with | [_], _ => rfl
abbrev s_l_floor : Stmt := top 39
theorem c_l_floor : FnScope ["_law_fraction"] ["_law_fraction"] (defScope s_l_floor) := ⟨rfl, rfl, rfl, by decide +kernel, rfl, by decide +kernel, by decide +kernel⟩
theorem b_l_floor : Bd "_law_floor" "_law_floor" s_l_floor ["_law_fraction"] := fun _ _ _ _ _ _ us hl => match us, hl with | [_], _ => rfl
abbrev s_l_start : Stmt := top 40
theorem c_l_start : FnScope ["_law_four_here", "_law_k"] ["_law_four_here", "_law_k"] (defScope s_l_start) := ⟨rfl, rfl, rfl, by decide +kernel, rfl, by decide +kernel, by decide +kernel⟩
theorem b_l_start : Bd "_law_start" "_law_start" s_l_start ["_law_four_here", "_law_k"] := fun _ _ _ _ _ _ us hl => match us, hl with | [_, _], _ => rfl
abbrev s_l_made : Stmt := top 41
theorem c_l_made : FnScope ["_law_four_here", "_law_way", "_law_lune", "_law_sun", "_law_come", "_law_begun", "_law_top", "_law_bottom"] ["_law_four_here", "_law_way"] (defScope s_l_made) := ⟨rfl, rfl, rfl, by decide +kernel, rfl, by decide +kernel, by decide +kernel⟩
theorem b_l_made : Bd "_law_made" "_law_made" s_l_made ["_law_four_here", "_law_way"] := fun _ _ _ _ _ _ us hl => match us, hl with | [_, _], _ => rfl
abbrev s_l_plain : Stmt := top 42
theorem c_l_plain : FnScope ["_law_draws_here", "_law_four_here", "_law_w", "_law_by_here", "_law_more", "_law_lune", "_law_room", "_law_sun"] ["_law_draws_here", "_law_four_here"] (defScope s_l_plain) := ⟨rfl, rfl, rfl, by decide +kernel, rfl, by decide +kernel, by decide +kernel⟩
theorem b_l_plain : Bd "_law_plain" "_law_plain" s_l_plain ["_law_draws_here", "_law_four_here"] := fun _ _ _ _ _ _ us hl => match us, hl with | [_, _], _ => rfl
abbrev s_l_lack : Stmt := top 43
theorem c_l_lack : FnScope ["_law_four_here", "_law_months", "_law_years"] ["_law_four_here", "_law_months", "_law_years"] (defScope s_l_lack) := ⟨rfl, rfl, rfl, by decide +kernel, rfl, by decide +kernel, by decide +kernel⟩
theorem b_l_lack : Bd "_law_lack" "_law_lack" s_l_lack ["_law_four_here", "_law_months", "_law_years"] := fun _ _ _ _ _ _ us hl => match us, hl with | [_, _, _], _ => rfl
abbrev s_l_less : Stmt := top 44
theorem c_l_less : FnScope ["_law_one", "_law_two"] ["_law_one", "_law_two"] (defScope s_l_less) := ⟨rfl, rfl, rfl, by decide +kernel, rfl, by decide +kernel, by decide +kernel⟩
theorem b_l_less : Bd "_law_less" "_law_less" s_l_less ["_law_one", "_law_two"] := fun _ _ _ _ _ _ us hl => match us, hl with | [_, _], _ => rfl
abbrev s_l_due : Stmt := top 45
theorem c_l_due : FnScope ["_law_four_here", "_law_count", "_law_due_here", "_law_years", "_law_top", "_law_months", "_law_lack_here"] ["_law_four_here", "_law_count"] (defScope s_l_due) := ⟨rfl, rfl, rfl, by decide +kernel, rfl, by decide +kernel, by decide +kernel⟩
theorem b_l_due : Bd "_law_due" "_law_due" s_l_due ["_law_four_here", "_law_count"] := fun _ _ _ _ _ _ us hl => match us, hl with | [_, _], _ => rfl
abbrev s_l_read : Stmt := top 46
theorem c_l_read : FnScope ["_law_told", "_law_row"] ["_law_told"] (defScope s_l_read) := ⟨rfl, rfl, rfl, by decide +kernel, rfl, by decide +kernel, by decide +kernel⟩
theorem b_l_read : Bd "_law_read" "_law_read" s_l_read ["_law_told"] := fun _ _ _ _ _ _ us hl => match us, hl with | [_], _ => rfl
abbrev s_l_right : Stmt := top 47
theorem c_l_right : FnScope ["_law_draws_here", "_law_four_here", "_law_count", "_law_made_here", "_law_due_here", "_law_told"] ["_law_draws_here"] (defScope s_l_right) := ⟨rfl, rfl, rfl, by decide +kernel, rfl, by decide +kernel, by decide +kernel⟩
theorem b_l_right : Bd "_law_right" "_law_right" s_l_right ["_law_draws_here"] := fun _ _ _ _ _ _ us hl => match us, hl with | [_], _ => rfl
abbrev s_law : Stmt := top 48
theorem c_law : FnScope ["_law_script", "_law_cell"] ["_law_script"] (defScope s_law) := ⟨rfl, rfl, rfl, by decide +kernel, rfl, by decide +kernel, by decide +kernel⟩
theorem b_law : Bd "law" "law" s_law ["_law_script"] := fun _ _ _ _ _ _ us hl => match us, hl with | [_], _ => rfl
/-! ### the greatest common divisor -/
def spGcd : Sp := fun vs H Q _ => ∃ a b : Int, vs = [.int a, .int b] ∧ Q (.int (Int.gcd a b)) H
def mu2 (i : Nat) : L2.St → Hp → Nat := fun σ _ => match σ[i]? with
  | some (some (.int b)) => b.natAbs
  | _ => 0
theorem abs_gcd {a : Int} (c : Int) (h : Int.gcd a 0 = c) : (if a < 0 then -a else a) = c := by
  rw [Int.gcd_zero_right] at h
  split <;> omega
section
variable {P : Program} {w : World} {K : PySem.W.Frag} {mg : Str → Option Value} {base : Heap}
theorem ok_gcd (D : Df K mg "common_divisor" s_common_divisor []) (hab : mg "abs" = none) : Ca P w K mg base CX0 1 "common_divisor" s_common_divisor [] ["one", "two"] spGcd := by
  refine ca0 (k := 0) D c_common_divisor (fun vs H Q E h => ?_) fun f cdv A outer s H vs Q E hr h => ?_
  · obtain ⟨a, b, rfl, _⟩ := h
    rfl
  · obtain ⟨a, b, rfl, q⟩ := h
    refine ⟨_, pss_cons (ps_while PassesOwn.never (pt_cmpR op_ne (pv 1) pe_int (nomark _)) (pss_one (ps_par (i := 0) (j := 1) rfl c_common_divisor.nd rfl rfl (by decide) rfl rfl (pa_cons (pv 1) (pa_cons (pe_op op_modN (pv 0) (pv 1)) pa_nil)) rfl)))
      (pss_one (ps_ret (pe_callB call_abs rfl hab (by decide +kernel) (pa_cons (pv 0) pa_nil)))), ?_⟩
    refine while_by (fun σ H' => ∃ a' b' : Int, σ = [some (.int a'), some (.int b')] ∧ Int.gcd a' b' = Int.gcd a b ∧ H' = H) (mu2 1) ⟨a, b, rfl, rfl, rfl⟩ ?_ (fun σ H' R R' hq ⟨v, h1, h2, k, h3, h4⟩ => ⟨v, h1, h2, k, h3, hq _ _ h4⟩)
    rintro σ H' ⟨a', b', rfl, hg, rfl⟩
    refine ⟨_, rfl, rfl, _, rfl, ?_⟩
    by_cases hb : b' = 0
    · subst hb
      refine iteF ?_
      refine ⟨_, rfl, a', rfl, ?_⟩
      rw [abs_gcd _ (congrArg _ hg)]
      exact q
    · rw [show (!decide (V.int b' = V.int 0)) = true by simpa using hb]
      refine iteT ?_
      refine ⟨_, rfl, _, rfl, _, rfl, _, _, rfl, rfl, hb, _, _, rfl, ⟨b', a'.fmod b', rfl, ?_, rfl⟩, ?_⟩
      · rw [gcd_fmod]
        exact hg
      · exact fmod_lt a' hb
end
/-! ### lowest terms, as the law makes them -/
def spLow : Sp := fun vs H Q _ => ∃ t b : Int, vs = [.int t, .int b] ∧ b ≠ 0 ∧ Sz 8800 t ∧ Sz 8800 b ∧ ∀ p, H p = none → Q (.ref p) (upd H p (.tup [.int (Rat.divInt t b).num, .int (Rat.divInt t b).den]))
theorem gcd_sz {t b : Int} (h : b ≠ 0) (hb : Sz 8800 b) : Sz 8800 (Int.gcd t b : Int) := by
  unfold Sz
  rw [Int.natAbs_natCast]
  exact Nat.lt_of_le_of_lt (Nat.le_of_dvd (by omega) (Int.gcd_dvd_natAbs_right t b)) hb
theorem gs_sz {t b : Int} (h : b ≠ 0) (hb : Sz 8800 b) : Sz 8900 (gs t b) := by
  unfold gs
  split
  · exact (gcd_sz h hb).neg.mono (by decide)
  · exact (gcd_sz h hb).mono (by decide)
section
variable {P : Program} {w : World} {K : PySem.W.Frag} {mg : Str → Option Value} {base : Heap}
theorem ok_low (D : Df K mg "_law_low" s_l_low []) (hab : mg "abs" = none) : Ca P w K mg base CX0 1 "_law_low" s_l_low [] ["_law_top", "_law_bottom"] spLow := by
  refine ca0 (k := 0) D c_l_low (fun vs H Q E h => ?_) fun f cdv A outer s H vs Q E hr h => ?_
  · obtain ⟨t, b, rfl, _⟩ := h
    rfl
  · obtain ⟨t, b, rfl, hb, zt, zb, q⟩ := h
    refine ⟨_, pss_cons (ps_par (i := 2) (j := 3) rfl c_l_low.nd rfl rfl (by decide) rfl rfl (pa_cons (pe_callB call_abs rfl hab (by decide +kernel) (pa_cons (pv 0) pa_nil)) (pa_cons (pe_callB call_abs rfl hab (by decide +kernel) (pa_cons (pv 1) pa_nil)) pa_nil)) rfl)
      (pss_cons (ps_while PassesOwn.never (pt_cmpR op_gt (pv 3) pe_int (nomark _)) (pss_one (ps_par (i := 2) (j := 3) rfl c_l_low.nd rfl rfl (by decide) rfl rfl (pa_cons (pv 3) (pa_cons (pe_op op_mod (pv 2) (pv 3)) pa_nil)) rfl)))
      (pss_cons (ps_if (pt_cmpR op_lt (pv 1) pe_int (nomark _)) (pss_one (ps_set (i := 2) c_l_low.nd rfl (.inl rfl) (pe_op op_sub pe_int (pv 2)))) pss_nil)
      (pss_one (ps_ret (pe_tup (pa_cons (pe_op op_fdivA (pv 0) (pv 2)) (pa_cons (pe_op op_fdivA (pv 1) (pv 2)) pa_nil))))))), ?_⟩
    refine ⟨_, rfl, t, rfl, _, rfl, b, rfl, _, _, rfl, ?_⟩
    refine while_by (fun σ H' => ∃ c d : Int, σ = [some (.int t), some (.int b), some (.int c), some (.int d)] ∧ 0 ≤ c ∧ 0 ≤ d ∧ Int.gcd c d = Int.gcd t b ∧ H' = H) (mu2 3) ⟨_, _, rfl, ?_, ?_, ?_, rfl⟩ ?_ (fun σ H' R R' hq ⟨v, h1, i, j, h2, h3, k, h4, h5⟩ => ⟨v, h1, i, j, h2, h3, k, h4, hq _ _ h5⟩)
    · split <;> omega
    · split <;> omega
    · have e : ∀ x : Int, (if x < 0 then -x else x) = (x.natAbs : Int) := fun x => by split <;> omega
      rw [e, e]
      show Nat.gcd _ _ = Nat.gcd _ _
      rw [Int.natAbs_natCast, Int.natAbs_natCast]
    rintro σ H' ⟨c, d, rfl, hc, hd, hg, rfl⟩
    refine ⟨_, rfl, _, _, rfl, rfl, _, rfl, ?_⟩
    by_cases h0 : 0 < d
    · rw [decide_eq_true h0]
      refine iteT ?_
      refine ⟨_, rfl, _, rfl, _, rfl, _, _, rfl, rfl, h0, _, _, rfl, ⟨d, c % d, rfl, hd, Int.emod_nonneg _ (by omega), ?_, rfl⟩, ?_⟩
      · rw [gcd_emod']
        exact hg
      · have h1 := Int.emod_nonneg c (show d ≠ 0 by omega)
        have h2 := Int.emod_lt_of_pos c h0
        show (c % d).natAbs < d.natAbs
        omega
    · rw [decide_eq_false h0]
      refine iteF ?_
      have d0 : d = 0 := by omega
      subst d0
      have ec : c = (Int.gcd t b : Int) := by
        rw [← hg, Int.gcd_zero_right]
        omega
      subst ec
      have fin : ∀ σ' : L2.St, σ' = [some (.int t), some (.int b), some (.int (gs t b)), some (.int 0)] → (tRet (tTup (tCons (tOp (rI CDivA fun i j => .int (i.fdiv j)) (tVar 0) (tVar 2)) (tCons (tOp (rI CDivA fun i j => .int (i.fdiv j)) (tVar 1) (tVar 2)) tNil)))) { nx := fun _ H' => Q .non H', rt := Q } σ' H' := by
        rintro σ' rfl
        refine ⟨_, rfl, _, rfl, _, _, rfl, rfl, ⟨gs_ne hb, gs_sz hb zb⟩, _, rfl, _, rfl, _, _, rfl, rfl, ⟨gs_ne hb, gs_sz hb zb⟩, (by show 2 ≤ sizeLine; decide), fun p hp => ?_⟩
        have z := q p hp
        rw [← low_num hb, ← low_den hb] at z
        exact z
      refine ⟨_, rfl, _, _, rfl, rfl, _, rfl, ?_⟩
      by_cases hn : b < 0
      · rw [decide_eq_true hn]
        refine iteT ?_
        refine ⟨_, rfl, _, _, rfl, rfl, fin _ ?_⟩
        show [some (V.int t), some (V.int b), some (V.int (0 - (Int.gcd t b : Int))), some (V.int 0)] = _
        unfold gs
        rw [if_pos hn, Int.zero_sub]
      · rw [decide_eq_false hn]
        refine iteF (fin _ ?_)
        unfold gs
        rw [if_neg hn]
end
/-! ### the law's draws -/
theorem md {j : Int} (h : 0 < j := by decide) : 0 < j := h
/-- at l stand draws, of which at most n were taken -/
def Dr (H : Hp) (l : Addr) (n : Nat) : Prop := ∃ (d k : Int) (f : Bool), H l = some (.lst [.int d, .int k, .bl f]) ∧ 0 ≤ k ∧ k ≤ n
/-- all but what stands at l is as it was -/
def But (l : Addr) (H H' : Hp) : Prop := ∀ b o, b ≠ l → H b = some o → H' b = some o
theorem But.refl {l : Addr} {H : Hp} : But l H H := fun _ _ _ h => h
theorem But.trans {l : Addr} {H H1 H2 : Hp} (a : But l H H1) (b : But l H1 H2) : But l H H2 := fun c o hc h => b c o hc (a c o hc h)
theorem But.same {l : Addr} {H H1 : Hp} (a : Same H H1) : But l H H1 := fun c o _ h => a c o h
theorem But.upd {l : Addr} {H H1 : Hp} {p : Addr} {o : HO} (a : But l H H1) (h : H1 p = none) : But l H (upd H1 p o) := fun c u hc e => by
  rw [upd_ne (ne_of_none (a c u hc e) h)]
  exact a c u hc e
theorem But.tup {l p : Addr} {H H1 : Hp} {n : Nat} {xs : List V} (a : But l H H1) (d : Dr H l n) (h : H p = some (.tup xs)) : H1 p = some (.tup xs) := by
  obtain ⟨_, _, _, hl, _⟩ := d
  exact a _ _ (ne_of h hl (by intro z; cases z)) h
theorem But.ins {l p C dx : Addr} {H H1 : Hp} {n : Nat} {fs : List (Str × V)} (a : But l H H1) (d : Dr H l n) (h : H p = some (.ins C dx fs)) : H1 p = some (.ins C dx fs) := by
  obtain ⟨_, _, _, hl, _⟩ := d
  exact a _ _ (ne_of h hl (by intro z; cases z)) h
theorem Same.upd {H H1 : Hp} {p : Addr} {o : HO} (a : Same H H1) (h : H1 p = none) : Same H (upd H1 p o) := fun c u e => by
  rw [upd_ne (ne_of_none (a c u e) h)]
  exact a c u e
theorem Same.new {H : Hp} {p : Addr} {o : HO} (h : H p = none) : Same H (L2.upd H p o) := Same.upd (Same.refl H) h
theorem Dr.same {H H1 : Hp} {l : Addr} {n m : Nat} (d : Dr H l n) (s : Same H H1) (h : n ≤ m) : Dr H1 l m := by
  obtain ⟨d, k, f, hl, h1, h2⟩ := d
  exact ⟨d, k, f, s _ _ hl, h1, by omega⟩
theorem Dr.mono {H : Hp} {l : Addr} {n m : Nat} (d : Dr H l n) (h : n ≤ m) : Dr H l m := d.same (Same.refl H) h
theorem Dr.new {H : Hp} {l p : Addr} {n : Nat} {o : HO} (d : Dr H l n) (h : H p = none) : Dr (L2.upd H p o) l n := d.same (Same.new h) (Nat.le_refl _)
def spDraws : Sp := fun vs H Q _ => ∃ c : Int, vs = [.int c] ∧ ∀ p H', H p = none → Same H H' → Dr H' p 0 → Q (.ref p) H'
def spNext : Sp := fun vs H Q _ => ∃ (l : Addr) (n : Nat), vs = [.ref l] ∧ Dr H l n ∧ n ≤ 1000000 ∧ ∀ v H', 0 ≤ v → v < 306783369 → But l H H' → Dr H' l (n + 1) → Q (.int v) H'
section
variable {P : Program} {w : World} {K : PySem.W.Frag} {mg : Str → Option Value} {base : Heap}
theorem ok_draws (D : Df K mg "_law_draws" s_l_draws []) (hra : mg "range" = none) : Ca P w K mg base CX0 1 "_law_draws" s_l_draws [] ["_law_cell"] spDraws := by
  refine ca0 (k := 0) D c_l_draws (fun vs H Q E h => ?_) fun f cdv A outer s H vs Q E hr h => ?_
  · obtain ⟨c, rfl, _⟩ := h
    rfl
  · obtain ⟨c, rfl, q⟩ := h
    refine ⟨_, pss_cons (ps_set (i := 1) c_l_draws.nd rfl (.inl rfl) (pe_op op_pow pe_int pe_int))
      (pss_cons (ps_for PassesOwn.never rfl (pi_range1 rfl hra (pa_cons pe_int pa_nil)) (pg_name (i := 2) c_l_draws.nd rfl (.inl rfl)) (pss_one (ps_set (i := 1) c_l_draws.nd rfl (.inl rfl) (pe_op op_mulA (pv 1) (pv 1)))))
      (pss_one (ps_ret (pe_lst (pa_cons (pe_op op_mod (pv 0) (pv 1)) (pa_cons pe_int (pa_cons (pe_cmpR op_ge (pv 0) (pe_op op_pow pe_int pe_int) (nomark _)) pa_nil))))))), ?_⟩
    refine ⟨_, _, rfl, rfl, ⟨by decide, by decide, by decide⟩, 7, rfl, by decide, by decide, ?_⟩
    refine for_range (n := 7) (fun i σ H' => ∃ (z : Int) (v : Option V), σ = [some (.int c), some (.int z), v] ∧ 0 < z ∧ Sz (200 * 2 ^ i) z ∧ H' = H) ⟨_, _, rfl, by decide, (by show (10 ^ 60 : Int).natAbs < 2 ^ (200 * 2 ^ 0); decide), rfl⟩ ?_ ?_
    · rintro i σ H' hi ⟨z, v, rfl, h0, hz, rfl⟩
      have l1 : 2 ^ i ≤ 2 ^ 6 := Nat.pow_le_pow_right (by decide) (by omega)
      have hz' : Sz 100000 z := hz.mono (Nat.le_trans (Nat.mul_le_mul_left 200 l1) (by decide))
      refine ⟨_, rfl, _, rfl, _, _, rfl, rfl, ⟨hz', hz'⟩, ⟨z * z, _, rfl, Int.mul_pos h0 h0, ?_, rfl⟩⟩
      exact (hz.mul hz).mono (by rw [Nat.pow_succ]; omega)
    · rintro σ H' ⟨z, v, rfl, h0, hz, rfl⟩
      refine ⟨_, rfl, _, rfl, _, _, rfl, rfl, h0, _, rfl, _, _, rfl, rfl, ⟨by decide, by decide, by decide⟩, _, _, rfl, rfl, (by show 3 ≤ sizeLine; decide), fun p hp => ?_⟩
      exact q p _ hp (Same.new hp) ⟨_, _, _, upd_same, by decide, by decide⟩
theorem ok_next (D : Df K mg "_law_next" s_l_next []) : Ca P w K mg base CX0 1 "_law_next" s_l_next [] ["_law_draws_here"] spNext := by
  refine ca0 (k := 0) D c_l_next (fun vs H Q E h => ?_) fun f cdv A outer s H vs Q E hr h => ?_
  · obtain ⟨l, n, rfl, _⟩ := h
    rfl
  · obtain ⟨l, n, rfl, ⟨d, k, fl, hl, k0, k1⟩, hn, q⟩ := h
    refine ⟨_, pss_cons (ps_asg (pe_op op_add (pe_ix ix_list (pv 0) pe_int (fun _ _ => rfl)) pe_int) (pg_sub (pv 0) pe_int set_list))
      (pss_cons (ps_set (i := 1) c_l_next.nd rfl (.inl rfl) (pe_ix ix_list (pv 0) pe_int (fun _ _ => rfl)))
      (pss_cons (ps_if (pt_val (pe_ix ix_list (pv 0) pe_int (fun _ _ => rfl)))
        (pss_cons (ps_set (i := 2) c_l_next.nd rfl (.inl rfl) (pe_op op_mod (pe_ix ix_list (pv 0) pe_int (fun _ _ => rfl)) (pe_op op_pow pe_int pe_int)))
        (pss_cons (ps_asg (pe_op op_fdiv (pe_ix ix_list (pv 0) pe_int (fun _ _ => rfl)) (pe_op op_pow pe_int pe_int)) (pg_sub (pv 0) pe_int set_list))
        (pss_one (ps_ret (pv 2))))) pss_nil)
      (pss_cons (ps_set (i := 2) c_l_next.nd rfl (.inl rfl) (pe_op op_mod (pe_op op_mul (pe_op op_add (pe_op op_add (pe_op op_mod (pe_ix ix_list (pv 0) pe_int (fun _ _ => rfl)) pe_int) (pe_op op_mul (pe_op op_mul (pv 1) (pv 1)) pe_int)) (pv 1)) pe_int) pe_int))
      (pss_cons (ps_set (i := 2) c_l_next.nd rfl (.inl rfl) (pe_op op_mod (pe_op op_mul (pv 2) (pv 2)) pe_int))
      (pss_one (ps_ret (pe_op op_fdiv (pe_op op_mod (pe_op op_mul (pv 2) (pe_op op_add (pv 2) pe_int)) pe_int) pe_int))))))), ?_⟩
    refine ⟨_, rfl, l, _, _, _, rfl, rfl, SqL.of hl, rfl, _, _, rfl, rfl, _, rfl, l, _, _, _, rfl, rfl, hl, rfl, ?_⟩
    refine ⟨_, rfl, l, _, _, _, rfl, rfl, SqL.of upd_same, rfl, ?_⟩
    refine ⟨_, rfl, l, _, _, _, rfl, rfl, SqL.of upd_same, rfl, _, rfl, ?_⟩
    cases fl with
    | true =>
      refine iteT ?_
      refine ⟨_, rfl, l, _, _, _, rfl, rfl, SqL.of upd_same, rfl, _, _, rfl, rfl, ⟨by decide, by decide, by decide⟩, _, _, rfl, rfl, md, ?_⟩
      refine ⟨_, rfl, l, _, _, _, rfl, rfl, SqL.of upd_same, rfl, _, _, rfl, rfl, ⟨by decide, by decide, by decide⟩, _, _, rfl, rfl, ⟨by decide, by decide⟩, _, rfl, l, _, _, _, rfl, rfl, upd_same, rfl, ?_⟩
      refine ⟨_, rfl, ?_⟩
      have h1 := Int.emod_nonneg d (show (1000000 : Int) ≠ 0 by decide)
      have h2 := Int.emod_lt_of_pos d (show (0 : Int) < 1000000 by decide)
      refine q (d % 1000000) _ h1 (by omega) (fun b o hb e => ?_) ⟨_, _, _, upd_same, by omega, by omega⟩
      rw [upd_ne hb, upd_ne hb]
      exact e
    | false =>
      refine iteF ?_
      have g1 := Int.emod_nonneg ((d % 1000003 + (k + 1) * (k + 1) * 7919 + (k + 1)) * 48271) (show (2147483629 : Int) ≠ 0 by decide)
      have g2 := Int.emod_lt_of_pos ((d % 1000003 + (k + 1) * (k + 1) * 7919 + (k + 1)) * 48271) (show (0 : Int) < 2147483629 by decide)
      refine ⟨_, rfl, l, _, _, _, rfl, rfl, SqL.of upd_same, rfl, _, _, rfl, rfl, md, _, rfl, _, rfl, _, _, rfl, rfl, .inl ⟨by omega, by omega⟩, _, _, rfl, rfl, .inr ⟨by decide, by decide⟩, _, _, rfl, rfl, _, rfl, _, _, rfl, rfl, _, _, rfl, rfl, .inr ⟨by decide, by decide⟩, _, _, rfl, rfl, md, ?_⟩
      refine ⟨_, rfl, _, rfl, _, _, rfl, rfl, .inl ⟨Int.lt_of_lt_of_le (by decide) g1, Int.lt_trans g2 (by decide)⟩, _, _, rfl, rfl, md, ?_⟩
      generalize hz : ((d % 1000003 + (k + 1) * (k + 1) * 7919 + (k + 1)) * 48271 % 2147483629) * ((d % 1000003 + (k + 1) * (k + 1) * 7919 + (k + 1)) * 48271 % 2147483629) = z
      have i1 := Int.emod_nonneg z (show (2147483587 : Int) ≠ 0 by decide)
      have i2 := Int.emod_lt_of_pos z (show (0 : Int) < 2147483587 by decide)
      refine ⟨_, rfl, _, rfl, _, _, rfl, rfl, _, _, rfl, rfl, .inl ⟨Int.lt_of_lt_of_le (by decide) i1, Int.lt_trans i2 (by decide)⟩, _, _, rfl, rfl, md, _, _, rfl, rfl, ⟨by decide, by decide⟩, ?_⟩
      have j1 := Int.emod_nonneg (z % 2147483587 * (z % 2147483587 + 2)) (show (2147483579 : Int) ≠ 0 by decide)
      have j2 := Int.emod_lt_of_pos (z % 2147483587 * (z % 2147483587 + 2)) (show (0 : Int) < 2147483579 by decide)
      refine q (z % 2147483587 * (z % 2147483587 + 2) % 2147483579 / 7) _ (by omega) (by omega) (fun b o hb e => ?_) ⟨_, _, _, upd_same, by omega, by omega⟩
      rw [upd_ne hb]
      exact e
end
/-! ### Share -/
def sf (t b : Int) : List (Str × V) := putF "bottom" (.int b) (putF "top" (.int t) [])
theorem tb_ : ¬ (("top" : Str) = "bottom") := by decide +kernel
theorem sf_eq (t b : Int) : sf t b = ([("top", V.int t), ("bottom", V.int b)] : List (Str × V)) := by
  show (if ("top" : Str) = "bottom" then [(("top" : Str), V.int b)] else (("top" : Str), V.int t) :: putF "bottom" (V.int b) []) = _
  rw [if_neg tb_]
  rfl
theorem sf_top (t b : Int) : (sf t b).lookup ("top" : Str) = some (.int t) := by
  unfold sf
  rw [lookup_putF, if_neg tb_, lookup_putF, if_pos rfl]
theorem sf_bottom (t b : Int) : (sf t b).lookup ("bottom" : Str) = some (.int b) := by
  unfold sf
  rw [lookup_putF, if_pos rfl]
/-- what the top says of the class -/
structure ShT (K : PySem.W.Frag) (C : Addr) : Prop where
  cl : Cls K C
  nT : NoAttr K C "top"
  nB : NoAttr K C "bottom"
/-- at p a Share of q -/
def Sh (C : Addr) (H : Hp) (p : Addr) (q : Rat) : Prop := ∃ dx, H p = some (.ins C dx (sf q.num q.den))
theorem Sh.same {C p : Addr} {H H1 : Hp} {q : Rat} (h : Sh C H p q) (s : Same H H1) : Sh C H1 p q := by
  obtain ⟨dx, e⟩ := h
  exact ⟨dx, s _ _ e⟩
/-- Share's __init__, with no bottom of 0 -/
def spShI (C : Addr) : Sp := fun vs H Q _ => ∃ (p dx : Addr) (t b : Int), vs = [.ref p, .int t, .int b] ∧ H p = some (.ins C dx []) ∧ b ≠ 0 ∧ Sz 8800 t ∧ Sz 8800 b ∧
  Q .non (upd H p (.ins C dx (sf (Rat.divInt t b).num (Rat.divInt t b).den)))
section
variable {P : Program} {w : World} {K : PySem.W.Frag} {mg : Str → Option Value} {base : Heap} {C : Addr}
theorem ok_shI (D : Di K mg "Share" C "Share.__init__" s_Share_init [.int 1]) (T : ShT K C) (g : Ca P w K mg base CX0 1 "common_divisor" s_common_divisor [] ["one", "two"] spGcd) : Ci P w K mg base CX0 2 "Share" C "Share.__init__" s_Share_init [.int 1] ["self", "top", "bottom"] (spShI C) := by
  refine ci0 (k := 1) D c_Share_init (fun vs H Q E h => ?_) fun f cdv A outer s H vs Q E hr h => ?_
  · obtain ⟨p, dx, t, b, rfl, _⟩ := h
    rfl
  · obtain ⟨p, dx, t, b, rfl, hp, hb, zt, zb, q⟩ := h
    refine ⟨_, pss_cons (ps_if (pt_cmpR op_eq (pv 2) pe_int (nomark _)) (pss_one ps_never) pss_nil)
      (pss_cons (ps_set (i := 3) c_Share_init.nd rfl (.inl rfl) (pe_ca g b_common_divisor hr (by decide) pass0 rfl (pa_cons (pv 1) (pa_cons (pv 2) pa_nil))))
      (pss_cons (ps_if (pt_cmpR op_lt (pv 2) pe_int (nomark _)) (pss_one (ps_set (i := 3) c_Share_init.nd rfl (.inl rfl) (pe_un un_neg (pv 3)))) pss_nil)
      (pss_cons (ps_fld (pv 0) (pe_op op_fdivA (pv 1) (pv 3)) rfl) (pss_one (ps_fld (pv 0) (pe_op op_fdivA (pv 2) (pv 3)) rfl))))), ?_⟩
    refine ⟨_, rfl, rfl, _, rfl, ?_⟩
    rw [decide_eq_false (show ¬ V.int b = V.int 0 from fun z => hb (V.int.inj z))]
    refine iteF ?_
    refine ⟨_, rfl, _, rfl, t, b, rfl, ?_⟩
    have fin : ∀ σ' : L2.St, σ' = [some (.ref p), some (.int t), some (.int b), some (.int (gs t b))] →
        tSeq (sFld K (tVar 0) (tOp (rI CDivA fun i j => .int (i.fdiv j)) (tVar 1) (tVar 3)) "top") (sFld K (tVar 0) (tOp (rI CDivA fun i j => .int (i.fdiv j)) (tVar 2) (tVar 3)) "bottom") { nx := fun _ H' => Q .non H', rt := Q } σ' H := by
      rintro σ' rfl
      refine ⟨_, rfl, _, rfl, _, _, rfl, rfl, ⟨gs_ne hb, gs_sz hb zb⟩, _, rfl, p, C, dx, _, rfl, hp, T.cl, T.nT, (by show 0 < 1000; decide), ?_⟩
      refine ⟨_, rfl, _, rfl, _, _, rfl, rfl, ⟨gs_ne hb, gs_sz hb zb⟩, _, rfl, p, C, dx, _, rfl, upd_same, T.cl, T.nB, (by show 1 < 1000; decide), ?_⟩
      rw [upd_upd]
      rw [← low_num hb, ← low_den hb] at q
      exact q
    refine ⟨_, rfl, _, _, rfl, rfl, _, rfl, ?_⟩
    by_cases hn : b < 0
    · rw [decide_eq_true hn]
      refine iteT ?_
      refine ⟨_, rfl, _, rfl, fin _ ?_⟩
      unfold gs
      rw [if_pos hn]
      rfl
    · rw [decide_eq_false hn]
      refine iteF (fin _ ?_)
      unfold gs
      rw [if_neg hn]
      rfl
theorem bd_Share2 : Bd1 "__init__" "Share.__init__" s_Share_init ["self", "top", "bottom"] 3 1 1 := fun _ _ _ _ _ _ _ us its hu hi => match us, hu, its, hi with | [_, _, _], _, [_], _ => ⟨_, rfl, rfl⟩
theorem bd_Share1 : Bd1 "__init__" "Share.__init__" s_Share_init ["self", "top", "bottom"] 2 0 1 := fun _ _ _ _ _ _ _ us its hu hi => match us, hu, its, hi with | [_, _], _, [_], _ => ⟨_, rfl, rfl⟩
end
/-- a new Share, read as its maker's caller wants it -/
theorem made_sh {C : Addr} {H : Hp} {R : Addr → Hp → Prop} {E : XK} {t b : Int} (hb : b ≠ 0) (zt : Sz 8800 t) (zb : Sz 8800 b) (h : ∀ p H', H p = none → Same H H' → Sh C H' p (Rat.divInt t b) → R p H') :
    ∀ x dx, H x = none → H dx = none → dx ≠ x → spShI C [.ref x, .int t, .int b] (upd (upd H dx (.own x)) x (.ins C dx [])) (fun v H2 => v = .non ∧ R x H2) E := by
  intro x dx hx hd ne
  refine ⟨x, dx, t, b, rfl, upd_same, hb, zt, zb, rfl, ?_⟩
  rw [upd_upd]
  refine h x _ hx (Same.upd (Same.new hd) ?_) ⟨dx, upd_same⟩
  rw [upd_ne ne.symm]
  exact hx
/-! ### the module's functions over Shares and whole numbers -/
structure ShX (K : PySem.W.Frag) (C : Addr) : Prop extends ShT K C where
  ty : ∀ (H : Hp) (a dx : Addr) (fs : List (Str × V)), H a = some (.ins C dx fs) → TyX K H (.ref a) (.ref C)
  nInt : PySem.W.kitOne K (.type "int") (.ref C) = some false
theorem kit_self {K : PySem.W.Frag} {C : Addr} : PySem.W.kitOne K (.ref C) (.ref C) = some true := by
  unfold PySem.W.kitOne
  rw [if_pos (by simp)]
/-- v stands for q: a whole number, or a Share -/
def Rv (C : Addr) (H : Hp) (v : V) (q : Rat) : Prop := (∃ i : Int, v = .int i ∧ q = (i : Rat)) ∨ ∃ p, v = .ref p ∧ Sh C H p q
theorem Rv.same {C : Addr} {H H1 : Hp} {v : V} {q : Rat} (h : Rv C H v q) (s : Same H H1) : Rv C H1 v q := by
  rcases h with h | ⟨p, e, h⟩
  · exact .inl h
  · exact .inr ⟨p, e, h.same s⟩
theorem Rv.int {C : Addr} {H : Hp} {i : Int} : Rv C H (.int i) (i : Rat) := .inl ⟨i, rfl, rfl⟩
theorem Sh.rv {C p : Addr} {H : Hp} {q : Rat} (h : Sh C H p q) : Rv C H (.ref p) q := .inr ⟨p, rfl, h⟩
def spAs (C : Addr) : Sp := fun vs H Q _ => ∃ (v : V) (q : Rat), vs = [v] ∧ Rv C H v q ∧ Rz 8700 q ∧ ∀ p H', Same H H' → Sh C H' p q → Q (.ref p) H'
/-- a function of two that tells a Share -/
def spTwo (C : Addr) (ok : Rat → Rat → Prop) (g : Rat → Rat → Rat) : Sp := fun vs H Q _ => ∃ (v u : V) (a b : Rat), vs = [v, u] ∧ Rv C H v a ∧ Rv C H u b ∧ Rz 4300 a ∧ Rz 4300 b ∧ ok a b ∧ ∀ p H', H p = none → Same H H' → Sh C H' p (g a b) → Q (.ref p) H'
def spBefore (C : Addr) : Sp := fun vs H Q _ => ∃ (v u : V) (a b : Rat), vs = [v, u] ∧ Rv C H v a ∧ Rv C H u b ∧ Rz 4300 a ∧ Rz 4300 b ∧ ∀ H', Same H H' → Q (.bl (decide (a < b))) H'
def spOne (C : Addr) (g : Rat → Int) : Sp := fun vs H Q _ => ∃ (v : V) (a : Rat), vs = [v] ∧ Rv C H v a ∧ Rz 8700 a ∧ ∀ H', Same H H' → Q (.int (g a)) H'
theorem divInt_one (i : Int) : Rat.divInt i 1 = (i : Rat) := by
  have := Rat.num_divInt_den (i : Rat)
  exact this
section
variable {P : Program} {w : World} {K : PySem.W.Frag} {mg : Str → Option Value} {base : Heap} {C : Addr}
theorem ok_as (D : Df K mg "as_share" s_as_share []) (T : ShX K C) (his : mg "isinstance" = none) (hC : mg "Share" = some (.ref C)) (m : Ci P w K mg base CX0 2 "Share" C "Share.__init__" s_Share_init [.int 1] ["self", "top", "bottom"] (spShI C)) :
    Ca P w K mg base CX0 4 "as_share" s_as_share [] ["number"] (spAs C) := by
  refine ca0 (k := 3) D c_as_share (fun vs H Q E h => ?_) fun f cdv A outer s H vs Q E hr h => ?_
  · obtain ⟨v, q, rfl, _⟩ := h
    rfl
  · obtain ⟨v, a, rfl, hv, za, q⟩ := h
    refine ⟨_, pss_cons (ps_if (pt_val (pe_callB call_isi rfl his (by decide +kernel) (pa_cons (pv 0) (pa_cons (pe_glob (v := .ref C) rfl hC rfl) pa_nil)))) (pss_one (ps_ret (pv 0))) pss_nil)
      (pss_one (ps_ret (pe_ci m bd_Share1 (by decide) rfl hr (by decide) pass0 rfl (pa_cons (pv 0) pa_nil)))), ?_⟩
    rcases hv with ⟨i, rfl, rfl⟩ | ⟨p, rfl, hp⟩
    · refine ⟨_, rfl, _, _, _, _, _, rfl, .own C, .base (.int i), T.nInt, _, rfl, iteF ?_⟩
      refine ⟨_, rfl, ?_⟩
      refine made_sh (by decide) (za.1.mono (by decide)) (by show 1 < 2 ^ 8800; exact Nat.one_lt_two_pow (by decide)) fun p H' _ hs hp => ?_
      rw [divInt_one] at hp
      exact q p H' hs hp
    · obtain ⟨dx, e⟩ := id hp
      refine ⟨_, rfl, _, _, _, _, _, rfl, .own C, T.ty _ _ _ _ e, kit_self, _, rfl, iteT ?_⟩
      exact ⟨_, rfl, q p H (Same.refl H) hp⟩
/-- the fields of a Share at p -/
theorem rd_top {i : Nat} {σ : L2.St} {H : Hp} {p : Addr} {a : Rat} {Q : VK} (T : ShT K C) (hp : Sh C H p a) (e : σ[i]? = some (some (.ref p))) (q : Q (.int a.num) H) : tFld K (tVar i) "top" σ H Q := by
  obtain ⟨dx, h⟩ := hp
  exact ⟨_, e, p, C, dx, _, _, rfl, h, T.cl, T.nT, sf_top _ _, q⟩
theorem rd_bottom {i : Nat} {σ : L2.St} {H : Hp} {p : Addr} {a : Rat} {Q : VK} (T : ShT K C) (hp : Sh C H p a) (e : σ[i]? = some (some (.ref p))) (q : Q (.int a.den) H) : tFld K (tVar i) "bottom" σ H Q := by
  obtain ⟨dx, h⟩ := hp
  exact ⟨_, e, p, C, dx, _, _, rfl, h, T.cl, T.nB, sf_bottom _ _, q⟩
end
section
variable {P : Program} {w : World} {K : PySem.W.Frag} {mg : Str → Option Value} {base : Heap} {C : Addr}

theorem ok_plus (D : Df K mg "plus" s_plus []) (T : ShX K C) (a : Ca P w K mg base CX0 4 "as_share" s_as_share [] ["number"] (spAs C)) (m : Ci P w K mg base CX0 2 "Share" C "Share.__init__" s_Share_init [.int 1] ["self", "top", "bottom"] (spShI C)) :
    Ca P w K mg base CX0 5 "plus" s_plus [] ["one", "two"] (spTwo C (fun _ _ => True) (fun a b => a + b)) := by
  refine ca0 (k := 4) D c_plus (fun vs H Q E h => ?_) fun f cdv A outer s H vs Q E hr h => ?_
  · obtain ⟨v, u, x, y, rfl, _⟩ := h
    rfl
  · obtain ⟨v, u, x, y, rfl, hv, hu, zx, zy, ok, q⟩ := h
    refine ⟨_, pss_cons (ps_set (i := 2) c_plus.nd rfl (.inl rfl) (pe_ca a b_as_share hr (by decide) pass0 rfl (pa_cons (pv 0) pa_nil)))
      (pss_cons (ps_set (i := 3) c_plus.nd rfl (.inl rfl) (pe_ca a b_as_share hr (by decide) pass0 rfl (pa_cons (pv 1) pa_nil)))
      (pss_one (ps_ret (pe_ci m bd_Share2 (by decide) rfl hr (by decide) pass0 rfl (pa_cons (pe_op op_add (pe_op op_mulA (pe_fld (pv 2) rfl) (pe_fld (pv 3) rfl)) (pe_op op_mulA (pe_fld (pv 3) rfl) (pe_fld (pv 2) rfl))) (pa_cons (pe_op op_mulA (pe_fld (pv 2) rfl) (pe_fld (pv 3) rfl)) pa_nil)))))), ?_⟩
    refine ⟨_, rfl, v, x, rfl, hv, zx.mono (by decide), fun p1 H1 s1 h1 => ?_⟩
    refine ⟨_, rfl, u, y, rfl, hu.same s1, zy.mono (by decide), fun p2 H2 s2 h2 => ?_⟩
    obtain ⟨d1, e1⟩ := h1.same s2
    obtain ⟨d2, e2⟩ := h2
    have mz : ∀ i j : Int, Sz 4300 i → Sz 4300 j → CMulA i j := fun i j hi hj => ⟨hi.mono (by decide), hj.mono (by decide)⟩
    refine ⟨_, rfl, p1, C, d1, _, _, rfl, e1, T.cl, T.nT, sf_top _ _, _, rfl, p2, C, d2, _, _, rfl, e2, T.cl, T.nB, sf_bottom _ _, _, _, rfl, rfl, mz _ _ zx.1 zy.2, _, rfl, p2, C, d2, _, _, rfl, e2, T.cl, T.nT, sf_top _ _, _, rfl, p1, C, d1, _, _, rfl, e1, T.cl, T.nB, sf_bottom _ _, _, _, rfl, rfl, mz _ _ zy.1 zx.2, _, _, rfl, rfl, _, rfl, p1, C, d1, _, _, rfl, e1, T.cl, T.nB, sf_bottom _ _, _, rfl, p2, C, d2, _, _, rfl, e2, T.cl, T.nB, sf_bottom _ _, _, _, rfl, rfl, mz _ _ zx.2 zy.2, ?_⟩
    refine made_sh (Int.ne_of_gt (Int.mul_pos (den_pos x) (den_pos y))) (Sz.add (n := 8600) ((zx.1.mul zy.2).mono (by decide)) ((zy.1.mul zx.2).mono (by decide)) (by decide)) ((zx.2.mul zy.2).mono (by decide)) fun p H' hp hs hq => ?_
    refine q p H' ((s1.trans s2).free hp) (s1.trans (s2.trans hs)) ?_
    exact (congrArg (Sh C H' p) (add_eq x y)).mpr hq


theorem ok_minus (D : Df K mg "minus" s_minus []) (T : ShX K C) (a : Ca P w K mg base CX0 4 "as_share" s_as_share [] ["number"] (spAs C)) (m : Ci P w K mg base CX0 2 "Share" C "Share.__init__" s_Share_init [.int 1] ["self", "top", "bottom"] (spShI C)) :
    Ca P w K mg base CX0 5 "minus" s_minus [] ["one", "two"] (spTwo C (fun _ _ => True) (fun a b => a - b)) := by
  refine ca0 (k := 4) D c_minus (fun vs H Q E h => ?_) fun f cdv A outer s H vs Q E hr h => ?_
  · obtain ⟨v, u, x, y, rfl, _⟩ := h
    rfl
  · obtain ⟨v, u, x, y, rfl, hv, hu, zx, zy, ok, q⟩ := h
    refine ⟨_, pss_cons (ps_set (i := 2) c_minus.nd rfl (.inl rfl) (pe_ca a b_as_share hr (by decide) pass0 rfl (pa_cons (pv 0) pa_nil)))
      (pss_cons (ps_set (i := 3) c_minus.nd rfl (.inl rfl) (pe_ca a b_as_share hr (by decide) pass0 rfl (pa_cons (pv 1) pa_nil)))
      (pss_one (ps_ret (pe_ci m bd_Share2 (by decide) rfl hr (by decide) pass0 rfl (pa_cons (pe_op op_sub (pe_op op_mulA (pe_fld (pv 2) rfl) (pe_fld (pv 3) rfl)) (pe_op op_mulA (pe_fld (pv 3) rfl) (pe_fld (pv 2) rfl))) (pa_cons (pe_op op_mulA (pe_fld (pv 2) rfl) (pe_fld (pv 3) rfl)) pa_nil)))))), ?_⟩
    refine ⟨_, rfl, v, x, rfl, hv, zx.mono (by decide), fun p1 H1 s1 h1 => ?_⟩
    refine ⟨_, rfl, u, y, rfl, hu.same s1, zy.mono (by decide), fun p2 H2 s2 h2 => ?_⟩
    obtain ⟨d1, e1⟩ := h1.same s2
    obtain ⟨d2, e2⟩ := h2
    have mz : ∀ i j : Int, Sz 4300 i → Sz 4300 j → CMulA i j := fun i j hi hj => ⟨hi.mono (by decide), hj.mono (by decide)⟩
    refine ⟨_, rfl, p1, C, d1, _, _, rfl, e1, T.cl, T.nT, sf_top _ _, _, rfl, p2, C, d2, _, _, rfl, e2, T.cl, T.nB, sf_bottom _ _, _, _, rfl, rfl, mz _ _ zx.1 zy.2, _, rfl, p2, C, d2, _, _, rfl, e2, T.cl, T.nT, sf_top _ _, _, rfl, p1, C, d1, _, _, rfl, e1, T.cl, T.nB, sf_bottom _ _, _, _, rfl, rfl, mz _ _ zy.1 zx.2, _, _, rfl, rfl, _, rfl, p1, C, d1, _, _, rfl, e1, T.cl, T.nB, sf_bottom _ _, _, rfl, p2, C, d2, _, _, rfl, e2, T.cl, T.nB, sf_bottom _ _, _, _, rfl, rfl, mz _ _ zx.2 zy.2, ?_⟩
    refine made_sh (Int.ne_of_gt (Int.mul_pos (den_pos x) (den_pos y))) (Sz.sub (n := 8600) ((zx.1.mul zy.2).mono (by decide)) ((zy.1.mul zx.2).mono (by decide)) (by decide)) ((zx.2.mul zy.2).mono (by decide)) fun p H' hp hs hq => ?_
    refine q p H' ((s1.trans s2).free hp) (s1.trans (s2.trans hs)) ?_
    exact (congrArg (Sh C H' p) (sub_eq x y)).mpr hq


theorem ok_times (D : Df K mg "times" s_times []) (T : ShX K C) (a : Ca P w K mg base CX0 4 "as_share" s_as_share [] ["number"] (spAs C)) (m : Ci P w K mg base CX0 2 "Share" C "Share.__init__" s_Share_init [.int 1] ["self", "top", "bottom"] (spShI C)) :
    Ca P w K mg base CX0 5 "times" s_times [] ["one", "two"] (spTwo C (fun _ _ => True) (fun a b => a * b)) := by
  refine ca0 (k := 4) D c_times (fun vs H Q E h => ?_) fun f cdv A outer s H vs Q E hr h => ?_
  · obtain ⟨v, u, x, y, rfl, _⟩ := h
    rfl
  · obtain ⟨v, u, x, y, rfl, hv, hu, zx, zy, ok, q⟩ := h
    refine ⟨_, pss_cons (ps_set (i := 2) c_times.nd rfl (.inl rfl) (pe_ca a b_as_share hr (by decide) pass0 rfl (pa_cons (pv 0) pa_nil)))
      (pss_cons (ps_set (i := 3) c_times.nd rfl (.inl rfl) (pe_ca a b_as_share hr (by decide) pass0 rfl (pa_cons (pv 1) pa_nil)))
      (pss_one (ps_ret (pe_ci m bd_Share2 (by decide) rfl hr (by decide) pass0 rfl (pa_cons (pe_op op_mulA (pe_fld (pv 2) rfl) (pe_fld (pv 3) rfl)) (pa_cons (pe_op op_mulA (pe_fld (pv 2) rfl) (pe_fld (pv 3) rfl)) pa_nil)))))), ?_⟩
    refine ⟨_, rfl, v, x, rfl, hv, zx.mono (by decide), fun p1 H1 s1 h1 => ?_⟩
    refine ⟨_, rfl, u, y, rfl, hu.same s1, zy.mono (by decide), fun p2 H2 s2 h2 => ?_⟩
    obtain ⟨d1, e1⟩ := h1.same s2
    obtain ⟨d2, e2⟩ := h2
    have mz : ∀ i j : Int, Sz 4300 i → Sz 4300 j → CMulA i j := fun i j hi hj => ⟨hi.mono (by decide), hj.mono (by decide)⟩
    refine ⟨_, rfl, p1, C, d1, _, _, rfl, e1, T.cl, T.nT, sf_top _ _, _, rfl, p2, C, d2, _, _, rfl, e2, T.cl, T.nT, sf_top _ _, _, _, rfl, rfl, mz _ _ zx.1 zy.1, _, rfl, p1, C, d1, _, _, rfl, e1, T.cl, T.nB, sf_bottom _ _, _, rfl, p2, C, d2, _, _, rfl, e2, T.cl, T.nB, sf_bottom _ _, _, _, rfl, rfl, mz _ _ zx.2 zy.2, ?_⟩
    refine made_sh (Int.ne_of_gt (Int.mul_pos (den_pos x) (den_pos y))) ((zx.1.mul zy.1).mono (by decide)) ((zx.2.mul zy.2).mono (by decide)) fun p H' hp hs hq => ?_
    refine q p H' ((s1.trans s2).free hp) (s1.trans (s2.trans hs)) ?_
    exact (congrArg (Sh C H' p) (mul_eq x y)).mpr hq


theorem ok_over (D : Df K mg "over" s_over []) (T : ShX K C) (a : Ca P w K mg base CX0 4 "as_share" s_as_share [] ["number"] (spAs C)) (m : Ci P w K mg base CX0 2 "Share" C "Share.__init__" s_Share_init [.int 1] ["self", "top", "bottom"] (spShI C)) :
    Ca P w K mg base CX0 5 "over" s_over [] ["one", "two"] (spTwo C (fun _ b => b ≠ 0) (fun a b => a / b)) := by
  refine ca0 (k := 4) D c_over (fun vs H Q E h => ?_) fun f cdv A outer s H vs Q E hr h => ?_
  · obtain ⟨v, u, x, y, rfl, _⟩ := h
    rfl
  · obtain ⟨v, u, x, y, rfl, hv, hu, zx, zy, ok, q⟩ := h
    refine ⟨_, pss_cons (ps_set (i := 2) c_over.nd rfl (.inl rfl) (pe_ca a b_as_share hr (by decide) pass0 rfl (pa_cons (pv 0) pa_nil)))
      (pss_cons (ps_set (i := 3) c_over.nd rfl (.inl rfl) (pe_ca a b_as_share hr (by decide) pass0 rfl (pa_cons (pv 1) pa_nil)))
      (pss_one (ps_ret (pe_ci m bd_Share2 (by decide) rfl hr (by decide) pass0 rfl (pa_cons (pe_op op_mulA (pe_fld (pv 2) rfl) (pe_fld (pv 3) rfl)) (pa_cons (pe_op op_mulA (pe_fld (pv 2) rfl) (pe_fld (pv 3) rfl)) pa_nil)))))), ?_⟩
    refine ⟨_, rfl, v, x, rfl, hv, zx.mono (by decide), fun p1 H1 s1 h1 => ?_⟩
    refine ⟨_, rfl, u, y, rfl, hu.same s1, zy.mono (by decide), fun p2 H2 s2 h2 => ?_⟩
    obtain ⟨d1, e1⟩ := h1.same s2
    obtain ⟨d2, e2⟩ := h2
    have mz : ∀ i j : Int, Sz 4300 i → Sz 4300 j → CMulA i j := fun i j hi hj => ⟨hi.mono (by decide), hj.mono (by decide)⟩
    refine ⟨_, rfl, p1, C, d1, _, _, rfl, e1, T.cl, T.nT, sf_top _ _, _, rfl, p2, C, d2, _, _, rfl, e2, T.cl, T.nB, sf_bottom _ _, _, _, rfl, rfl, mz _ _ zx.1 zy.2, _, rfl, p1, C, d1, _, _, rfl, e1, T.cl, T.nB, sf_bottom _ _, _, rfl, p2, C, d2, _, _, rfl, e2, T.cl, T.nT, sf_top _ _, _, _, rfl, rfl, mz _ _ zx.2 zy.1, ?_⟩
    refine made_sh (Int.mul_ne_zero (Int.ne_of_gt (den_pos x)) (fun z => ok (Rat.num_eq_zero.mp z))) ((zx.1.mul zy.2).mono (by decide)) ((zx.2.mul zy.1).mono (by decide)) fun p H' hp hs hq => ?_
    refine q p H' ((s1.trans s2).free hp) (s1.trans (s2.trans hs)) ?_
    exact (congrArg (Sh C H' p) (div_eq x y ok)).mpr hq


theorem ok_before (D : Df K mg "before" s_before []) (T : ShX K C) (a : Ca P w K mg base CX0 4 "as_share" s_as_share [] ["number"] (spAs C)) : Ca P w K mg base CX0 5 "before" s_before [] ["one", "two"] (spBefore C) := by
  refine ca0 (k := 4) D c_before (fun vs H Q E h => ?_) fun f cdv A outer s H vs Q E hr h => ?_
  · obtain ⟨v, u, x, y, rfl, _⟩ := h
    rfl
  · obtain ⟨v, u, x, y, rfl, hv, hu, zx, zy, q⟩ := h
    refine ⟨_, pss_cons (ps_set (i := 2) c_before.nd rfl (.inl rfl) (pe_ca a b_as_share hr (by decide) pass0 rfl (pa_cons (pv 0) pa_nil)))
      (pss_cons (ps_set (i := 3) c_before.nd rfl (.inl rfl) (pe_ca a b_as_share hr (by decide) pass0 rfl (pa_cons (pv 1) pa_nil)))
      (pss_one (ps_ret (pe_cmpR op_lt (pe_op op_mulA (pe_fld (pv 2) rfl) (pe_fld (pv 3) rfl)) (pe_op op_mulA (pe_fld (pv 3) rfl) (pe_fld (pv 2) rfl)) (nomark _))))), ?_⟩
    refine ⟨_, rfl, v, x, rfl, hv, zx.mono (by decide), fun p1 H1 s1 h1 => ?_⟩
    refine ⟨_, rfl, u, y, rfl, hu.same s1, zy.mono (by decide), fun p2 H2 s2 h2 => ?_⟩
    obtain ⟨d1, e1⟩ := h1.same s2
    obtain ⟨d2, e2⟩ := h2
    have mz : ∀ i j : Int, Sz 4300 i → Sz 4300 j → CMulA i j := fun i j hi hj => ⟨hi.mono (by decide), hj.mono (by decide)⟩
    refine ⟨_, rfl, p1, C, d1, _, _, rfl, e1, T.cl, T.nT, sf_top _ _, _, rfl, p2, C, d2, _, _, rfl, e2, T.cl, T.nB, sf_bottom _ _, _, _, rfl, rfl, mz _ _ zx.1 zy.2, _, rfl, p2, C, d2, _, _, rfl, e2, T.cl, T.nT, sf_top _ _, _, rfl, p1, C, d1, _, _, rfl, e1, T.cl, T.nB, sf_bottom _ _, _, _, rfl, rfl, mz _ _ zy.1 zx.2, _, _, rfl, rfl, ?_⟩
    have e : decide (x.num * (y.den : Int) < y.num * (x.den : Int)) = decide (x < y) := by
      rw [decide_eq_decide]
      exact (lt_iff' x y).symm
    show Q (V.bl (decide (x.num * (y.den : Int) < y.num * (x.den : Int)))) _
    rw [e]
    exact q H2 (s1.trans s2)


theorem ok_whole (D : Df K mg "whole" s_whole []) (T : ShX K C) (a : Ca P w K mg base CX0 4 "as_share" s_as_share [] ["number"] (spAs C)) : Ca P w K mg base CX0 5 "whole" s_whole [] ["share"] (spOne C Rat.floor) := by
  refine ca0 (k := 4) D c_whole (fun vs H Q E h => ?_) fun f cdv A outer s H vs Q E hr h => ?_
  · obtain ⟨v, x, rfl, _⟩ := h
    rfl
  · obtain ⟨v, x, rfl, hv, zx, q⟩ := h
    refine ⟨_, pss_cons (ps_set (i := 1) c_whole.nd rfl (.inl rfl) (pe_ca a b_as_share hr (by decide) pass0 rfl (pa_cons (pv 0) pa_nil)))
      (pss_one (ps_ret (pe_op op_fdivA (pe_fld (pv 1) rfl) (pe_fld (pv 1) rfl)))), ?_⟩
    refine ⟨_, rfl, v, x, rfl, hv, zx, fun p1 H1 s1 h1 => ?_⟩
    obtain ⟨d1, e1⟩ := h1
    refine ⟨_, rfl, p1, C, d1, _, _, rfl, e1, T.cl, T.nT, sf_top _ _, _, rfl, p1, C, d1, _, _, rfl, e1, T.cl, T.nB, sf_bottom _ _, _, _, rfl, rfl, ⟨Int.ne_of_gt (den_pos x), zx.2.mono (by decide)⟩, ?_⟩
    have e : x.num.fdiv (x.den : Int) = x.floor := by rw [Rat.floor_def, Int.fdiv_eq_ediv_of_nonneg _ (Int.le_of_lt (den_pos x))]
    show Q (V.int (x.num.fdiv (x.den : Int))) _
    rw [e]
    exact q H1 s1
end
section
variable {P : Program} {w : World} {K : PySem.W.Frag} {mg : Str → Option Value} {base : Heap} {C : Addr}
theorem ok_rounded (D : Df K mg "rounded_up" s_rounded_up []) (T : ShX K C) (a : Ca P w K mg base CX0 4 "as_share" s_as_share [] ["number"] (spAs C)) : Ca P w K mg base CX0 5 "rounded_up" s_rounded_up [] ["share"] (spOne C Rat.ceil) := by
  refine ca0 (k := 4) D c_rounded_up (fun vs H Q E h => ?_) fun f cdv A outer s H vs Q E hr h => ?_
  · obtain ⟨v, x, rfl, _⟩ := h
    rfl
  · obtain ⟨v, x, rfl, hv, zx, q⟩ := h
    refine ⟨_, pss_cons (ps_set (i := 1) c_rounded_up.nd rfl (.inl rfl) (pe_ca a b_as_share hr (by decide) pass0 rfl (pa_cons (pv 0) pa_nil)))
      (pss_one (ps_ret (pe_un un_neg (pe_op op_fdivA (pe_un un_neg (pe_fld (pv 1) rfl)) (pe_fld (pv 1) rfl))))), ?_⟩
    refine ⟨_, rfl, v, x, rfl, hv, zx, fun p1 H1 s1 h1 => ?_⟩
    obtain ⟨d1, e1⟩ := h1
    refine ⟨_, rfl, p1, C, d1, _, _, rfl, e1, T.cl, T.nT, sf_top _ _, _, rfl, _, rfl, p1, C, d1, _, _, rfl, e1, T.cl, T.nB, sf_bottom _ _, _, _, rfl, rfl, ⟨Int.ne_of_gt (den_pos x), zx.2.mono (by decide)⟩, _, rfl, ?_⟩
    have e : -((-x.num).fdiv (x.den : Int)) = x.ceil := by rw [Int.fdiv_eq_ediv_of_nonneg _ (Int.le_of_lt (den_pos x)), neg_div_ceil]
    show Q (V.int (-((-x.num).fdiv (x.den : Int)))) _
    rw [e]
    exact q H1 s1
end
/-! ### Calendar's helpers -/
theorem twelve_ne : ((12 : Int) : Rat) ≠ 0 := by decide
theorem szi {n : Nat} (i : Int) (h : i.natAbs < 2 ^ n := by decide) : Sz n i := h
def spTw (C : Addr) : Sp := fun vs H Q _ => ∃ (v : V) (a : Rat), vs = [v] ∧ Rv C H v a ∧ Rz 4000 a ∧ ∀ p H', H p = none → Same H H' → Sh C H' p (a / 12) → Q (.ref p) H'
def spNth (C : Addr) : Sp := fun vs H Q _ => ∃ (v u : V) (a b : Rat) (n : Int), vs = [v, u, .int n] ∧ Rv C H v a ∧ Rv C H u b ∧ Rz 600 a ∧ Rz 600 b ∧ Sz 3000 n ∧ ∀ H', Same H H' → Q (.int (a + n * b).floor) H'
def spFrom (C : Addr) : Sp := fun vs H Q _ => ∃ (v u : V) (a b : Rat) (n : Int), vs = [v, u, .int n] ∧ Rv C H v a ∧ Rv C H u b ∧ Rz 600 a ∧ Rz 600 b ∧ Sz 3000 n ∧ b ≠ 0 ∧ ∀ H', Same H H' → Q (.int (((n : Rat) - a) / b).ceil) H'
def spUnfit (C : Addr) : Sp := fun vs H Q _ => ∃ (v u : V) (m y : Rat), vs = [v, u] ∧ Rv C H v m ∧ Rv C H u y ∧ Rz 600 m ∧ Rz 600 y ∧ Fit m y ∧ ∀ H', Same H H' → Q .non H'
/-- a moment that may not be told -/
def Mv (C : Addr) (H : Hp) (v : V) (q : Rat) : Prop := (v = .non ∧ q = 0) ∨ Rv C H v q
theorem Mv.same {C : Addr} {H H1 : Hp} {v : V} {q : Rat} (h : Mv C H v q) (s : Same H H1) : Mv C H1 v q := by
  rcases h with h | h
  · exact .inl h
  · exact .inr (h.same s)
def spMoment (C : Addr) : Sp := fun vs H Q _ => ∃ (v : V) (q : Rat), vs = [v] ∧ Mv C H v q ∧ Rz 600 q ∧ ∀ p H', Same H H' → Sh C H' p q → Q (.ref p) H'
/-- the functions over Shares that Calendar uses -/
structure ShF (P : Program) (w : World) (K : PySem.W.Frag) (mg : Str → Option Value) (base : Heap) (C : Addr) : Prop where
  T : ShX K C
  mkS : Ci P w K mg base CX0 2 "Share" C "Share.__init__" s_Share_init [.int 1] ["self", "top", "bottom"] (spShI C)
  asS : Ca P w K mg base CX0 4 "as_share" s_as_share [] ["number"] (spAs C)
  plus : Ca P w K mg base CX0 5 "plus" s_plus [] ["one", "two"] (spTwo C (fun _ _ => True) (fun a b => a + b))
  minus : Ca P w K mg base CX0 5 "minus" s_minus [] ["one", "two"] (spTwo C (fun _ _ => True) (fun a b => a - b))
  times : Ca P w K mg base CX0 5 "times" s_times [] ["one", "two"] (spTwo C (fun _ _ => True) (fun a b => a * b))
  over : Ca P w K mg base CX0 5 "over" s_over [] ["one", "two"] (spTwo C (fun _ b => b ≠ 0) (fun a b => a / b))
  before : Ca P w K mg base CX0 5 "before" s_before [] ["one", "two"] (spBefore C)
  whole : Ca P w K mg base CX0 5 "whole" s_whole [] ["share"] (spOne C Rat.floor)
  up : Ca P w K mg base CX0 5 "rounded_up" s_rounded_up [] ["share"] (spOne C Rat.ceil)
  marks : ∃ t, mg "MARKS" = some (.int 12 t)
section
variable {P : Program} {w : World} {K : PySem.W.Frag} {mg : Str → Option Value} {base : Heap} {C : Addr}
theorem ok_tw (D : Df K mg "twelfth" s_twelfth []) (F : ShF P w K mg base C) : Ca P w K mg base CX0 6 "twelfth" s_twelfth [] ["year"] (spTw C) := by
  refine ca0 (k := 5) D c_twelfth (fun vs H Q E h => ?_) fun f cdv A outer s H vs Q E hr h => ?_
  · obtain ⟨v, q, rfl, _⟩ := h
    rfl
  · obtain ⟨v, a, rfl, hv, za, q⟩ := h
    obtain ⟨tk, hM⟩ := F.marks
    refine ⟨_, pss_one (ps_ret (pe_ca F.over b_over hr (by decide) pass0 rfl (pa_cons (pv 0) (pa_cons (pe_glob (v := .int 12) rfl hM ⟨_, rfl⟩) pa_nil)))), ?_⟩
    exact ⟨_, rfl, v, .int 12, a, _, rfl, hv, Rv.int, za.mono (by decide), Rz.int (szi 12) (by decide), twelve_ne, q⟩
end
section
variable {P : Program} {w : World} {K : PySem.W.Frag} {mg : Str → Option Value} {base : Heap} {C : Addr}
theorem ok_moment (D : Df K mg "moment_or_nought" s_moment_or_nought []) (F : ShF P w K mg base C) : Ca P w K mg base CX0 6 "moment_or_nought" s_moment_or_nought [] ["moment"] (spMoment C) := by
  refine ca0 (k := 5) D c_moment_or_nought (fun vs H Q E h => ?_) fun f cdv A outer s H vs Q E hr h => ?_
  · obtain ⟨v, q, rfl, _⟩ := h
    rfl
  · obtain ⟨v, a, rfl, hv, za, q⟩ := h
    refine ⟨_, pss_cons (ps_if (pt_cmp (pc_isN (pv 0))) (pss_one (ps_ret (pe_ci F.mkS bd_Share1 (by decide) rfl hr (by decide) pass0 rfl (pa_cons pe_int pa_nil)))) pss_nil)
      (pss_one (ps_ret (pe_ca F.asS b_as_share hr (by decide) pass0 rfl (pa_cons (pv 0) pa_nil)))), ?_⟩
    rcases hv with ⟨rfl, rfl⟩ | hv
    · refine ⟨_, rfl, _, rfl, iteT ?_⟩
      refine made_sh (by decide) (szi 0) (szi 1) fun p H' _ hs hp => ?_
      rw [divInt_one] at hp
      exact q p H' hs hp
    · have hn : v ≠ .non := by
        rcases hv with ⟨i, rfl, _⟩ | ⟨p, rfl, _⟩ <;> exact fun z => nomatch z
      refine ⟨_, rfl, _, rfl, ?_⟩
      rw [decide_eq_false hn]
      refine iteF ?_
      exact ⟨_, rfl, v, a, rfl, hv, za.mono (by decide), q⟩
end
section
variable {P : Program} {w : World} {K : PySem.W.Frag} {mg : Str → Option Value} {base : Heap} {C : Addr}
theorem ok_unfit (D : Df K mg "refuse_unfit" s_refuse_unfit []) (F : ShF P w K mg base C) (tw : Ca P w K mg base CX0 6 "twelfth" s_twelfth [] ["year"] (spTw C)) : Ca P w K mg base CX0 7 "refuse_unfit" s_refuse_unfit [] ["month", "year"] (spUnfit C) := by
  refine ca0 (k := 6) D c_refuse_unfit (fun vs H Q E h => ?_) fun f cdv A outer s H vs Q E hr h => ?_
  · obtain ⟨v, u, m, y, rfl, _⟩ := h
    rfl
  · obtain ⟨v, u, m, y, rfl, hv, hu, zm, zy, ft, q⟩ := h
    obtain ⟨tk, hM⟩ := F.marks
    refine ⟨_, pss_cons (ps_if (pt_val (pe_ca F.before b_before hr (by decide) pass0 rfl (pa_cons (pv 0) (pa_cons pe_int pa_nil)))) (pss_one ps_never) pss_nil)
      (pss_cons (ps_if (pt_val (pe_ca F.before b_before hr (by decide) pass0 rfl (pa_cons (pe_ca tw b_twelfth hr (by decide) pass0 rfl (pa_cons (pv 1) pa_nil)) (pa_cons (pe_ca F.up b_rounded_up hr (by decide) pass0 rfl (pa_cons (pv 0) pa_nil)) pa_nil)))) (pss_one ps_never) pss_nil)
      (pss_one (ps_if (pt_val (pe_ca F.before b_before hr (by decide) pass0 rfl (pa_cons (pe_ca F.times b_times hr (by decide) pass0 rfl (pa_cons (pe_op op_add (pe_glob (v := .int 12) rfl hM ⟨_, rfl⟩) pe_int) (pa_cons (pv 0) pa_nil)))
        (pa_cons (pe_ca F.plus b_plus hr (by decide) pass0 rfl (pa_cons (pv 1) (pa_cons pe_int pa_nil))) pa_nil)))) (pss_one ps_never) pss_nil))), ?_⟩
    refine ⟨_, rfl, v, .int 1, m, _, rfl, hv, Rv.int, zm.mono (by decide), Rz.int (szi 1) (by decide), fun H1 s1 => ⟨_, rfl, ?_⟩⟩
    rw [decide_eq_false (show ¬ m < ((1 : Int) : Rat) from Rat.not_lt.mpr ft.one)]
    refine iteF ?_
    refine ⟨_, rfl, u, y, rfl, hu.same s1, zy.mono (by decide), fun p2 H2 n2 s2 h2 => ?_⟩
    refine ⟨_, rfl, v, m, rfl, hv.same (s1.trans s2), zm.mono (by decide), fun H3 s3 => ?_⟩
    have z2 : Rz 700 (y / 12) := zy.div (l := 4) (Rz.int (szi 12) (by decide)) twelve_ne (by decide)
    refine ⟨.ref p2, .int m.ceil, _, _, rfl, (h2.same s3).rv, Rv.int, z2.mono (by decide), Rz.int ((Sz.ceil zm).mono (by decide)) (by decide), fun H4 s4 => ⟨_, rfl, ?_⟩⟩
    rw [decide_eq_false (show ¬ y / 12 < (m.ceil : Rat) from Rat.not_lt.mpr ft.between)]
    refine iteF ?_
    have s14 : Same H H4 := s1.trans (s2.trans (s3.trans s4))
    refine ⟨_, _, rfl, rfl, _, rfl, .int 13, v, _, m, rfl, Rv.int, hv.same s14, Rz.int (szi 13) (by decide), zm.mono (by decide), trivial, fun p5 H5 n5 s5 h5 => ?_⟩
    refine ⟨_, rfl, u, .int 1, y, _, rfl, hu.same (s14.trans s5), Rv.int, zy.mono (by decide), Rz.int (szi 1) (by decide), trivial, fun p6 H6 n6 s6 h6 => ?_⟩
    have z5 : Rz 700 (((13 : Int) : Rat) * m) := Rz.mul (n := 4) (Rz.int (szi 13) (by decide)) zm (by decide)
    have z6 : Rz 700 (y + ((1 : Int) : Rat)) := zy.add (l := 1) (Rz.int (szi 1) (by decide)) (by decide)
    refine ⟨.ref p5, .ref p6, _, _, rfl, (h5.same s6).rv, h6.rv, z5.mono (by decide), z6.mono (by decide), fun H7 s7 => ⟨_, rfl, ?_⟩⟩
    rw [decide_eq_false (show ¬ ((13 : Int) : Rat) * m < y + ((1 : Int) : Rat) from Rat.not_lt.mpr ft.thirteen)]
    refine iteF ?_
    exact q H7 (s14.trans (s5.trans (s6.trans s7)))
end
/-! ### Calendar -/
def cfs (a b c d : Addr) : List (Str × V) := putF "mark" (.ref d) (putF "moon" (.ref c) (putF "year" (.ref b) (putF "month" (.ref a) [])))
theorem my_ : ¬ (("month" : Str) = "year") := by decide +kernel
theorem mm_ : ¬ (("month" : Str) = "moon") := by decide +kernel
theorem mk_ : ¬ (("month" : Str) = "mark") := by decide +kernel
theorem ym_ : ¬ (("year" : Str) = "moon") := by decide +kernel
theorem yk_ : ¬ (("year" : Str) = "mark") := by decide +kernel
theorem ok_ : ¬ (("moon" : Str) = "mark") := by decide +kernel
theorem cf_month (a b c d : Addr) : (cfs a b c d).lookup ("month" : Str) = some (.ref a) := by
  unfold cfs
  rw [lookup_putF, if_neg mk_, lookup_putF, if_neg mm_, lookup_putF, if_neg my_, lookup_putF, if_pos rfl]
theorem cf_year (a b c d : Addr) : (cfs a b c d).lookup ("year" : Str) = some (.ref b) := by
  unfold cfs
  rw [lookup_putF, if_neg yk_, lookup_putF, if_neg ym_, lookup_putF, if_pos rfl]
theorem cf_moon (a b c d : Addr) : (cfs a b c d).lookup ("moon" : Str) = some (.ref c) := by
  unfold cfs
  rw [lookup_putF, if_neg ok_, lookup_putF, if_pos rfl]
theorem cf_mark (a b c d : Addr) : (cfs a b c d).lookup ("mark" : Str) = some (.ref d) := by
  unfold cfs
  rw [lookup_putF, if_pos rfl]
theorem cf_no (a b c d : Addr) {m : Str} (h1 : ¬ m = "mark" := by decide +kernel) (h2 : ¬ m = "moon" := by decide +kernel) (h3 : ¬ m = "year" := by decide +kernel) (h4 : ¬ m = "month" := by decide +kernel) : (cfs a b c d).lookup m = none := by
  unfold cfs
  rw [lookup_putF, if_neg h1, lookup_putF, if_neg h2, lookup_putF, if_neg h3, lookup_putF, if_neg h4]
  rfl
structure CaT (K : PySem.W.Frag) (C Cc : Addr) : Prop where
  cl : Cls K Cc
  n1 : NoAttr K Cc "month"
  n2 : NoAttr K Cc "year"
  n3 : NoAttr K Cc "moon"
  n4 : NoAttr K Cc "mark"
  ne : Cc ≠ C
/-- at p a Calendar of these four -/
def Cl (C Cc : Addr) (H : Hp) (p : Addr) (m y o k : Rat) : Prop := ∃ dx a b c d, H p = some (.ins Cc dx (cfs a b c d)) ∧ Sh C H a m ∧ Sh C H b y ∧ Sh C H c o ∧ Sh C H d k
theorem Cl.same {C Cc : Addr} {H H1 : Hp} {p : Addr} {m y o k : Rat} (h : Cl C Cc H p m y o k) (s : Same H H1) : Cl C Cc H1 p m y o k := by
  obtain ⟨dx, a, b, c, d, e, h1, h2, h3, h4⟩ := h
  exact ⟨dx, a, b, c, d, s _ _ e, h1.same s, h2.same s, h3.same s, h4.same s⟩
/-- one that can be reckoned with -/
structure Good (m y o k : Rat) : Prop where
  fit : Fit m y
  zm : Rz 70 m
  zy : Rz 70 y
  zo : Rz 70 o
  zk : Rz 70 k
theorem Sh.put {C Cc : Addr} {H : Hp} {p dx a : Addr} {fs gs : List (Str × V)} {q : Rat} (ne : Cc ≠ C) (hp : H p = some (.ins Cc dx fs)) (h : Sh C H a q) : Sh C (upd H p (.ins Cc dx gs)) a q := by
  obtain ⟨d, e⟩ := h
  refine ⟨d, ?_⟩
  rw [upd_ne (ne_of e hp fun z => ne (by injection z with z1 z2 z3; exact z1.symm))]
  exact e
theorem Rv.put {C Cc : Addr} {H : Hp} {p dx : Addr} {v : V} {fs gs : List (Str × V)} {q : Rat} (ne : Cc ≠ C) (hp : H p = some (.ins Cc dx fs)) (h : Rv C H v q) : Rv C (upd H p (.ins Cc dx gs)) v q := by
  rcases h with h | ⟨a, e, h⟩
  · exact .inl h
  · exact .inr ⟨a, e, h.put ne hp⟩
theorem Mv.put {C Cc : Addr} {H : Hp} {p dx : Addr} {v : V} {fs gs : List (Str × V)} {q : Rat} (ne : Cc ≠ C) (hp : H p = some (.ins Cc dx fs)) (h : Mv C H v q) : Mv C (upd H p (.ins Cc dx gs)) v q := by
  rcases h with h | h
  · exact .inl h
  · exact .inr (h.put ne hp)
theorem But.put {l : Addr} {H H1 : Hp} {o : HO} (a : But l H H1) : But l H (L2.upd H1 l o) := fun c u hc e => by
  rw [upd_ne hc]
  exact a c u hc e
/-! the methods -/
def spM1 (C Cc : Addr) (n : Nat) (g : Rat → Rat → Rat → Rat → Int → V) : Sp := fun vs H Q _ => ∃ (p : Addr) (i : Int) (m y o k : Rat), vs = [.ref p, .int i] ∧ Cl C Cc H p m y o k ∧ Good m y o k ∧ Sz n i ∧ ∀ H', Same H H' → Q (g m y o k i) H'
def miF (m y o k : Rat) (i : Int) : V := if mdF y k (jF y k (stF m o i)) < stF m o (i + 1) then .int (jF y k (stF m o i)) else .non
theorem Good.ztw {m y o k : Rat} (g : Good m y o k) : Rz 80 (y / 12) := g.zy.div (l := 4) (Rz.int (szi 12) (by decide)) twelve_ne (by decide)
theorem Good.zst {m y o k : Rat} (g : Good m y o k) {n l : Nat} {i : Int} (h : Sz n i) (h0 : 0 < n) (hl : n + 150 < l) : Sz l (stF m o i) := (Sz.floor (Rz.add (m := n + 150) g.zo (Rz.mul (m := n + 75) (Rz.int h h0) g.zm (by omega)) (by omega))).mono (by omega)
theorem Good.zmd {m y o k : Rat} (g : Good m y o k) {n l : Nat} {i : Int} (h : Sz n i) (h0 : 0 < n) (hl : n + 160 < l) : Sz l (mdF y k i) := (Sz.floor (Rz.add (m := n + 160) g.zk (Rz.mul (m := n + 85) (Rz.int h h0) g.ztw (by omega)) (by omega))).mono (by omega)
theorem Good.zj {m y o k : Rat} (g : Good m y o k) {n l : Nat} {i : Int} (h : Sz n i) (h0 : 0 < n) (hl : n + 160 < l) : Sz l (jF y k i) := (Sz.ceil (Rz.div (m := n + 160) (Rz.sub (m := n + 75) (Rz.int h h0) g.zk (by omega)) g.ztw (by have := g.fit.ypos; grind) (by omega))).mono (by omega)
def spCaI (C Cc : Addr) : Sp := fun vs H Q _ => ∃ (p dx : Addr) (v u x z : V) (m y o k : Rat), vs = [.ref p, v, u, x, z] ∧ H p = some (.ins Cc dx []) ∧ Rv C H v m ∧ Rv C H u y ∧ Mv C H x o ∧ Mv C H z k ∧ Good m y o k ∧
  ∀ H', But p H H' → Cl C Cc H' p m y o k → Q .non H'
section
variable {P : Program} {w : World} {K : PySem.W.Frag} {mg : Str → Option Value} {base : Heap} {C Cc : Addr}
theorem ok_caI (D : Di K mg "Calendar" Cc "Calendar.__init__" s_Calendar_init [.non, .non]) (T : CaT K C Cc) (F : ShF P w K mg base C) (un : Ca P w K mg base CX0 7 "refuse_unfit" s_refuse_unfit [] ["month", "year"] (spUnfit C))
    (mo : Ca P w K mg base CX0 6 "moment_or_nought" s_moment_or_nought [] ["moment"] (spMoment C)) :
    Ci P w K mg base CX0 8 "Calendar" Cc "Calendar.__init__" s_Calendar_init [.non, .non] ["self", "month", "year", "moon", "mark"] (spCaI C Cc) := by
  refine ci0 (k := 7) D c_Calendar_init (fun vs H Q E h => ?_) fun f cdv A outer s H vs Q E hr h => ?_
  · obtain ⟨p, dx, v, u, x, z, m, y, o, k, rfl, _⟩ := h
    rfl
  · obtain ⟨p, dx, v, u, x, z, m, y, o, k, rfl, hp, hv, hu, hx, hz, g, q⟩ := h
    refine ⟨_, pss_cons (ps_expr (pe_ca un b_refuse_unfit hr (by decide) pass0 rfl (pa_cons (pv 1) (pa_cons (pv 2) pa_nil))))
      (pss_cons (ps_fld (pv 0) (pe_ca F.asS b_as_share hr (by decide) pass0 rfl (pa_cons (pv 1) pa_nil)) rfl)
      (pss_cons (ps_fld (pv 0) (pe_ca F.asS b_as_share hr (by decide) pass0 rfl (pa_cons (pv 2) pa_nil)) rfl)
      (pss_cons (ps_fld (pv 0) (pe_ca mo b_moment_or_nought hr (by decide) pass0 rfl (pa_cons (pv 3) pa_nil)) rfl)
      (pss_one (ps_fld (pv 0) (pe_ca mo b_moment_or_nought hr (by decide) pass0 rfl (pa_cons (pv 4) pa_nil)) rfl))))), ?_⟩
    refine ⟨_, rfl, _, rfl, v, u, m, y, rfl, hv, hu, g.zm.mono (by decide), g.zy.mono (by decide), g.fit, fun H1 s1 => ?_⟩
    refine ⟨_, rfl, v, m, rfl, hv.same s1, g.zm.mono (by decide), fun a H2 s2 ha => ?_⟩
    have hp2 := s2 _ _ (s1 _ _ hp)
    refine ⟨_, rfl, p, Cc, dx, _, rfl, hp2, T.cl, T.n1, (by show 0 < 1000; decide), ?_⟩
    refine ⟨_, rfl, u, y, rfl, ((hu.same s1).same s2).put T.ne hp2, g.zy.mono (by decide), fun b H3 s3 hb => ?_⟩
    have hp3 := s3 _ _ (upd_same (H := H2) (a := p))
    refine ⟨_, rfl, p, Cc, dx, _, rfl, hp3, T.cl, T.n2, (by show 1 < 1000; decide), ?_⟩
    refine ⟨_, rfl, x, o, rfl, ((((hx.same s1).same s2).put T.ne hp2).same s3).put T.ne hp3, g.zo.mono (by decide), fun c H4 s4 hc => ?_⟩
    have hp4 := s4 _ _ (upd_same (H := H3) (a := p))
    refine ⟨_, rfl, p, Cc, dx, _, rfl, hp4, T.cl, T.n3, (by show 2 < 1000; decide), ?_⟩
    refine ⟨_, rfl, z, k, rfl, ((((((hz.same s1).same s2).put T.ne hp2).same s3).put T.ne hp3).same s4).put T.ne hp4, g.zk.mono (by decide), fun d H5 s5 hd => ?_⟩
    have hp5 := s5 _ _ (upd_same (H := H4) (a := p))
    refine ⟨_, rfl, p, Cc, dx, _, rfl, hp5, T.cl, T.n4, (by show 3 < 1000; decide), ?_⟩
    refine q _ ?_ ⟨dx, a, b, c, d, upd_same, ?_, ?_, ?_, hd.put T.ne hp5⟩
    · have b1 : But p H H2 := But.same (s1.trans s2)
      have b2 : But p H H3 := b1.put.trans (But.same s3)
      have b3 : But p H H4 := b2.put.trans (But.same s4)
      exact (b3.put.trans (But.same s5)).put
    · exact (((((((ha.put T.ne hp2).same s3).put T.ne hp3).same s4).put T.ne hp4).same s5).put T.ne hp5)
    · exact (((((hb.put T.ne hp3).same s4).put T.ne hp4).same s5).put T.ne hp5)
    · exact (((hc.put T.ne hp4).same s5).put T.ne hp5)
end
/-! ### the law's own fractions: tuples in lowest terms -/
theorem int_num (i : Int) : ((i : Rat)).num = i := rfl
theorem int_den (i : Int) : ((i : Rat)).den = 1 := rfl
def Tp (H : Hp) (a : Addr) (q : Rat) : Prop := H a = some (.tup [.int q.num, .int q.den])
theorem Tp.same {H H1 : Hp} {a : Addr} {q : Rat} (h : Tp H a q) (s : Same H H1) : Tp H1 a q := s _ _ h
/-- a fraction not always in lowest terms -/
def Tq (H : Hp) (a : Addr) (n : Nat) (q : Rat) : Prop := ∃ t b : Int, H a = some (.tup [.int t, .int b]) ∧ b ≠ 0 ∧ q = Rat.divInt t b ∧ Sz n t ∧ Sz n b
theorem Tp.tq {H : Hp} {a : Addr} {n : Nat} {q : Rat} (h : Tp H a q) (z : Rz n q) : Tq H a n q := ⟨q.num, q.den, h, Int.ne_of_gt (den_pos q), (Rat.num_divInt_den q).symm, z.1, z.2⟩
theorem Tq.same {H H1 : Hp} {a : Addr} {n : Nat} {q : Rat} (h : Tq H a n q) (s : Same H H1) : Tq H1 a n q := by
  obtain ⟨t, b, e, r⟩ := h
  exact ⟨t, b, s _ _ e, r⟩
def spT2 (g : Rat → Rat → Rat) : Sp := fun vs H Q _ => ∃ (a b : Addr) (x y : Rat), vs = [.ref a, .ref b] ∧ Tq H a 4300 x ∧ Tq H b 4300 y ∧ ∀ r H', H r = none → Same H H' → Tp H' r (g x y) → Q (.ref r) H'
theorem int_div (i : Int) {n : Nat} (h : Sz n i) (h0 : 0 < n) {H : Hp} {t : Addr} : Tq (L2.upd H t (.tup [.int i, .int 1])) t n (i : Rat) := ⟨i, 1, upd_same, by decide, (divInt_one i).symm, h, szi 1 (Nat.one_lt_two_pow (by omega))⟩
section
variable {P : Program} {w : World} {K : PySem.W.Frag} {mg : Str → Option Value} {base : Heap}
theorem ok_lplus (D : Df K mg "_law_plus" s_l_plus []) (lo : Ca P w K mg base CX0 1 "_law_low" s_l_low [] ["_law_top", "_law_bottom"] spLow) : Ca P w K mg base CX0 2 "_law_plus" s_l_plus [] ["_law_one", "_law_two"] (spT2 fun a b => a + b) := by
  refine ca0 (k := 1) D c_l_plus (fun vs H Q E h => ?_) fun f cdv A outer s H vs Q E hr h => ?_
  · obtain ⟨a, b, x, y, rfl, _⟩ := h
    rfl
  · obtain ⟨a, b, x, y, rfl, ⟨t, u, ha, hu, rfl, zt, zu⟩, ⟨t', u', hb, hu', rfl, zt', zu'⟩, q⟩ := h
    refine ⟨_, pss_one (ps_ret (pe_ca lo b_l_low hr (by decide) pass0 rfl (pa_cons (pe_op op_add (pe_op op_mulA (pe_ix ix_tup (pv 0) pe_int (fun _ _ => rfl)) (pe_ix ix_tup (pv 1) pe_int (fun _ _ => rfl))) (pe_op op_mulA (pe_ix ix_tup (pv 1) pe_int (fun _ _ => rfl)) (pe_ix ix_tup (pv 0) pe_int (fun _ _ => rfl))))
      (pa_cons (pe_op op_mulA (pe_ix ix_tup (pv 0) pe_int (fun _ _ => rfl)) (pe_ix ix_tup (pv 1) pe_int (fun _ _ => rfl))) pa_nil)))), ?_⟩
    have mz : ∀ i j : Int, Sz 4300 i → Sz 4300 j → CMulA i j := fun i j hi hj => ⟨hi.mono (by decide), hj.mono (by decide)⟩
    have ha' := SqT.of (K := K) ha
    have hb' := SqT.of (K := K) hb
    refine ⟨_, rfl, a, _, _, _, rfl, rfl, ha', rfl, _, rfl, b, _, _, _, rfl, rfl, hb', rfl, _, _, rfl, rfl, mz _ _ zt zu', _, rfl, b, _, _, _, rfl, rfl, hb', rfl, _, rfl, a, _, _, _, rfl, rfl, ha', rfl, _, _, rfl, rfl, mz _ _ zt' zu, _, _, rfl, rfl,
      _, rfl, a, _, _, _, rfl, rfl, ha', rfl, _, rfl, b, _, _, _, rfl, rfl, hb', rfl, _, _, rfl, rfl, mz _ _ zu zu', _, _, rfl, Int.mul_ne_zero hu hu', ?_, ?_, fun r hr' => ?_⟩
    · exact Sz.add (n := 8600) ((zt.mul zu').mono (by decide)) ((zt'.mul zu).mono (by decide)) (by decide)
    · exact (zu.mul zu').mono (by decide)
    · refine q r _ hr' (Same.new hr') ?_
      show L2.upd H r _ r = _
      rw [upd_same, ← Rat.divInt_add_divInt t t' hu hu']
theorem ok_lby (D : Df K mg "_law_by" s_l_by []) (lo : Ca P w K mg base CX0 1 "_law_low" s_l_low [] ["_law_top", "_law_bottom"] spLow) : Ca P w K mg base CX0 2 "_law_by" s_l_by [] ["_law_one", "_law_two"] (spT2 fun a b => a * b) := by
  refine ca0 (k := 1) D c_l_by (fun vs H Q E h => ?_) fun f cdv A outer s H vs Q E hr h => ?_
  · obtain ⟨a, b, x, y, rfl, _⟩ := h
    rfl
  · obtain ⟨a, b, x, y, rfl, ⟨t, u, ha, hu, rfl, zt, zu⟩, ⟨t', u', hb, hu', rfl, zt', zu'⟩, q⟩ := h
    refine ⟨_, pss_one (ps_ret (pe_ca lo b_l_low hr (by decide) pass0 rfl (pa_cons (pe_op op_mulA (pe_ix ix_tup (pv 0) pe_int (fun _ _ => rfl)) (pe_ix ix_tup (pv 1) pe_int (fun _ _ => rfl)))
      (pa_cons (pe_op op_mulA (pe_ix ix_tup (pv 0) pe_int (fun _ _ => rfl)) (pe_ix ix_tup (pv 1) pe_int (fun _ _ => rfl))) pa_nil)))), ?_⟩
    have mz : ∀ i j : Int, Sz 4300 i → Sz 4300 j → CMulA i j := fun i j hi hj => ⟨hi.mono (by decide), hj.mono (by decide)⟩
    have ha' := SqT.of (K := K) ha
    have hb' := SqT.of (K := K) hb
    refine ⟨_, rfl, a, _, _, _, rfl, rfl, ha', rfl, _, rfl, b, _, _, _, rfl, rfl, hb', rfl, _, _, rfl, rfl, mz _ _ zt zt',
      _, rfl, a, _, _, _, rfl, rfl, ha', rfl, _, rfl, b, _, _, _, rfl, rfl, hb', rfl, _, _, rfl, rfl, mz _ _ zu zu', _, _, rfl, Int.mul_ne_zero hu hu', ?_, ?_, fun r hr' => ?_⟩
    · exact (zt.mul zt').mono (by decide)
    · exact (zu.mul zu').mono (by decide)
    · refine q r _ hr' (Same.new hr') ?_
      show L2.upd H r _ r = _
      rw [upd_same, ← Rat.divInt_mul_divInt t t']
end
/-! the law's calendars -/
def Fo (H : Hp) (r : Addr) (m y o k : Rat) : Prop := ∃ a b c d, H r = some (.tup [.ref a, .ref b, .ref c, .ref d]) ∧ Tp H a m ∧ Tp H b y ∧ Tp H c o ∧ Tp H d k
theorem Fo.same {H H1 : Hp} {r : Addr} {m y o k : Rat} (h : Fo H r m y o k) (s : Same H H1) : Fo H1 r m y o k := by
  obtain ⟨a, b, c, d, e, h1, h2, h3, h4⟩ := h
  exact ⟨a, b, c, d, s _ _ e, h1.same s, h2.same s, h3.same s, h4.same s⟩
def spPart : Sp := fun vs H Q _ => ∃ (l : Addr) (n : Nat), vs = [.ref l] ∧ Dr H l n ∧ n ≤ 100000 ∧ ∀ r H' q, 0 ≤ q → q ≤ 1 → Rz 18 q → But l H H' → Dr H' l (n + 2) → Tp H' r q → Q (.ref r) H'
def spMom : Sp := fun vs H Q _ => ∃ (l : Addr) (n : Nat), vs = [.ref l] ∧ Dr H l n ∧ n ≤ 10000 ∧ ∀ r H' q, Rz 60 q → But l H H' → Dr H' l (n + 3) → Tp H' r q → Q (.ref r) H'
def spFour : Sp := fun vs H Q _ => ∃ (l : Addr) (n : Nat), vs = [.ref l] ∧ Dr H l n ∧ n ≤ 1000 ∧ ∀ r H' m y o k, Good m y o k → But l H H' → Dr H' l (n + 11) → Fo H' r m y o k → Q (.ref r) H'
theorem Tp.but {l : Addr} {H H1 : Hp} {n : Nat} {a : Addr} {q : Rat} (h : Tp H a q) (b : But l H H1) (d : Dr H l n) : Tp H1 a q := b.tup d h
section
variable {P : Program} {w : World} {K : PySem.W.Frag} {mg : Str → Option Value} {base : Heap}
theorem ok_lpart (D : Df K mg "_law_part" s_l_part []) (f_l_next : Ca P w K mg base CX0 1 "_law_next" s_l_next [] ["_law_draws_here"] spNext) (f_l_low : Ca P w K mg base CX0 1 "_law_low" s_l_low [] ["_law_top", "_law_bottom"] spLow) : Ca P w K mg base CX0 2 "_law_part" s_l_part [] ["_law_draws_here"] spPart := by
  refine ca0 (k := 1) D c_l_part (fun vs H Q E h => ?_) fun f cdv A outer s H vs Q E hr h => ?_
  · obtain ⟨l, n, rfl, _⟩ := h
    rfl
  · obtain ⟨l, n, rfl, d, hn, q⟩ := h
    refine ⟨_, (pss_cons (ps_set (i := 1) c_l_part.nd rfl (.inl rfl) (pe_ca f_l_next b_l_next hr (by decide) pass0 rfl (pa_cons (pv 0) pa_nil)))
      (pss_cons (ps_set (i := 2) c_l_part.nd rfl (.inl rfl) (pe_op op_add (pe_op op_pow pe_int pe_int) (pe_op op_mod (pe_op op_fdiv (pv 1) pe_int) (pe_op op_pow pe_int pe_int))))
      (pss_cons (ps_set (i := 3) c_l_part.nd rfl (.inl rfl) (pe_ix ix_list (pe_lst (pa_cons (pe_op op_add pe_int (pe_op op_mod (pe_op op_fdiv (pv 1) pe_int) pe_int)) (pa_cons (pe_op op_add pe_int (pe_op op_mod (pe_op op_fdiv (pv 1) pe_int) pe_int)) (pa_cons (pe_op op_add pe_int (pe_op op_mod (pe_op op_fdiv (pv 1) pe_int) pe_int)) (pa_cons (pv 2) pa_nil))))) (pe_op op_mod (pv 1) pe_int) (fun _ _ => rfl)))
      (pss_one (ps_ret (pe_ca f_l_low b_l_low hr (by decide) pass0 rfl (pa_cons (pe_op op_mod (pe_ca f_l_next b_l_next hr (by decide) pass0 rfl (pa_cons (pv 0) pa_nil)) (pe_op op_add (pv 3) pe_int)) (pa_cons (pv 3) pa_nil)))))))), ?_⟩
    refine ⟨_, rfl, l, n, rfl, d, by omega, fun v H1 v0 v1 b1 d1 => ?_⟩
    refine ⟨_, _, rfl, rfl, ⟨by decide, by decide, by decide⟩, _, rfl, _, _, rfl, rfl, ⟨by decide, by decide⟩, _, _, rfl, rfl, ⟨by decide, by decide, by decide⟩, _, _, rfl, rfl, md, _, _, rfl, rfl, ?_⟩
    refine ⟨_, rfl, _, _, rfl, rfl, ⟨by decide, by decide⟩, _, _, rfl, rfl, md, _, _, rfl, rfl, _, rfl, _, _, rfl, rfl, ⟨by decide, by decide⟩, _, _, rfl, rfl, md, _, _, rfl, rfl, _, rfl, _, _, rfl, rfl, ⟨by decide, by decide⟩, _, _, rfl, rfl, md, _, _, rfl, rfl, _, rfl, (by show 4 ≤ sizeLine; decide), fun p hp => ?_⟩
    have h1 := Int.emod_nonneg v (show (4 : Int) ≠ 0 by decide)
    have h2 := Int.emod_lt_of_pos v (show (0 : Int) < 4 by decide)
    obtain ⟨x, hx, b, rfl, zb0, zb1⟩ := pick (P := fun x => ∃ i : Int, x = V.int i ∧ 1 ≤ i ∧ i ≤ 200000) (xs := [.int (1 + v / 4 % 3), .int (1 + v / 4 % 40), .int (1 + v / 4 % 1000), .int (10 ^ (5 : Int).toNat + v / 4 % 10 ^ (5 : Int).toNat)]) h1 h2 (by
      have e5 : (10 : Int) ^ (5 : Int).toNat = 100000 := by decide
      intro x hx
      rcases List.mem_cons.mp hx with rfl | hx
      · exact ⟨_, rfl, by omega, by omega⟩
      rcases List.mem_cons.mp hx with rfl | hx
      · exact ⟨_, rfl, by omega, by omega⟩
      rcases List.mem_cons.mp hx with rfl | hx
      · exact ⟨_, rfl, by omega, by omega⟩
      rcases List.mem_cons.mp hx with rfl | hx
      · exact ⟨_, rfl, by rw [e5]; omega, by rw [e5]; omega⟩
      · cases hx)
    refine ⟨_, rfl, _, _, rfl, rfl, md, p, _, _, _, rfl, rfl, SqL.of upd_same, hx, ?_⟩
    refine ⟨_, rfl, l, n + 1, rfl, d1.new hp, by omega, fun u H2 u0 u1 b2 d2 => ?_⟩
    have t0 := Int.emod_nonneg u (show b + 1 ≠ 0 by omega)
    have t1 := Int.emod_lt_of_pos u (show 0 < b + 1 by omega)
    refine ⟨_, rfl, _, _, rfl, rfl, _, _, rfl, rfl, (show 0 < b + 1 by omega), _, rfl, u % (b + 1), b, rfl, by omega, ?_, ?_, fun r hr' => ?_⟩
    · exact (Sz.of (n := 18) (by omega) (by have : (2 : Int) ^ 18 = 262144 := by decide
                                            omega)).mono (by decide)
    · exact (Sz.of (n := 18) (by omega) (by have : (2 : Int) ^ 18 = 262144 := by decide
                                            omega)).mono (by decide)
    · obtain ⟨q0, q1⟩ := unit_divInt t0 (show u % (b + 1) ≤ b by omega) (show 0 < b by omega)
      have e18 : (2 : Int) ^ 18 = 262144 := by decide
      exact q r _ _ q0 q1 (Rz.divInt (Sz.of (by omega) (by omega)) (Sz.of (by omega) (by omega)) (by decide)) (((b1.upd hp).trans b2).upd hr') (d2.new hr') upd_same
end
section
variable {P : Program} {w : World} {K : PySem.W.Frag} {mg : Str → Option Value} {base : Heap}
theorem ok_lmom (D : Df K mg "_law_moment" s_l_moment []) (f_l_next : Ca P w K mg base CX0 1 "_law_next" s_l_next [] ["_law_draws_here"] spNext) (f_l_part : Ca P w K mg base CX0 2 "_law_part" s_l_part [] ["_law_draws_here"] spPart) (f_l_plus : Ca P w K mg base CX0 2 "_law_plus" s_l_plus [] ["_law_one", "_law_two"] (spT2 fun a b => a + b)) : Ca P w K mg base CX0 3 "_law_moment" s_l_moment [] ["_law_draws_here"] spMom := by
  refine ca0 (k := 2) D c_l_moment (fun vs H Q E h => ?_) fun f cdv A outer s H vs Q E hr h => ?_
  · obtain ⟨l, n, rfl, _⟩ := h
    rfl
  · obtain ⟨l, n, rfl, d, hn, q⟩ := h
    refine ⟨_, (pss_cons (ps_set (i := 1) c_l_moment.nd rfl (.inl rfl) (pe_ca f_l_part b_l_part hr (by decide) pass0 rfl (pa_cons (pv 0) pa_nil)))
      (pss_cons (ps_set (i := 2) c_l_moment.nd rfl (.inl rfl) (pe_ca f_l_next b_l_next hr (by decide) pass0 rfl (pa_cons (pv 0) pa_nil)))
      (pss_cons (ps_set (i := 3) c_l_moment.nd rfl (.inl rfl) (pe_ix ix_list (pe_lst (pa_cons pe_int (pa_cons (pe_op op_mod (pe_op op_fdiv (pv 2) pe_int) pe_int) (pa_cons (pe_op op_add (pe_op op_pow pe_int pe_int) (pe_op op_fdiv (pv 2) pe_int)) (pa_cons (pe_op op_sub pe_int (pe_op op_mod (pe_op op_fdiv (pv 2) pe_int) (pe_op op_pow pe_int pe_int))) pa_nil))))) (pe_op op_mod (pv 2) pe_int) (fun _ _ => rfl)))
      (pss_one (ps_ret (pe_ca f_l_plus b_l_plus hr (by decide) pass0 rfl (pa_cons (pv 1) (pa_cons (pe_tup (pa_cons (pv 3) (pa_cons pe_int pa_nil))) pa_nil)))))))), ?_⟩
    refine ⟨_, rfl, l, n, rfl, d, by omega, fun a H1 x x0 x1 zx b1 d1 e1 => ?_⟩
    refine ⟨_, rfl, l, n + 2, rfl, d1, by omega, fun v H2 v0 v1 b2 d2 => ?_⟩
    refine ⟨_, rfl, _, _, rfl, rfl, ⟨by decide, by decide⟩, _, _, rfl, rfl, md, _, _, rfl, rfl, ⟨by decide, by decide, by decide⟩, _, rfl, _, _, rfl, rfl, ⟨by decide, by decide⟩, _, _, rfl, rfl, _, rfl, _, _, rfl, rfl, ⟨by decide, by decide⟩, _, _, rfl, rfl, ⟨by decide, by decide, by decide⟩, _, _, rfl, rfl, md, _, _, rfl, rfl, (by show 4 ≤ sizeLine; decide), fun p hp => ?_⟩
    have h1 := Int.emod_nonneg v (show (4 : Int) ≠ 0 by decide)
    have h2 := Int.emod_lt_of_pos v (show (0 : Int) < 4 by decide)
    obtain ⟨z, hz, i, rfl, zi⟩ := pick (P := fun x => ∃ i : Int, x = V.int i ∧ Sz 30 i) (xs := [.int 0, .int (v / 4 % 100), .int (10 ^ (6 : Int).toNat + v / 4), .int (0 - v / 4 % 10 ^ (5 : Int).toNat)]) h1 h2 (by
      have e5 : (10 : Int) ^ (5 : Int).toNat = 100000 := by decide
      have e6 : (10 : Int) ^ (6 : Int).toNat = 1000000 := by decide
      have e30 : (2 : Int) ^ 30 = 1073741824 := by decide
      intro x hx
      rcases List.mem_cons.mp hx with rfl | hx
      · exact ⟨_, rfl, Sz.of (by omega) (by omega)⟩
      rcases List.mem_cons.mp hx with rfl | hx
      · exact ⟨_, rfl, Sz.of (by omega) (by omega)⟩
      rcases List.mem_cons.mp hx with rfl | hx
      · exact ⟨_, rfl, Sz.of (by rw [e6, e30]; omega) (by rw [e6, e30]; omega)⟩
      rcases List.mem_cons.mp hx with rfl | hx
      · exact ⟨_, rfl, Sz.of (by rw [e5, e30]; omega) (by rw [e5, e30]; omega)⟩
      · cases hx)
    refine ⟨_, rfl, _, _, rfl, rfl, md, p, _, _, _, rfl, rfl, SqL.of upd_same, hz, ?_⟩
    refine ⟨_, rfl, _, rfl, (by show 2 ≤ sizeLine; decide), fun t ht => ?_⟩
    have ea : Tp _ a x := ((e1.but b2 d1).same (Same.new hp)).same (Same.new (o := .tup [.int i, .int 1]) ht)
    refine ⟨a, t, x, (i : Rat), rfl, ea.tq (zx.mono (by decide)), int_div i (zi.mono (by decide)) (by decide), fun r H3 nr s3 e3 => ?_⟩
    exact q r H3 _ (zx.add (Rz.int zi (by decide)) (by decide)) (((((b1.trans b2).upd hp).upd ht)).trans (But.same s3)) (((d2.new hp).new ht).same s3 (by omega)) e3
end
theorem Fo.but {l : Addr} {H H1 : Hp} {r : Addr} {n : Nat} {m y o k : Rat} (h : Fo H r m y o k) (b : But l H H1) (d : Dr H l n) : Fo H1 r m y o k := by
  obtain ⟨a, b', c, d', e, h1, h2, h3, h4⟩ := h
  exact ⟨a, b', c, d', b.tup d e, h1.but b d, h2.but b d, h3.but b d, h4.but b d⟩
/-- a month and a year of the law's -/
structure MY (m y : Rat) : Prop where
  fit : Fit m y
  zm : Rz 60 m
  zy : Rz 60 y
def qm1 : Rat := ⟨27759, 940, by decide, by decide⟩
def qy1 : Rat := ⟨1461, 4, by decide, by decide⟩
def qm2 : Rat := ⟨765433, 25920, by decide, by decide⟩
def qy2 : Rat := ⟨35975351, 98496, by decide, by decide⟩
def qm3 : Rat := ⟨59, 2, by decide, by decide⟩
def qy3 : Rat := ⟨365, 1, by decide, by decide⟩
def qm4 : Rat := ⟨30, 1, by decide, by decide⟩
def qy4 : Rat := ⟨366, 1, by decide, by decide⟩
theorem my1 : MY qm1 qy1 := ⟨⟨by decide +kernel, by decide +kernel, by decide +kernel⟩, ⟨szi _, szi _⟩, ⟨szi _, szi _⟩⟩
theorem my2 : MY qm2 qy2 := ⟨⟨by decide +kernel, by decide +kernel, by decide +kernel⟩, ⟨szi _, szi _⟩, ⟨szi _, szi _⟩⟩
theorem my3 : MY qm3 qy3 := ⟨⟨by decide +kernel, by decide +kernel, by decide +kernel⟩, ⟨szi _, szi _⟩, ⟨szi _, szi _⟩⟩
theorem my4 : MY qm4 qy4 := ⟨⟨by decide +kernel, by decide +kernel, by decide +kernel⟩, ⟨szi _, szi _⟩, ⟨szi _, szi _⟩⟩
section
variable {P : Program} {w : World} {K : PySem.W.Frag} {mg : Str → Option Value} {base : Heap}
theorem ok_lfour (D : Df K mg "_law_four" s_l_four []) (f_l_next : Ca P w K mg base CX0 1 "_law_next" s_l_next [] ["_law_draws_here"] spNext) (f_l_part : Ca P w K mg base CX0 2 "_law_part" s_l_part [] ["_law_draws_here"] spPart) (f_l_plus : Ca P w K mg base CX0 2 "_law_plus" s_l_plus [] ["_law_one", "_law_two"] (spT2 fun a b => a + b)) (f_l_by : Ca P w K mg base CX0 2 "_law_by" s_l_by [] ["_law_one", "_law_two"] (spT2 fun a b => a * b)) (f_l_moment : Ca P w K mg base CX0 3 "_law_moment" s_l_moment [] ["_law_draws_here"] spMom) : Ca P w K mg base CX0 4 "_law_four" s_l_four [] ["_law_draws_here"] spFour := by
  refine ca0 (k := 3) D c_l_four (fun vs H Q E h => ?_) fun f cdv A outer s H vs Q E hr h => ?_
  · obtain ⟨l, n, rfl, _⟩ := h
    rfl
  · obtain ⟨l, n, rfl, d, hn, q⟩ := h
    refine ⟨_, (pss_cons (ps_set (i := 1) c_l_four.nd rfl (.inl rfl) (pe_ca f_l_next b_l_next hr (by decide) pass0 rfl (pa_cons (pv 0) pa_nil)))
      (pss_cons (ps_if (pt_cmpR op_eq (pe_op op_mod (pv 1) pe_int) pe_int (nomark _)) (pss_cons (ps_set (i := 2) c_l_four.nd rfl (.inl rfl) (pe_lst (pa_cons (pe_tup (pa_cons (pe_tup (pa_cons pe_int (pa_cons pe_int pa_nil))) (pa_cons (pe_tup (pa_cons pe_int (pa_cons pe_int pa_nil))) pa_nil))) (pa_cons (pe_tup (pa_cons (pe_tup (pa_cons pe_int (pa_cons pe_int pa_nil))) (pa_cons (pe_tup (pa_cons pe_int (pa_cons pe_int pa_nil))) pa_nil))) pa_nil))))
      (pss_one (ps_asg (pe_ix ix_list (pe_op op_cat (pv 2) (pe_lst (pa_cons (pe_tup (pa_cons (pe_tup (pa_cons pe_int (pa_cons pe_int pa_nil))) (pa_cons (pe_tup (pa_cons pe_int (pa_cons pe_int pa_nil))) pa_nil))) (pa_cons (pe_tup (pa_cons (pe_tup (pa_cons pe_int (pa_cons pe_int pa_nil))) (pa_cons (pe_tup (pa_cons pe_int (pa_cons pe_int pa_nil))) pa_nil))) pa_nil)))) (pe_op op_mod (pe_op op_fdiv (pv 1) pe_int) pe_int) (fun _ _ => rfl)) (pg_tup rfl (pgs_cons (pg_name (i := 3) c_l_four.nd rfl (.inl rfl)) (pgs_cons (pg_name (i := 4) c_l_four.nd rfl (.inl rfl)) pgs_nil)))))) (pss_cons (ps_set (i := 5) c_l_four.nd rfl (.inl rfl) (pe_ix ix_list (pe_lst (pa_cons (pe_op op_add pe_int (pe_op op_mod (pe_op op_fdiv (pv 1) pe_int) pe_int)) (pa_cons (pe_op op_add pe_int (pe_op op_mod (pe_op op_fdiv (pv 1) pe_int) pe_int)) (pa_cons (pe_op op_add pe_int (pe_op op_mod (pe_op op_fdiv (pv 1) pe_int) pe_int)) (pa_cons pe_int (pa_cons pe_int pa_nil)))))) (pe_op op_mod (pe_op op_fdiv (pv 1) pe_int) pe_int) (fun _ _ => rfl)))
      (pss_cons (ps_set (i := 6) c_l_four.nd rfl (.inl rfl) (pe_ca f_l_part b_l_part hr (by decide) pass0 rfl (pa_cons (pv 0) pa_nil)))
      (pss_cons (ps_set (i := 7) c_l_four.nd rfl (.inl rfl) (pe_ca f_l_part b_l_part hr (by decide) pass0 rfl (pa_cons (pv 0) pa_nil)))
      (pss_cons (ps_set (i := 3) c_l_four.nd rfl (.inl rfl) (pe_ca f_l_by b_l_by hr (by decide) pass0 rfl (pa_cons (pe_ca f_l_plus b_l_plus hr (by decide) pass0 rfl (pa_cons (pe_tup (pa_cons (pe_op op_add (pe_op op_mul pe_int (pv 5)) pe_int) (pa_cons pe_int pa_nil))) (pa_cons (pe_ca f_l_by b_l_by hr (by decide) pass0 rfl (pa_cons (pv 6) (pa_cons (pe_tup (pa_cons (pe_op op_sub (pv 5) pe_int) (pa_cons pe_int pa_nil))) pa_nil))) pa_nil))) (pa_cons (pe_tup (pa_cons pe_int (pa_cons pe_int pa_nil))) pa_nil))))
      (pss_one (ps_set (i := 4) c_l_four.nd rfl (.inl rfl) (pe_ca f_l_plus b_l_plus hr (by decide) pass0 rfl (pa_cons (pe_tup (pa_cons (pe_op op_mul pe_int (pv 5)) (pa_cons pe_int pa_nil))) (pa_cons (pe_ca f_l_by b_l_by hr (by decide) pass0 rfl (pa_cons (pe_ca f_l_by b_l_by hr (by decide) pass0 rfl (pa_cons (pv 7) (pa_cons (pv 6) pa_nil))) (pa_cons (pe_tup (pa_cons (pe_op op_sub (pv 5) pe_int) (pa_cons pe_int pa_nil))) pa_nil))) pa_nil))))))))))
      (pss_one (ps_ret (pe_tup (pa_cons (pv 3) (pa_cons (pv 4) (pa_cons (pe_ca f_l_moment b_l_moment hr (by decide) pass0 rfl (pa_cons (pv 0) pa_nil)) (pa_cons (pe_ca f_l_moment b_l_moment hr (by decide) pass0 rfl (pa_cons (pv 0) pa_nil)) pa_nil))))))))), ?_⟩
    have fin : ∀ (x1 x2 x5 x6 x7 : Option V) (a b : Addr) (m y : Rat) (H1 : Hp), MY m y → But l H H1 → Dr H1 l (n + 5) → Tp H1 a m → Tp H1 b y →
        tRet (tTup (tCons (tVar 3) (tCons (tVar 4) (tCons (tCall spMom [] E0 (tCons (tVar 0) tNil)) (tCons (tCall spMom [] E0 (tCons (tVar 0) tNil)) tNil))))) { nx := fun _ H' => Q .non H', rt := Q } [some (.ref l), x1, x2, some (.ref a), some (.ref b), x5, x6, x7] H1 := by
      intro x1 x2 x5 x6 x7 a b m y H1 my b1 d1 ea eb
      refine ⟨_, rfl, _, rfl, _, rfl, l, n + 5, rfl, d1, by omega, fun c H2 o zo b2 d2 ec => ?_⟩
      refine ⟨_, rfl, l, n + 8, rfl, d2, by omega, fun e H3 k zk b3 d3 ee => ?_⟩
      refine ⟨(by show 4 ≤ sizeLine; decide), fun r hr' => ?_⟩
      have bb : But l H1 H3 := b2.trans b3
      refine q r _ m y o k ⟨my.fit, my.zm.mono (by decide), my.zy.mono (by decide), zo.mono (by decide), zk.mono (by decide)⟩ ((b1.trans bb).upd hr') ((d3.new hr').mono (by omega)) ?_
      exact ⟨a, b, c, e, upd_same, (ea.but bb d1).same (Same.new hr'), (eb.but bb d1).same (Same.new hr'), (ec.but b3 d2).same (Same.new hr'), ee.same (Same.new hr')⟩
    refine ⟨_, rfl, l, n, rfl, d, by omega, fun v H1 v0 v1 b1 d1 => ?_⟩
    refine ⟨_, rfl, _, _, rfl, rfl, md, rfl, _, rfl, ?_⟩
    refine ite2 (fun _ => ?_) (fun _ => ?_)
    · refine ⟨(by show 2 ≤ sizeLine; decide), fun a1 n1 => ⟨(by show 2 ≤ sizeLine; decide), fun c1 n2 => ⟨(by show 2 ≤ sizeLine; decide), fun r1 n3 => ⟨(by show 2 ≤ sizeLine; decide), fun a2 n4 => ⟨(by show 2 ≤ sizeLine; decide), fun c2 n5 => ⟨(by show 2 ≤ sizeLine; decide), fun r2 n6 => ⟨(by show 2 ≤ sizeLine; decide), fun l1 n7 => ?_⟩⟩⟩⟩⟩⟩⟩
      refine ⟨_, rfl, (by show 2 ≤ sizeLine; decide), fun a3 n8 => ⟨(by show 2 ≤ sizeLine; decide), fun c3 n9 => ⟨(by show 2 ≤ sizeLine; decide), fun r3 n10 => ⟨(by show 2 ≤ sizeLine; decide), fun a4 n11 => ⟨(by show 2 ≤ sizeLine; decide), fun c4 n12 => ⟨(by show 2 ≤ sizeLine; decide), fun r4 n13 => ⟨(by show 2 ≤ sizeLine; decide), fun l2 n14 => ?_⟩⟩⟩⟩⟩⟩⟩
      have s2 := Same.new (o := .tup [.int 1461, .int 4]) n2
      have s3 := Same.new (o := .tup [.ref a1, .ref c1]) n3
      have s4 := Same.new (o := .tup [.int 765433, .int 25920]) n4
      have s5 := Same.new (o := .tup [.int 35975351, .int 98496]) n5
      have s6 := Same.new (o := .tup [.ref a2, .ref c2]) n6
      have s7 := Same.new (o := .lst [.ref r1, .ref r2]) n7
      have s8 := Same.new (o := .tup [.int 59, .int 2]) n8
      have s9 := Same.new (o := .tup [.int 365, .int 1]) n9
      have s10 := Same.new (o := .tup [.ref a3, .ref c3]) n10
      have s11 := Same.new (o := .tup [.int 30, .int 1]) n11
      have s12 := Same.new (o := .tup [.int 366, .int 1]) n12
      have s13 := Same.new (o := .tup [.ref a4, .ref c4]) n13
      have s14 := Same.new (o := .lst [.ref r3, .ref r4]) n14
      have t13 := s14
      have t12 := s13.trans t13
      have t11 := s12.trans t12
      have t10 := s11.trans t11
      have t9 := s10.trans t10
      have t8 := s9.trans t9
      have t7 := s8.trans t8
      have t6 := s7.trans t7
      have t5 := s6.trans t6
      have t4 := s5.trans t5
      have t3 := s4.trans t4
      have t2 := s3.trans t3
      have t1 := s2.trans t2
      have t0 := (Same.new (o := .tup [.int 27759, .int 940]) n1).trans t1
      refine ⟨l1, l2, _, _, rfl, rfl, t7 _ _ upd_same, upd_same, (by show 4 ≤ sizeLine; decide), fun l3 n15 => ?_⟩
      have sz := Same.new (o := .lst ([.ref r1, .ref r2] ++ [.ref r3, .ref r4])) n15
      have h1 := Int.emod_nonneg (v / 8) (show (4 : Int) ≠ 0 by decide)
      have h2 := Int.emod_lt_of_pos (v / 8) (show (0 : Int) < 4 by decide)
      obtain ⟨x, hx, r, a, c, m, y, rfl, er, ea, ec, my⟩ := pick (P := fun x => ∃ (r a c : Addr) (m y : Rat), x = V.ref r ∧ (L2.upd _ l3 (.lst ([.ref r1, .ref r2] ++ [.ref r3, .ref r4]))) r = some (.tup [.ref a, .ref c]) ∧ Tp (L2.upd _ l3 (.lst ([.ref r1, .ref r2] ++ [.ref r3, .ref r4]))) a m ∧ Tp (L2.upd _ l3 (.lst ([.ref r1, .ref r2] ++ [.ref r3, .ref r4]))) c y ∧ MY m y) (xs := [.ref r1, .ref r2, .ref r3, .ref r4]) h1 h2 (by
        intro x hx
        rcases List.mem_cons.mp hx with rfl | hx
        · exact ⟨r1, a1, c1, qm1, qy1, rfl, sz _ _ (t3 _ _ upd_same), sz _ _ (t1 _ _ upd_same), sz _ _ (t2 _ _ upd_same), my1⟩
        rcases List.mem_cons.mp hx with rfl | hx
        · exact ⟨r2, a2, c2, qm2, qy2, rfl, sz _ _ (t6 _ _ upd_same), sz _ _ (t4 _ _ upd_same), sz _ _ (t5 _ _ upd_same), my2⟩
        rcases List.mem_cons.mp hx with rfl | hx
        · exact ⟨r3, a3, c3, qm3, qy3, rfl, sz _ _ (t10 _ _ upd_same), sz _ _ (t8 _ _ upd_same), sz _ _ (t9 _ _ upd_same), my3⟩
        rcases List.mem_cons.mp hx with rfl | hx
        · exact ⟨r4, a4, c4, qm4, qy4, rfl, sz _ _ (t13 _ _ upd_same), sz _ _ (t11 _ _ upd_same), sz _ _ (t12 _ _ upd_same), my4⟩
        · cases hx)
      refine ⟨_, rfl, _, _, rfl, rfl, ⟨by decide, by decide⟩, _, _, rfl, rfl, md, l3, _, _, _, rfl, rfl, SqL.of upd_same, hx, ?_⟩
      refine ⟨r, _, rfl, SqT.of er, rfl, _, _, rfl, _, _, rfl, rfl, ?_⟩
      exact fin _ _ _ _ _ a c m y _ my (b1.trans (But.same (t0.trans sz))) (d1.same (t0.trans sz) (by omega)) ea ec
    · refine ⟨_, rfl, _, _, rfl, rfl, ⟨by decide, by decide⟩, _, _, rfl, rfl, md, _, _, rfl, rfl, _, rfl, _, _, rfl, rfl, ⟨by decide, by decide⟩, _, _, rfl, rfl, md, _, _, rfl, rfl, _, rfl, _, _, rfl, rfl, ⟨by decide, by decide⟩, _, _, rfl, rfl, md, _, _, rfl, rfl, (by show 5 ≤ sizeLine; decide), fun p hp => ?_⟩
      have h1 := Int.emod_nonneg (v / 400) (show (5 : Int) ≠ 0 by decide)
      have h2 := Int.emod_lt_of_pos (v / 400) (show (0 : Int) < 5 by decide)
      obtain ⟨z, hz, i, rfl, i0, i1⟩ := pick (P := fun x => ∃ i : Int, x = V.int i ∧ 1 ≤ i ∧ i ≤ 32) (xs := [.int (1 + v / 8 % 4), .int (2 + v / 8 % 30), .int (28 + v / 8 % 5), .int 30, .int 30]) h1 h2 (by
        intro x hx
        rcases List.mem_cons.mp hx with rfl | hx
        · exact ⟨_, rfl, by omega, by omega⟩
        rcases List.mem_cons.mp hx with rfl | hx
        · exact ⟨_, rfl, by omega, by omega⟩
        rcases List.mem_cons.mp hx with rfl | hx
        · exact ⟨_, rfl, by omega, by omega⟩
        rcases List.mem_cons.mp hx with rfl | hx
        · exact ⟨_, rfl, by omega, by omega⟩
        rcases List.mem_cons.mp hx with rfl | hx
        · exact ⟨_, rfl, by omega, by omega⟩
        · cases hx)
      refine ⟨_, rfl, _, _, rfl, rfl, ⟨by decide, by decide⟩, _, _, rfl, rfl, md, p, _, _, _, rfl, rfl, SqL.of upd_same, hz, ?_⟩
      refine ⟨_, rfl, l, n + 1, rfl, d1.new hp, by omega, fun a2 H2 sq s0 s1 zs b2 d2 e2 => ?_⟩
      refine ⟨_, rfl, l, n + 3, rfl, d2, by omega, fun a3 H3 rq r0 r1 zr b3 d3 e3 => ?_⟩
      have b13 : But l H H3 := ((b1.upd hp).trans b2).trans b3
      have e2' : Tp H3 a2 sq := e2.but b3 d2
      have p6 : (2 : Int) ^ 6 = 64 := by decide
      have p10 : (2 : Int) ^ 10 = 1024 := by decide
      have z1 : Rz 6 ((i - 1 : Int) : Rat) := Rz.int (n := 6) (Sz.of (by omega) (by omega)) (by decide)
      have z12 : Rz 10 ((12 * i : Int) : Rat) := Rz.int (n := 10) (Sz.of (by omega) (by omega)) (by decide)
      have z121 : Rz 10 ((12 * i + 1 : Int) : Rat) := Rz.int (n := 10) (Sz.of (by omega) (by omega)) (by decide)
      have zsw : Rz 25 (sq * ((i - 1 : Int) : Rat)) := zs.mul z1 (by decide)
      have zp : Rz 36 (((12 * i + 1 : Int) : Rat) + sq * ((i - 1 : Int) : Rat)) := z121.add zsw (by decide)
      have z13 : Rz 4 (Rat.divInt 1 13) := Rz.divInt (szi 1) (szi 13) (by decide)
      have zm : Rz 60 ((((12 * i + 1 : Int) : Rat) + sq * ((i - 1 : Int) : Rat)) * Rat.divInt 1 13) := zp.mul z13 (by decide)
      have zrs : Rz 37 (rq * sq) := zr.mul zs (by decide)
      have zrw : Rz 44 (rq * sq * ((i - 1 : Int) : Rat)) := zrs.mul z1 (by decide)
      have zy : Rz 60 (((12 * i : Int) : Rat) + rq * sq * ((i - 1 : Int) : Rat)) := z12.add zrw (by decide)
      refine ⟨_, rfl, _, _, rfl, rfl, .inl ⟨by decide, by decide⟩, _, _, rfl, rfl, (by show 2 ≤ sizeLine; decide), fun t1 n1 => ?_⟩
      refine ⟨_, rfl, _, rfl, _, _, rfl, rfl, (by show 2 ≤ sizeLine; decide), fun t2 n2 => ?_⟩
      have u1 := Same.new (o := .tup [.int (12 * i + 1), .int 1]) n1
      have u2 := Same.new (o := .tup [.int (i - 1), .int 1]) n2
      refine ⟨a2, t2, sq, _, rfl, ((e2'.same u1).same u2).tq (zs.mono (by decide)), int_div (i - 1) (z1.1.mono (by decide)) (by decide), fun t3 H4 n3 u3 e4 => ?_⟩
      refine ⟨t1, t3, _, _, rfl, ((int_div (12 * i + 1) (z121.1.mono (by decide)) (by decide)).same u2).same u3, e4.tq (zsw.mono (by decide)), fun t4 H5 n4 u4 e5 => ?_⟩
      refine ⟨(by show 2 ≤ sizeLine; decide), fun t5 n5 => ?_⟩
      have u5 := Same.new (o := .tup [.int 1, .int 13]) n5
      refine ⟨t4, t5, _, Rat.divInt 1 13, rfl, (e5.same u5).tq (zp.mono (by decide)), ⟨1, 13, upd_same, by decide, rfl, szi 1 (Nat.one_lt_two_pow (by decide)), (szi (n := 4) 13).mono (by decide)⟩, fun t6 H6 n6 u6 e6 => ?_⟩
      have v16 : Same H3 H6 := u1.trans (u2.trans (u3.trans (u4.trans (u5.trans u6))))
      refine ⟨_, rfl, _, _, rfl, rfl, .inl ⟨by decide, by decide⟩, (by show 2 ≤ sizeLine; decide), fun t7 n7 => ?_⟩
      have u7 := Same.new (o := .tup [.int (12 * i), .int 1]) n7
      refine ⟨_, rfl, _, rfl, a3, a2, rq, sq, rfl, ((e3.same v16).same u7).tq (zr.mono (by decide)), ((e2'.same v16).same u7).tq (zs.mono (by decide)), fun t8 H8 n8 u8 e8 => ?_⟩
      refine ⟨_, rfl, _, _, rfl, rfl, (by show 2 ≤ sizeLine; decide), fun t9 n9 => ?_⟩
      have u9 := Same.new (o := .tup [.int (i - 1), .int 1]) n9
      refine ⟨t8, t9, _, _, rfl, (e8.same u9).tq (zrs.mono (by decide)), int_div (i - 1) (z1.1.mono (by decide)) (by decide), fun t10 H10 n10 u10 e10 => ?_⟩
      refine ⟨t7, t10, _, _, rfl, ((int_div (12 * i) (z12.1.mono (by decide)) (by decide)).same (u8.trans u9)).same u10, e10.tq (zrw.mono (by decide)), fun t11 H11 n11 u11 e11 => ?_⟩
      have v6 : Same H6 H11 := u7.trans (u8.trans (u9.trans (u10.trans u11)))
      exact fin _ _ _ _ _ t6 t11 _ _ H11 ⟨fit_drawn i0 s0 s1 r0 r1, zm, zy⟩ (b13.trans (But.same (v16.trans v6))) (d3.same (v16.trans v6) (by omega)) (e6.same v6) e11
end
/-! ### calendars made, the second way -/
def gC4 {α : Type} : List α → List α → List α → List α := fun us _ ws => us ++ (match ws with | [a, b, c, d] => [d, c, b, a] | _ => [])
def gC2 {α : Type} : List α → List α → List α → List α := fun us _ ws => us ++ ws
theorem gC4_rel {vs ds zs : List V} {us its ws : List Value} (h : Vals vs us) (_ : Vals ds its) (k : Vals zs ws) : Vals (gC4 vs ds zs) (gC4 us its ws) := by
  refine h.append ?_
  cases k with
  | nil => exact .nil
  | cons a k => cases k with
    | nil => exact .nil
    | cons b k => cases k with
      | nil => exact .nil
      | cons c k => cases k with
        | nil => exact .nil
        | cons d k => cases k with
          | nil => exact .cons d (.cons c (.cons b (.cons a .nil)))
          | cons e k => exact .nil
theorem gC2_rel {vs ds zs : List V} {us its ws : List Value} (h : Vals vs us) (_ : Vals ds its) (k : Vals zs ws) : Vals (gC2 vs ds zs) (gC2 us its ws) := h.append k
theorem kb_Calendar_0_mark_moon_year_month : Kd "Calendar.__init__" s_Calendar_init 2 1 ["mark", "moon", "year", "month"] ["self", "month", "year", "moon", "mark"] gC4 :=
  ⟨fun _ _ _ _ _ _ _ us its ws hu hi hw => match us, hu, its, hi, ws, hw with | [_], _, [_, _], _, [_, _, _, _], _ => ⟨_, rfl, rfl⟩, gC4_rel⟩
theorem kb_Calendar_2_moon_mark : Kd "Calendar.__init__" s_Calendar_init 2 3 ["moon", "mark"] ["self", "month", "year", "moon", "mark"] gC2 :=
  ⟨fun _ _ _ _ _ _ _ us its ws hu hi hw => match us, hu, its, hi, ws, hw with | [_, _, _], _, [_, _], _, [_, _], _ => ⟨_, rfl, rfl⟩, gC2_rel⟩
theorem bd_Calendar4 : Bd1 "__init__" "Calendar.__init__" s_Calendar_init ["self", "month", "year", "moon", "mark"] 5 2 2 := fun _ _ _ _ _ _ _ us its hu hi => match us, hu, its, hi with | [_, _, _, _, _], _, [_, _], _ => ⟨_, rfl, rfl⟩
theorem made_ca {C Cc : Addr} {H : Hp} {R : Addr → Hp → Prop} {E : XK} {v u x z : V} {m y o k : Rat} (hv : Rv C H v m) (hu : Rv C H u y) (hx : Mv C H x o) (hz : Mv C H z k) (g : Good m y o k) (h : ∀ p H', H p = none → Same H H' → Cl C Cc H' p m y o k → R p H') :
    ∀ a dx, H a = none → H dx = none → dx ≠ a → spCaI C Cc [.ref a, v, u, x, z] (L2.upd (L2.upd H dx (.own a)) a (.ins Cc dx [])) (fun r H2 => r = .non ∧ R a H2) E := by
  intro a dx ha hd ne
  have s0 : Same H (L2.upd (L2.upd H dx (.own a)) a (.ins Cc dx [])) := Same.upd (Same.new hd) (by rw [upd_ne ne.symm]; exact ha)
  refine ⟨a, dx, v, u, x, z, m, y, o, k, rfl, upd_same, hv.same s0, hu.same s0, hx.same s0, hz.same s0, g, fun H' b hc => ⟨rfl, ?_⟩⟩
  exact h a H' ha (fun c w e => b c w (ne_of_none e ha) (s0 c w e)) hc
def spMade (C Cc : Addr) : Sp := fun vs H Q _ => ∃ (r : Addr) (i : Int) (m y o k : Rat), vs = [.ref r, .int i] ∧ Fo H r m y o k ∧ Good m y o k ∧ ∀ p H', H p = none → Same H H' → Cl C Cc H' p m y o k → Q (.ref p) H'
theorem Sh.mv {C p : Addr} {H : Hp} {q : Rat} (h : Sh C H p q) : Mv C H (.ref p) q := .inr h.rv
/-- a comprehension's turn without a test -/
theorem yes {σ : L2.St} {H : Hp} {A B : Hp → Prop} (h : A H) : tYes σ H fun b H3 => if b = true then A H3 else B H3 := by
  show if true = true then A H else B H
  rw [if_pos rfl]
  exact h
/-- what the law's four hold, one by one -/
theorem four_at {H : Hp} {r a b c d : Addr} {m y o k : Rat} (g : Good m y o k) (h1 : Tp H a m) (h2 : Tp H b y) (h3 : Tp H c o) (h4 : Tp H d k) {i : Nat} {x : V} (hi : [V.ref a, V.ref b, V.ref c, V.ref d][i]? = some x) : ∃ (t : Addr) (q : Rat), x = V.ref t ∧ [m, y, o, k][i]? = some q ∧ Tp H t q ∧ Rz 70 q := by
  match i, hi with
  | 0, hi => cases hi; exact ⟨a, m, rfl, rfl, h1, g.zm⟩
  | 1, hi => cases hi; exact ⟨b, y, rfl, rfl, h2, g.zy⟩
  | 2, hi => cases hi; exact ⟨c, o, rfl, rfl, h3, g.zo⟩
  | 3, hi => cases hi; exact ⟨d, k, rfl, rfl, h4, g.zk⟩
  | j + 4, hi => simp at hi
section
variable {P : Program} {w : World} {K : PySem.W.Frag} {mg : Str → Option Value} {base : Heap} {C Cc : Addr}
abbrev TE_l_made1 (C : Addr) : TE := tMake C (spShI C) (([.int 1] : List V).drop 1) E0 (tCons (tVar 6) (tCons (tVar 7) tNil))
theorem ok_lmade2 (D : Df K mg "_law_made" s_l_made []) (f_Share : Ci P w K mg base CX0 2 "Share" C "Share.__init__" s_Share_init [.int 1] ["self", "top", "bottom"] (spShI C)) (f_Calendar : Ci P w K mg base CX0 8 "Calendar" Cc "Calendar.__init__" s_Calendar_init [.non, .non] ["self", "month", "year", "moon", "mark"] (spCaI C Cc)) : Ca P w K mg base CX0 10 "_law_made" s_l_made [] ["_law_four_here", "_law_way"] (spMade C Cc) := by
  refine ca0 (k := 9) D c_l_made (fun vs H Q E h => ?_) fun f cdv A outer s H vs Q E hr h => ?_
  · obtain ⟨r, i, m, y, o, k, rfl, _⟩ := h
    rfl
  · obtain ⟨r, i, m, y, o, k, rfl, fo, g, q⟩ := h
    obtain ⟨a, b, c, d, e, h1, h2, h3, h4⟩ := id fo
    refine ⟨_, (pss_cons (ps_asg (pe_lc (own := [("_law_top", 6), ("_law_bottom", 7)]) (g := gTup K 2 (gCons (gName 6) (gCons (gName 7) gNil))) (tt := tYes) (te := TE_l_made1 C) rfl c_l_made.nd (pi_tup (pv 0)) (blkOk_by (N := ["_law_four_here", "_law_way", "_law_lune", "_law_sun", "_law_come", "_law_begun", "_law_top", "_law_bottom"]) (sc := defScope s_l_made) (by decide +kernel)) (fun _ _ _ _ _ => (pg_tup rfl (pgs_cons (pg_name (i := 6) c_l_made.nd rfl (.inl rfl)) (pgs_cons (pg_name (i := 7) c_l_made.nd rfl (.inl rfl)) pgs_nil)))) (fun _ _ _ _ _ => by exact pts_nil) (fun _ _ _ _ _ => by exact (pe_ci f_Share bd_Share2 (by decide) rfl hr (by decide) pass0 rfl (pa_cons (pv 6) (pa_cons (pv 7) pa_nil))))) (pg_unl rfl (pgs_cons (pg_name (i := 2) c_l_made.nd rfl (.inl rfl)) (pgs_cons (pg_name (i := 3) c_l_made.nd rfl (.inl rfl)) (pgs_cons (pg_name (i := 4) c_l_made.nd rfl (.inl rfl)) (pgs_cons (pg_name (i := 5) c_l_made.nd rfl (.inl rfl)) pgs_nil))))))
      (pss_cons (ps_if (pt_cmpR op_eq (pe_op op_mod (pv 1) pe_int) pe_int (nomark _)) (pss_one (ps_ret (pe_ci f_Calendar bd_Calendar4 (by decide) rfl hr (by decide) pass0 rfl (pa_cons (pv 2) (pa_cons (pv 3) (pa_cons (pv 4) (pa_cons (pv 5) pa_nil))))))) pss_nil)
      (pss_cons (ps_if (pt_cmpR op_eq (pe_op op_mod (pv 1) pe_int) pe_int (nomark _)) (pss_one (ps_ret (pe_ciK f_Calendar kb_Calendar_2_moon_mark (by decide) hr (by decide) pass0 rfl (pa_cons (pv 2) (pa_cons (pv 3) pa_nil)) (pk_cons (pv 4) (pk_cons (pv 5) pk_nil))))) pss_nil)
      (pss_one (ps_ret (pe_ciK0 f_Calendar kb_Calendar_0_mark_moon_year_month (by decide) hr (by decide) pass0 rfl (pk_cons (pv 5) (pk_cons (pv 4) (pk_cons (pv 3) (pk_cons (pv 2) pk_nil)))))))))), ?_⟩
    refine ⟨_, rfl, r, rfl, ⟨_, SqT.of e⟩, fun D0 hD => ?_⟩
    refine lc_all (walk_tup (K := K) (a := r) (xs := [.ref a, .ref b, .ref c, .ref d])) yAt_same hD (by show 4 < sizeLine; decide) (fun j v H' => ∃ (p : Addr) (x : Rat), v = .ref p ∧ [m, y, o, k][j]? = some x ∧ Sh C H' p x)
      (fun j v H1 H2 s ⟨p, x, e1, e2, e3⟩ => ⟨p, x, e1, e2, e3.same s⟩) (fun j v H1 acc acc' hacc ⟨p, x, e1, e2, dx, e3⟩ => ⟨p, x, e1, e2, dx, ?_⟩) (fun H' s' => SqT.of (s' _ _ e)) ?_ ?_
    · rw [upd_ne (ne_of e3 hacc (by intro z; cases z))]
      exact e3
    · rintro i x H1 H2 R hi s1 ⟨rfl, hx⟩ k1
      obtain ⟨t, xq, rfl, hq, ht, zq⟩ := four_at (r := r) g (h1.same s1) (h2.same s1) (h3.same s1) (h4.same s1) hx
      refine ⟨t, _, rfl, SqT.of ht, rfl, _, _, rfl, _, _, rfl, rfl, rfl, ?_⟩
      refine ⟨_, rfl, _, rfl, ?_⟩
      refine made_sh (Int.ne_of_gt (den_pos xq)) (zq.1.mono (by decide)) (zq.2.mono (by decide)) fun p H3 np s3 h3' => ?_
      rw [Rat.num_divInt_den] at h3'
      exact k1 _ H3 s3 ⟨p, xq, rfl, hq, h3'⟩
    · intro us H' hl hD' hs hp
      match us, hl with
      | [u1, u2, u3, u4], _ =>
        obtain ⟨p1, x1, rfl, e1, g1⟩ := hp 0 _ rfl
        obtain ⟨p2, x2, rfl, e2, g2⟩ := hp 1 _ rfl
        obtain ⟨p3, x3, rfl, e3, g3⟩ := hp 2 _ rfl
        obtain ⟨p4, x4, rfl, e4, g4⟩ := hp 3 _ rfl
        cases e1
        cases e2
        cases e3
        cases e4
        refine ⟨D0, _, rfl, SqL.of hD', rfl, _, _, rfl, _, _, rfl, _, _, rfl, _, _, rfl, rfl, ?_⟩
        have fin : ∀ a dx, H' a = none → H' dx = none → dx ≠ a → spCaI C Cc [.ref a, .ref p1, .ref p2, .ref p3, .ref p4] (L2.upd (L2.upd H' dx (.own a)) a (.ins Cc dx [])) (fun r H2 => r = .non ∧ Q (.ref a) H2) E0 :=
          made_ca g1.rv g2.rv g3.mv g4.mv g fun p H2 np s2 hc => q p H2 (hs.free np) (hs.trans s2) hc
        refine ⟨_, rfl, _, _, rfl, rfl, md, rfl, _, rfl, ite2 (fun _ => ?_) (fun _ => ?_)⟩
        · exact ⟨_, rfl, _, rfl, _, rfl, _, rfl, fin⟩
        refine ⟨_, rfl, _, _, rfl, rfl, md, rfl, _, rfl, ite2 (fun _ => ?_) (fun _ => ?_)⟩
        · exact ⟨_, rfl, _, rfl, _, rfl, _, rfl, rfl, rfl, fin⟩
        · exact ⟨_, rfl, _, rfl, _, rfl, _, rfl, rfl, rfl, fin⟩
end
/-- the law's four and the calendar made of them, of these fractions -/
structure Pr (C Cc : Addr) (H : Hp) (r p : Addr) (m y o k : Rat) : Prop where
  fo : Fo H r m y o k
  cl : Cl C Cc H p m y o k
  g : Good m y o k
theorem Pr.same {C Cc : Addr} {H H1 : Hp} {r p : Addr} {m y o k : Rat} (h : Pr C Cc H r p m y o k) (s : Same H H1) : Pr C Cc H1 r p m y o k := ⟨h.fo.same s, h.cl.same s, h.g⟩
theorem Pr.but {C Cc l : Addr} {H H1 : Hp} {r p : Addr} {n : Nat} {m y o k : Rat} (h : Pr C Cc H r p m y o k) (b : But l H H1) (d : Dr H l n) : Pr C Cc H1 r p m y o k := by
  refine ⟨h.fo.but b d, ?_, h.g⟩
  obtain ⟨dx, a, b', c, d', e, ⟨x1, h1⟩, ⟨x2, h2⟩, ⟨x3, h3⟩, ⟨x4, h4⟩⟩ := h.cl
  exact ⟨dx, a, b', c, d', b.ins d e, ⟨x1, b.ins d h1⟩, ⟨x2, b.ins d h2⟩, ⟨x3, b.ins d h3⟩, ⟨x4, b.ins d h4⟩⟩
/-! ### the law -/
def spLaw (K : PySem.W.Frag) : Sp := fun vs H Q _ => ∃ (a : Addr) (ns : List Int), vs = [.ref a] ∧ SqL K H a (ns.map V.int) ∧ ns.length ≤ 63 ∧ ∀ H', Q (.bl true) H'
theorem cut_ints {ns : List Int} {lo hi : Option Int} {j : Nat} {x : V} (h : (cutV (ns.map V.int) lo hi ++ [V.int 0])[j]? = some x) : ∃ c : Int, x = .int c := by
  have hx : x ∈ cutV (ns.map V.int) lo hi ++ [V.int 0] := List.mem_of_getElem? h
  rcases List.mem_append.mp hx with hx | hx
  · have h1 := List.mem_of_mem_take hx
    have h2 := List.mem_of_mem_drop h1
    obtain ⟨c, _, e⟩ := List.mem_map.mp h2
    exact ⟨c, e.symm⟩
  · exact ⟨0, List.mem_singleton.mp hx⟩
theorem cut_len {ns : List Int} {lo hi : Option Int} (h : ns.length ≤ 63) : (cutV (ns.map V.int) lo hi).length + ([V.int 0] : List V).length ≤ sizeLine := by
  have h1 := cutV_length (ns.map V.int) lo hi
  rw [List.length_map] at h1
  have h2 : ([V.int 0] : List V).length = 1 := rfl
  exact Nat.le_trans (show _ ≤ 64 by omega) (by decide)
/-! ### near rounds -/
theorem hu1 {k : Nat} {A : Around} (r : Room k A) : A.units + 1 < cLine := by
  have := r.un
  omega
abbrev rAddS : R2 := fun x y H Q => ∃ i j, x = .str i ∧ y = .str j ∧ i.length + j.length ≤ sizeLine ∧ Q (.str (i ++ j)) H
def pu (k : List (Key × V)) (p : Int × Int) : List (Key × V) := putK k (.inl p.1) (.int p.2)
def en (p : Int × Int) : Key × V := (.inl p.1, .int p.2)
theorem pu_new {K0 : List (Int × Int)} {p : Int × Int} (h : ∀ x ∈ K0, x.1 ≠ p.1) : pu (K0.map en) p = (K0 ++ [p]).map en := by
  unfold pu putK
  rw [if_neg, List.map_append]
  · rfl
  · rw [List.any_map]
    intro z
    obtain ⟨x, hx, e⟩ := List.any_eq_true.mp z
    have e : (Sum.inl x.1 : Key) = .inl p.1 := of_decide_eq_true e
    exact h x hx (Sum.inl.inj e)
theorem fold_inc {A B most : Int} : ∀ (L K0 : List (Int × Int)) (p q : Int × Int), G3 A B most p q L → (∀ x ∈ K0, x.1 ≤ q.1) → L.foldl pu (K0.map en) = (K0 ++ L).map en
  | [], K0, _, _, _, _ => by simp
  | r :: L, K0, p, q, h, hk => by
    obtain ⟨h1, _, h3⟩ := h
    have lt := h1.lt
    rw [List.foldl_cons, pu_new (fun x hx => by have := hk x hx; omega), fold_inc L (K0 ++ [r]) q r h3 (fun x hx => ?_), List.append_assoc]
    · rfl
    · rcases List.mem_append.mp hx with hx | hx
      · have := hk x hx
        omega
      · rw [List.mem_singleton.mp hx]
        exact Int.le_refl _
theorem rows_fold {most A B : Int} {f : Nat} (hm : 1 ≤ most) (h1 : 0 < B) (h2 : B ≤ A) (hf : A * B < 2 ^ (f + 2)) : (cvs most (f + 2) A B 0 1 1 0).foldl pu [] = (rowsL most A B f).map en := by
  obtain ⟨q, R, e, q1, _, g⟩ := rows_good (most := most) h1 h2 hf
  rw [cvs_go (by omega) (by omega), show A / B * 0 + 1 = 1 by omega, show A / B * 1 + 0 = A / B by omega, List.foldl_cons]
  have p1 : pu [] (1, A / B) = [((1, A / B) : Int × Int)].map en := pu_new (K0 := []) fun x hx => by cases hx
  rw [p1]
  unfold rowsL at e ⊢
  by_cases hr : A % B = 0
  · rw [if_pos hr]
    rw [cvs_end hr]
    rfl
  rw [if_neg hr] at e ⊢
  by_cases hp : B / (A % B) = 1
  · rw [if_pos hp] at e ⊢
    rw [cvs_go hr (by rw [hp]; omega), hp, show (1 : Int) * 1 + 0 = 1 by omega, show 1 * (A / B) + 1 = A / B + 1 by omega, List.foldl_cons]
    have p2 : pu ([((1, A / B) : Int × Int)].map en) (1, A / B + 1) = [((1, A / B + 1) : Int × Int)].map en := by
      unfold pu putK
      simp [en]
    rw [p2]
    injection e with e1 e2
    rw [e2, fold_inc R [(1, A / B + 1)] _ q g (fun x hx => by rw [List.mem_singleton.mp hx]; show 1 ≤ q.1; omega)]
    rfl
  · rw [if_neg hp] at e ⊢
    injection e with e1 e2
    rw [e2, fold_inc R [(1, A / B)] _ q g (fun x hx => by rw [List.mem_singleton.mp hx]; show 1 ≤ q.1; omega)]
    rfl
theorem Sz.quo {n : Nat} {a b : Int} (h : Sz n a) : Sz n (a / b) := Nat.lt_of_le_of_lt (Int.natAbs_ediv_le_natAbs _ _) h
/-- how large a state's numbers are -/
theorem eu_sz {A B s one two y m fy fm most : Int} (h : Eu A B s one two y m fy fm) (hB : 0 < B) (oA : one ≤ A) (zA : Sz 200 A) (zM : Sz 100 most) (ym : y ≤ most) (fm' : fy ≤ most) : Sz 200 one ∧ Sz 200 two ∧ Sz 100 y ∧ Sz 100 fy ∧ Sz 310 m ∧ Sz 310 fm := by
  have o0 := h.o0
  have t0 := h.t0
  have to := h.to
  have y0 := h.y0
  have f0 := h.f0
  have zy : Sz 100 y := by unfold Sz at *; omega
  have zf : Sz 100 fy := by unfold Sz at *; omega
  have zo : Sz 200 one := by unfold Sz at *; omega
  have zt : Sz 200 two := by unfold Sz at *; omega
  have up : ∀ {u : Int}, Sz 310 (u * B) → Sz 310 u := fun {u} hu => by
    unfold Sz at *
    rw [Int.natAbs_mul] at hu
    have : 1 ≤ B.natAbs := by omega
    exact Nat.lt_of_le_of_lt (Nat.le_mul_of_pos_right _ this) hu
  refine ⟨zo, zt, zy, zf, up ?_, up ?_⟩
  · have z1 : Sz 300 (y * A) := (Sz.mul zy zA)
    have e := h.e1
    rcases h.s1 with z | z <;> rw [z] at e <;> unfold Sz at * <;> omega
  · have z1 : Sz 300 (fy * A) := (Sz.mul zf zA)
    have e := h.e2
    rcases h.s1 with z | z <;> rw [z] at e <;> unfold Sz at * <;> omega
def spNm (C : Addr) : Sp := fun vs H Q _ => ∃ (p : Addr) (most : Int) (x : Rat), vs = [.ref p, .int most] ∧ Sh C H p x ∧ 1 ≤ x ∧ Rz 200 x ∧ 1 ≤ most ∧ Sz 100 most ∧ ∀ d H', H d = none → Same H H' → H' d = some (.dK ((rowsL most x.num x.den 398).map en)) → Q (.ref d) H'
section
variable {P : Program} {w : World} {K : PySem.W.Frag} {mg : Str → Option Value} {base : Heap} {C Cc : Addr}
theorem ok_nm (D : Df K mg "nearest_months" s_nearest_months []) (T : ShX K C) : Ca P w K mg base CX0 1 "nearest_months" s_nearest_months [] ["ratio", "most"] (spNm C) := by
  refine ca0 (k := 0) D c_nearest_months (fun vs H Q E h => ?_) fun f cdv A outer s H vs Q E hr h => ?_
  · obtain ⟨p, most, x, rfl, _⟩ := h
    rfl
  · obtain ⟨p, most, x, rfl, ⟨dx, e⟩, x1, zx, m1, zm, q⟩ := h
    have hB : (0 : Int) < x.den := den_pos x
    have hBA : (x.den : Int) ≤ x.num := by
      have h3 : ((1 : Int) : Rat) ≤ x := x1
      have h4 := Rat.le_iff (1 : Rat) x |>.mp x1
      have e1 : (1 : Rat).num = 1 := rfl
      have e2 : (1 : Rat).den = 1 := rfl
      rw [e1, e2] at h4
      omega
    have hAB : x.num * (x.den : Int) < 2 ^ (398 + 2) := by
      have := Sz.mul zx.1 zx.2
      unfold Sz at this
      omega
    refine ⟨_, (pss_cons (ps_par (i := 2) (j := 3) rfl c_nearest_months.nd rfl rfl (by decide) rfl rfl (pa_cons (pe_fld (pv 0) rfl) (pa_cons (pe_fld (pv 0) rfl) pa_nil)) rfl)
      (pss_cons (ps_asg (pe_tup (pa_cons pe_int (pa_cons pe_int pa_nil))) (pg_tup rfl (pgs_cons (pg_name (i := 4) c_nearest_months.nd rfl (.inl rfl)) (pgs_cons (pg_name (i := 5) c_nearest_months.nd rfl (.inl rfl)) pgs_nil))))
      (pss_cons (ps_asg (pe_tup (pa_cons pe_int (pa_cons pe_int pa_nil))) (pg_tup rfl (pgs_cons (pg_name (i := 6) c_nearest_months.nd rfl (.inl rfl)) (pgs_cons (pg_name (i := 7) c_nearest_months.nd rfl (.inl rfl)) pgs_nil))))
      (pss_cons (ps_set (i := 8) c_nearest_months.nd rfl (.inl rfl) pe_dnewK)
      (pss_cons (ps_while PassesOwn.never (pt_cmpR op_ne (pv 3) pe_int (nomark _)) (pss_cons (ps_set (i := 9) c_nearest_months.nd rfl (.inl rfl) (pe_op op_fdivA (pv 2) (pv 3)))
      (pss_cons (ps_par (i := 4) (j := 6) rfl c_nearest_months.nd rfl rfl (by decide) rfl rfl (pa_cons (pe_op op_add (pe_op op_mulA (pv 9) (pv 4)) (pv 6)) (pa_cons (pv 4) pa_nil)) rfl)
      (pss_cons (ps_par (i := 5) (j := 7) rfl c_nearest_months.nd rfl rfl (by decide) rfl rfl (pa_cons (pe_op op_add (pe_op op_mulA (pv 9) (pv 5)) (pv 7)) (pa_cons (pv 5) pa_nil)) rfl)
      (pss_cons (ps_if (pt_cmpR op_gt (pv 4) (pv 1) (nomark _)) (pss_one ps_break) pss_nil)
      (pss_cons (ps_dput (hu1 hr) (pv 8) (pv 4) (pv 5) rfl)
      (pss_one (ps_par (i := 2) (j := 3) rfl c_nearest_months.nd rfl rfl (by decide) rfl rfl (pa_cons (pv 3) (pa_cons (pe_op op_mod (pv 2) (pv 3)) pa_nil)) rfl))))))))
      (pss_one (ps_ret (pv 8)))))))), ?_⟩
    refine ⟨_, rfl, p, C, dx, _, _, rfl, e, T.cl, T.nT, sf_top _ _, _, rfl, p, C, dx, _, _, rfl, e, T.cl, T.nB, sf_bottom _ _, _, _, rfl, ?_⟩
    refine ⟨(by show 2 ≤ sizeLine; decide), fun p1 n1 => ⟨p1, _, rfl, SqT.of upd_same, rfl, _, _, rfl, _, _, rfl, rfl, ?_⟩⟩
    refine ⟨(by show 2 ≤ sizeLine; decide), fun p2 n2 => ⟨p2, _, rfl, SqT.of upd_same, rfl, _, _, rfl, _, _, rfl, rfl, fun d nd' => ?_⟩⟩
    have s12 := (Same.new (o := .tup [.int 0, .int 1]) n1).trans (Same.new (o := .tup [.int 1, .int 0]) n2)
    have nd := s12.free nd'
    have s0 := s12.trans (Same.new (o := .dK []) nd')
    have E0 := eu_start hB hBA
    have hfold := rows_fold (most := most) m1 hB hBA hAB
    have zA := zx.1
    generalize hA : x.num = A' at *
    generalize hB' : (x.den : Int) = B' at *
    refine while_by (fun σ H' => ∃ (sg one two y m fy fm : Int) (v9 : Option V) (kvs : List (Key × V)) (g : Nat), σ = [some (.ref p), some (.int most), some (.int one), some (.int two), some (.int y), some (.int m), some (.int fy), some (.int fm), some (.ref d), v9] ∧ Eu A' B' sg one two y m fy fm ∧ one ≤ A' ∧ y ≤ most ∧ fy ≤ most ∧ one * two < 2 ^ g ∧ kvs.length + g ≤ 400 ∧ (cvs most g one two y m fy fm).foldl pu kvs = (rowsL most A' B' 398).map en ∧ Same H H' ∧ H' d = some (.dK kvs)) (mu2 3)
      ⟨1, A', B', 0, 1, 1, 0, none, [], 400, rfl, E0, Int.le_refl _, by omega, by omega, hAB, by decide, hfold, s0, upd_same⟩ ?_ ?_
    · rintro σ H' ⟨sg, one, two, y, m, fy, fm, v9, kvs, g, rfl, E, oA, ym, fym, hg, hk, hfo, s1, ed⟩
      obtain ⟨zo, zt, zy, zfy, zm', zfm⟩ := eu_sz E hB oA zA zm ym fym
      refine ⟨_, rfl, rfl, _, rfl, ?_⟩
      by_cases ht : two = 0
      · rw [show (!decide (V.int two = V.int 0)) = false by rw [ht]; rfl]
        refine iteF ⟨_, rfl, ?_⟩
        rw [cvs_end ht] at hfo
        exact q d H' nd s1 (by rw [ed]; exact congrArg _ (congrArg _ hfo))
      · rw [show (!decide (V.int two = V.int 0)) = true by simpa using ht]
        refine iteT ?_
        have E2 := E.step ht
        have t0 := E.t0
        have efd : one.fdiv two = one / two := Int.fdiv_eq_ediv_of_nonneg _ t0
        refine ⟨_, rfl, _, rfl, _, _, rfl, rfl, ⟨ht, zt.mono (by decide)⟩, ?_⟩
        show tSeq _ _ _ [_, _, _, _, _, _, _, _, _, some (V.int (one.fdiv two))] _
        rw [efd]
        have zp : Sz 200 (one / two) := zo.quo
        refine ⟨_, rfl, _, rfl, _, _, rfl, rfl, ⟨zp.mono (by decide), zy.mono (by decide)⟩, _, rfl, _, _, rfl, rfl, _, rfl, _, _, rfl, ?_⟩
        refine ⟨_, rfl, _, rfl, _, _, rfl, rfl, ⟨zp.mono (by decide), zm'.mono (by decide)⟩, _, rfl, _, _, rfl, rfl, _, rfl, _, _, rfl, ?_⟩
        refine ⟨_, rfl, _, rfl, _, _, rfl, rfl, _, rfl, ?_⟩
        by_cases hm : most < one / two * y + fy
        · rw [decide_eq_true hm]
          refine iteT ⟨_, rfl, ?_⟩
          rw [cvs_stop ht hm] at hfo
          exact q d H' nd s1 (by rw [ed]; exact congrArg _ (congrArg _ hfo))
        · rw [decide_eq_false hm]
          refine iteF ?_
          obtain ⟨g', rfl⟩ := fuel_pos E.o0 (show 0 < two by omega) hg
          rw [cvs_go ht hm, List.foldl_cons] at hfo
          refine ⟨_, rfl, _, rfl, _, rfl, d, _, rfl, DPut.k (k := .inl (one / two * y + fy)) ed ?_, ?_⟩
          · show kvs.length < 16777216
            omega
          have s2 : Same H (L2.upd H' d (.dK (putK kvs (.inl (one / two * y + fy)) (.int (one / two * m + fm))))) := upd_keep nd s1
          have to := E.to
          refine ⟨_, rfl, _, rfl, _, rfl, _, _, rfl, rfl, (by omega), _, _, rfl, ⟨-sg, two, one % two, one / two * y + fy, one / two * m + fm, y, m, _, pu kvs (one / two * y + fy, one / two * m + fm), g', rfl, E2, by omega, by omega, ym, E.less ht hg, ?_, hfo, s2, upd_same⟩, ?_⟩
          · have : (pu kvs (one / two * y + fy, one / two * m + fm)).length ≤ kvs.length + 1 := by
              unfold pu putK
              split <;> simp
            omega
          · have := Int.emod_lt_of_pos one (show 0 < two by omega)
            have := Int.emod_nonneg one ht
            show (one % two).natAbs < two.natAbs
            omega
    · intro σ H' R R' hq
      rintro ⟨v, h1, h2, k, h3, h4⟩
      exact ⟨v, h1, h2, k, h3, hq _ _ h4⟩
end
/-! ### near rounds told -/
def spLack (C Cc : Addr) : Sp := fun vs H Q _ => ∃ (p : Addr) (z : Int × Int) (m y o k : Rat), vs = [.ref p, .int z.1, .int z.2] ∧ Cl C Cc H p m y o k ∧ Good m y o k ∧ Sz 310 z.1 ∧ Sz 310 z.2 ∧ ∀ r H', H r = none → Same H H' → Sh C H' r (lkR m y z) → Q (.ref r) H'
def rowsN (m y : Rat) (most : Int) : List (Int × Int) := rowsL most (y / m).num (y / m).den 398
def RowsR (R : Hp → V → Int × Int → Prop) (H : Hp) (us : List V) (L : List (Int × Int)) : Prop := us.length = L.length ∧ ∀ (j : Nat) (u : V), us[j]? = some u → ∃ z : Int × Int, L[j]? = some z ∧ R H u z
def RowS (C : Addr) (m y : Rat) (H : Hp) (u : V) (z : Int × Int) : Prop := ∃ q s : Addr, u = .ref q ∧ H q = some (.tup [.int z.1, .int z.2, .ref s]) ∧ Sh C H s (lkR m y z)
theorem RowS.same {C : Addr} {m y : Rat} {H H1 : Hp} {u : V} {z : Int × Int} (h : RowS C m y H u z) (s : Same H H1) : RowS C m y H1 u z := by
  obtain ⟨q, t, e, e1, e2⟩ := h
  exact ⟨q, t, e, s _ _ e1, e2.same s⟩
theorem RowS.put {C D : Addr} {m y : Rat} {H : Hp} {u : V} {z : Int × Int} {o o' : HO} (h : RowS C m y H u z) (hD : H D = some o) (n1 : ∀ xs, o ≠ .tup xs) (n2 : ∀ c dx fs, o ≠ .ins c dx fs) : RowS C m y (L2.upd H D o') u z := by
  obtain ⟨q, t, e, e1, dx, e2⟩ := h
  exact ⟨q, t, e, by rw [upd_ne (ne_of e1 hD fun z => n1 _ z.symm)]; exact e1, dx, by rw [upd_ne (ne_of e2 hD fun z => n2 _ _ _ z.symm)]; exact e2⟩
def spNrs (C Cc : Addr) : Sp := fun vs H Q _ => ∃ (p : Addr) (most : Int) (m y o k : Rat), vs = [.ref p, .int most] ∧ Cl C Cc H p m y o k ∧ Good m y o k ∧ 1 ≤ most ∧ Sz 100 most ∧
  ∀ D (us : List V) H', H D = none → Same H H' → H' D = some (.lst us) → RowsR (RowS C m y) H' us (rowsN m y most) → Q (.ref D) H'
theorem Good.one {m y o k : Rat} (g : Good m y o k) : (1 : Rat) ≤ y / m := by
  have p := g.fit.pos
  have h2 := g.fit.between
  have h3 : m ≤ (m.ceil : Rat) := Rat.le_ceil
  by_cases h : (1 : Rat) ≤ y / m
  · exact h
  · have h4 : 0 < 1 - y / m := by grind
    have h5 := Rat.mul_pos h4 p
    have e : y / m * m = y := by grind
    grind
theorem Good.zx {m y o k : Rat} (g : Good m y o k) : Rz 200 (y / m) := (Rz.div g.zy g.zm (by have := g.fit.pos; grind) (by decide : _ < 146)).mono (by decide)
theorem Good.AB {m y o k : Rat} (g : Good m y o k) : ((y / m).den : Int) ≤ (y / m).num := by
  have h4 := Rat.le_iff (1 : Rat) (y / m) |>.mp g.one
  have e1 : (1 : Rat).num = 1 := rfl
  have e2 : (1 : Rat).den = 1 := rfl
  rw [e1, e2] at h4
  omega
theorem Good.rows {m y o k : Rat} (g : Good m y o k) {most : Int} (hm : 1 ≤ most) : RowsOk (y / m).num (y / m).den most (rowsN m y most) := by
  refine rows_ok hm (den_pos _) g.AB ?_
  have := Sz.mul g.zx.1 g.zx.2
  unfold Sz at this
  omega
theorem row_sz {A B most : Int} {z : Int × Int} (zA : Sz 200 A) (zB : Sz 200 B) (hB : 0 < B) (zM : Sz 100 most) (h : 1 ≤ z.1 ∧ z.1 ≤ most) (hh : 2 * ((dv A B z).natAbs : Int) ≤ B) : Sz 100 z.1 ∧ Sz 310 z.2 := by
  have z1 : Sz 100 z.1 := by unfold Sz at *; omega
  refine ⟨z1, ?_⟩
  have z2 : Sz 300 (z.1 * A) := Sz.mul z1 zA
  have z3 : Sz 310 (z.2 * B) := by
    unfold dv at hh
    have e : (2 : Nat) ^ 301 = 2 ^ 300 + 2 ^ 300 := by decide
    have z4 : Sz 300 B := zB.mono (by decide)
    have z5 : Sz 301 (z.2 * B) := by
      unfold Sz at *
      omega
    exact z5.mono (by decide)
  unfold Sz at *
  rw [Int.natAbs_mul] at z3
  have : 1 ≤ B.natAbs := by omega
  exact Nat.lt_of_le_of_lt (Nat.le_mul_of_pos_right _ this) z3
theorem Good.rsz {m y o k : Rat} (g : Good m y o k) {most : Int} (hm : 1 ≤ most) (zM : Sz 100 most) {z : Int × Int} (hz : z ∈ rowsN m y most) : Sz 100 z.1 ∧ Sz 310 z.2 :=
  row_sz g.zx.1 g.zx.2 (den_pos _) zM ((g.rows hm).le z hz) ((g.rows hm).half z hz)
theorem Good.zlk {m y o k : Rat} (g : Good m y o k) {z : Int × Int} (h1 : Sz 310 z.1) (h2 : Sz 310 z.2) : Rz 800 (lkR m y z) := ((Rz.int h2 (by decide)).mul g.zm (by decide : _ < 390)).sub ((Rz.int h1 (by decide)).mul g.zy (by decide : _ < 390)) (by decide)
abbrev TE_near_rounds1 (C Cc : Addr) : TE := tTup (tCons (tVar 3) (tCons (tVar 4) (tCons (tCall (spLack C Cc) [] E0 (tCons (tVar 0) (tCons (tVar 3) (tCons (tVar 4) tNil)))) tNil)))
section
variable {P : Program} {w : World} {K : PySem.W.Frag} {mg : Str → Option Value} {base : Heap} {C Cc : Addr}
theorem ok_lack (D : Df K mg "lack" s_lack []) (Tc : CaT K C Cc) (f_times : Ca P w K mg base CX0 5 "times" s_times [] ["one", "two"] (spTwo C (fun _ _ => True) (fun a b => a * b))) (f_minus : Ca P w K mg base CX0 5 "minus" s_minus [] ["one", "two"] (spTwo C (fun _ _ => True) (fun a b => a - b))) : Ca P w K mg base CX0 6 "lack" s_lack [] ["calendar", "years", "months"] (spLack C Cc) := by
  refine ca0 (k := 5) D c_lack (fun vs H Q E h => ?_) fun f cdv A outer s H vs Q E hr h => ?_
  · obtain ⟨p, z, m, y, o, k, rfl, _⟩ := h
    rfl
  · obtain ⟨p, z, m, y, o, k, rfl, hc, g, z1, z2, q⟩ := h
    obtain ⟨dx, a, b, c, d, e, h1, h2, h3, h4⟩ := id hc
    refine ⟨_, (pss_one (ps_ret (pe_ca f_minus b_minus hr (by decide) pass0 rfl (pa_cons (pe_ca f_times b_times hr (by decide) pass0 rfl (pa_cons (pv 2) (pa_cons (pe_fld (pv 0) rfl) pa_nil))) (pa_cons (pe_ca f_times b_times hr (by decide) pass0 rfl (pa_cons (pv 1) (pa_cons (pe_fld (pv 0) rfl) pa_nil))) pa_nil))))), ?_⟩
    refine ⟨_, rfl, _, rfl, p, Cc, dx, _, _, rfl, e, Tc.cl, Tc.n1, cf_month _ _ _ _, .int z.2, .ref a, (z.2 : Rat), m, rfl, Rv.int, h1.rv, Rz.int (z2.mono (by decide)) (by decide), g.zm.mono (by decide), trivial, fun r1 H1 n1 s1 e1 => ?_⟩
    refine ⟨_, rfl, _, rfl, p, Cc, dx, _, _, rfl, s1 _ _ e, Tc.cl, Tc.n2, cf_year _ _ _ _, .int z.1, .ref b, (z.1 : Rat), y, rfl, Rv.int, (h2.same s1).rv, Rz.int (z1.mono (by decide)) (by decide), g.zy.mono (by decide), trivial, fun r2 H2 n2 s2 e2 => ?_⟩
    refine ⟨.ref r1, .ref r2, (z.2 : Rat) * m, (z.1 : Rat) * y, rfl, (e1.same s2).rv, e2.rv, ((Rz.int z2 (by decide)).mul g.zm (by decide : _ < 390)).mono (by decide), ((Rz.int z1 (by decide)).mul g.zy (by decide : _ < 390)).mono (by decide), trivial, fun r H3 nr s3 er => q r H3 (s1.free (s2.free nr)) (s1.trans (s2.trans s3)) er⟩
theorem ok_nrs (D : Df K mg "near_rounds" s_near_rounds []) (Tc : CaT K C Cc) (f_over : Ca P w K mg base CX0 5 "over" s_over [] ["one", "two"] (spTwo C (fun _ b => b ≠ 0) (fun a b => a / b))) (f_lack : Ca P w K mg base CX0 6 "lack" s_lack [] ["calendar", "years", "months"] (spLack C Cc)) (f_nearest_months : Ca P w K mg base CX0 1 "nearest_months" s_nearest_months [] ["ratio", "most"] (spNm C)) : Ca P w K mg base CX0 7 "near_rounds" s_near_rounds [] ["calendar", "most"] (spNrs C Cc) := by
  refine ca0 (k := 6) D c_near_rounds (fun vs H Q E h => ?_) fun f cdv A outer s H vs Q E hr h => ?_
  · obtain ⟨p, most, m, y, o, k, rfl, _⟩ := h
    rfl
  · obtain ⟨p, most, m, y, o, k, rfl, hc, g, m1, zm, q⟩ := h
    obtain ⟨dx, a, b, c, d, e, h1, h2, h3, h4⟩ := id hc
    refine ⟨_, (pss_cons (ps_set (i := 2) c_near_rounds.nd rfl (.inl rfl) (pe_ca f_nearest_months b_nearest_months hr (by decide) pass0 rfl (pa_cons (pe_ca f_over b_over hr (by decide) pass0 rfl (pa_cons (pe_fld (pv 0) rfl) (pa_cons (pe_fld (pv 0) rfl) pa_nil))) (pa_cons (pv 1) pa_nil))))
      (pss_one (ps_ret (pe_lock (pe_lc (own := [("years", 3), ("months", 4)]) (g := gTup K 2 (gCons (gName 3) (gCons (gName 4) gNil))) (tt := tYes) (te := TE_near_rounds1 C Cc) rfl c_near_rounds.nd (pi_items (pv 2)) (blkOk_by (N := ["calendar", "most", "months_for", "years", "months"]) (sc := defScope s_near_rounds) (by decide +kernel)) (fun _ _ _ _ _ => (pg_tup rfl (pgs_cons (pg_name (i := 3) c_near_rounds.nd rfl (.inl rfl)) (pgs_cons (pg_name (i := 4) c_near_rounds.nd rfl (.inl rfl)) pgs_nil)))) (fun _ _ _ _ _ => by exact pts_nil) (fun _ _ _ _ _ => by exact (pe_tup (pa_cons (pv 3) (pa_cons (pv 4) (pa_cons (pe_ca f_lack b_lack hr (by decide) pass0 rfl (pa_cons (pv 0) (pa_cons (pv 3) (pa_cons (pv 4) pa_nil)))) pa_nil)))))))))), ?_⟩
    refine ⟨_, rfl, p, Cc, dx, _, _, rfl, e, Tc.cl, Tc.n2, cf_year _ _ _ _, _, rfl, p, Cc, dx, _, _, rfl, e, Tc.cl, Tc.n1, cf_month _ _ _ _, .ref b, .ref a, y, m, rfl, h2.rv, h1.rv, g.zy.mono (by decide), g.zm.mono (by decide), (by have := g.fit.pos; grind), fun r1 H1 n1 s1 e1 => ?_⟩
    refine ⟨_, rfl, r1, most, y / m, rfl, e1, g.one, g.zx, m1, zm, fun d H2 nd s2 ed => ?_⟩
    have ed : H2 d = some (.dK ((rowsN m y most).map en)) := ed
    refine ⟨d, _, ed, trivial, fun od => ?_⟩
    have s12 : Same H1 (L2.upd H2 d (.frz od (.dK ((rowsN m y most).map en)))) := upd_keep nd s2
    have ef : (L2.upd H2 d (.frz od (.dK ((rowsN m y most).map en)))) d = some (.frz od (.dK ((rowsN m y most).map en))) := upd_same
    have ndH : H d = none := s1.free nd
    have s02 := s1.trans s12
    refine ⟨_, rfl, d, od, _, rfl, ef, fun D nD => ?_⟩
    have nDd : D ≠ d := fun z => by
      rw [z, ef] at nD
      cases nD
    have nDH : H D = none := s02.free nD
    have hlen : (rowsN m y most).length ≤ 400 := rowsL_len
    generalize hHf : L2.upd H2 d (.frz od (.dK ((rowsN m y most).map en))) = Hf at *
    refine lc_all (walk_items (d := d) (o := od) (kvs := (rowsN m y most).map en)) yPair_same nD (by rw [List.length_map]; exact Nat.lt_of_le_of_lt hlen (by decide)) (fun (j : Nat) v H' => ∃ z : Int × Int, (rowsN m y most)[j]? = some z ∧ RowS C m y H' v z)
      (fun j v Ha Hb s ⟨z, e1, e2⟩ => ⟨z, e1, e2.same s⟩) (fun j v Ha acc acc' hacc ⟨z, e1, e2⟩ => ⟨z, e1, e2.put hacc (fun _ z => by cases z) (fun _ _ _ z => by cases z)⟩) (fun H' s' => s' _ _ ef) ?_ ?_
    · rintro i x Ha Hb R hi sa ⟨T, u, v, rfl, nT, rfl, hu, hv⟩ k1
      rw [List.length_map] at hi
      have hpi := List.getElem?_eq_getElem hi
      obtain ⟨rfl, rfl⟩ : u = .int ((rowsN m y most)[i]).1 ∧ v = .int ((rowsN m y most)[i]).2 := by
        dsimp only at hu hv
        rw [List.getElem?_map, hpi] at hu hv
        exact ⟨(Option.some.inj hu).symm, (Option.some.inj hv).symm⟩
      have hz : (rowsN m y most)[i] ∈ rowsN m y most := List.getElem_mem hi
      generalize (rowsN m y most)[i] = z at *
      obtain ⟨z1, z2⟩ := g.rsz m1 zm hz
      have sT := Same.new (o := .tup [.int z.1, .int z.2]) nT
      refine ⟨T, _, rfl, SqT.of upd_same, rfl, _, _, rfl, _, _, rfl, rfl, rfl, ?_⟩
      refine ⟨_, rfl, _, rfl, _, rfl, _, rfl, _, rfl, p, z, m, y, o, k, rfl, (hc.same (s02.trans sa)).same sT, g, z1.mono (by decide), z2, fun r H4 nr s4 er => ?_⟩
      refine ⟨(by show 3 ≤ sizeLine; decide), fun t nt => ?_⟩
      have s5 := Same.new (o := .tup [.int z.1, .int z.2, .ref r]) nt
      exact k1 _ _ (s4.trans s5) ⟨z, hpi, t, r, rfl, upd_same, er.same s5⟩
    · intro us H' hl hD' hs hp
      have ed' := hs _ _ ef
      refine ⟨ed', q D us _ nDH (upd_keep ndH (s02.trans hs)) (by rw [upd_ne nDd]; exact hD') ⟨by rw [hl, List.length_map], fun j u hj => ?_⟩⟩
      obtain ⟨z, e1, e2⟩ := hp j u hj
      exact ⟨z, e1, e2.put ed' (fun _ z => by cases z) (fun _ _ _ z => by cases z)⟩
end
/-! ### the law's plain calendars -/
def spPlain : Sp := fun vs H Q _ => ∃ (l r : Addr) (n : Nat) (m y o k : Rat), vs = [.ref l, .ref r] ∧ Dr H l n ∧ n ≤ 10000 ∧ Fo H r m y o k ∧ Good m y o k ∧ ∀ r' H' m' y' n', But l H H' → Dr H' l n' → n' ≤ n + 5 → Fo H' r' m' y' o k → Good m' y' o k → Q (.ref r') H'
theorem divInt_le {t b : Int} (x : Rat) : x.num ≤ t * x.den ↔ x ≤ (t : Rat) := by
  rw [Rat.le_iff]
  show _ ↔ x.num * (((t : Rat).den : Nat) : Int) ≤ (t : Rat).num * x.den
  rw [int_num, int_den]
  simp
theorem den_le_num (x : Rat) : (x.den : Int) ≤ x.num ↔ 1 ≤ x := by
  rw [Rat.le_iff]
  show _ ↔ (1 : Rat).num * x.den ≤ x.num * (((1 : Rat).den : Nat) : Int)
  have e1 : (1 : Rat).num = 1 := rfl
  have e2 : (1 : Rat).den = 1 := rfl
  rw [e1, e2]
  simp
theorem le_by {a b c d : Int} {x y : Rat} (hc : (0 : Int) < c) (hd : (0 : Int) < d) (hx : (c : Rat) * x = a) (hy : (d : Rat) * y = b) (h : a * d ≤ b * c) : x ≤ y := by
  have h1 : ((a * d : Int) : Rat) ≤ ((b * c : Int) : Rat) := Rat.intCast_le_intCast.mpr h
  rw [Rat.intCast_mul, Rat.intCast_mul, ← hx, ← hy] at h1
  have pc : (0 : Rat) < (c : Rat) := by exact_mod_cast hc
  have pd : (0 : Rat) < (d : Rat) := by exact_mod_cast hd
  have pp := Rat.mul_pos pc pd
  by_cases z : x ≤ y
  · exact z
  · have : 0 < x - y := by grind
    have := Rat.mul_pos pp this
    grind
theorem thirteen_of {x s : Rat} (h : ¬ 13 * x.num * s.den < (s.num + s.den) * x.den) : s + 1 ≤ 13 * x := by
  have h1 := den_mul x
  have h2 := den_mul s
  refine le_by (a := s.num + s.den) (b := 13 * x.num) (c := s.den) (d := x.den) (den_pos s) (den_pos x) ?_ ?_ (by omega)
  · rw [Rat.intCast_add, Rat.intCast_natCast, ← h2]
    grind
  · rw [Rat.intCast_mul, Rat.intCast_natCast, ← h1]
    have : ((13 : Int) : Rat) = 13 := rfl
    rw [this]
    grind
section
variable {P : Program} {w : World} {K : PySem.W.Frag} {mg : Str → Option Value} {base : Heap}
set_option maxHeartbeats 8000000 in
theorem ok_lplain42 (D : Df K mg "_law_plain" s_l_plain []) (f_l_next : Ca P w K mg base CX0 1 "_law_next" s_l_next [] ["_law_draws_here"] spNext) (f_l_low : Ca P w K mg base CX0 1 "_law_low" s_l_low [] ["_law_top", "_law_bottom"] spLow) (f_l_plus : Ca P w K mg base CX0 2 "_law_plus" s_l_plus [] ["_law_one", "_law_two"] (spT2 fun a b => a + b)) : Ca P w K mg base CX0 3 "_law_plain" s_l_plain [] ["_law_draws_here", "_law_four_here"] spPlain := by
  refine ca0 (k := 2) D c_l_plain (fun vs H Q E h => ?_) fun f cdv A outer s H vs Q E hr h => ?_
  · obtain ⟨l, r, n, m, y, o, k, rfl, _⟩ := h
    rfl
  · obtain ⟨l, r, n, m, y, o, k, rfl, d, hn, fo, g, q⟩ := h
    refine ⟨_, (pss_cons (ps_set (i := 2) c_l_plain.nd rfl (.inl rfl) (pe_op op_add pe_int (pe_op op_mod (pe_ca f_l_next b_l_next hr (by decide) pass0 rfl (pa_cons (pv 0) pa_nil)) pe_int)))
      (pss_cons (ps_set (i := 3) c_l_plain.nd rfl (.inl rfl) (pe_op op_add pe_int (pe_op op_mod (pe_ca f_l_next b_l_next hr (by decide) pass0 rfl (pa_cons (pv 0) pa_nil)) pe_int)))
      (pss_cons (ps_set (i := 4) c_l_plain.nd rfl (.inl rfl) (pe_op op_mod (pe_ca f_l_next b_l_next hr (by decide) pass0 rfl (pa_cons (pv 0) pa_nil)) (pe_op op_add (pe_op op_mulA (pe_op op_sub (pv 2) pe_int) (pv 3)) pe_int)))
      (pss_cons (ps_set (i := 5) c_l_plain.nd rfl (.inl rfl) (pe_ca f_l_low b_l_low hr (by decide) pass0 rfl (pa_cons (pe_op op_add (pe_op op_mulA (pe_op op_add (pe_op op_mulA pe_int (pv 2)) pe_int) (pv 3)) (pv 4)) (pa_cons (pe_op op_mulA pe_int (pv 3)) pa_nil))))
      (C8.pss_cut (ps_if (pt_cmpR op_eq (pe_op op_mod (pe_ca f_l_next b_l_next hr (by decide) pass0 rfl (pa_cons (pv 0) pa_nil)) pe_int) pe_int (nomark _)) (pss_one (ps_set (i := 5) c_l_plain.nd rfl (.inl rfl) (pe_ca f_l_low b_l_low hr (by decide) pass0 rfl (pa_cons (pe_op op_sub pe_int (pe_op op_sub pe_int (pe_op op_fdivA (pe_op op_mulA (pe_ix ix_tup (pv 5) pe_int (fun _ _ => rfl)) (pv 3)) (pe_ix ix_tup (pv 5) pe_int (fun _ _ => rfl))))) (pa_cons (pv 3) pa_nil))))) pss_nil)
      (pss_cons (ps_set (i := 6) c_l_plain.nd rfl (.inl rfl) (pe_op op_sub (pe_op op_sub (pe_op op_fdivA (pe_op op_mulA pe_int (pe_ix ix_tup (pv 5) pe_int (fun _ _ => rfl))) (pe_ix ix_tup (pv 5) pe_int (fun _ _ => rfl))) pe_int) (pe_op op_mulA pe_int (pv 2))))
      (pss_cons (ps_set (i := 7) c_l_plain.nd rfl (.inl rfl) (pe_tup (pa_cons (pe_op op_mulA pe_int (pv 2)) (pa_cons pe_int pa_nil))))
      (C8.pss_cut (ps_if (pt_cmpR op_gt (pv 6) pe_int (nomark _)) (pss_one (ps_set (i := 7) c_l_plain.nd rfl (.inl rfl) (pe_ca f_l_plus b_l_plus hr (by decide) pass0 rfl (pa_cons (pv 7) (pa_cons (pe_ca f_l_low b_l_low hr (by decide) pass0 rfl (pa_cons (pe_op op_mod (pe_ca f_l_next b_l_next hr (by decide) pass0 rfl (pa_cons (pv 0) pa_nil)) (pe_op op_add (pe_op op_mulA (pv 6) (pv 3)) pe_int)) (pa_cons (pv 3) pa_nil))) pa_nil))))) pss_nil)
      (pss_cons (ps_if (PW.pt (pw_or (pt_cmpR op_lt (pe_ix ix_tup (pv 5) pe_int (fun _ _ => rfl)) (pe_ix ix_tup (pv 5) pe_int (fun _ _ => rfl)) (nomark _)) (pw_or1 (pt_cmpR op_gt (pe_ix ix_tup (pv 5) pe_int (fun _ _ => rfl)) (pe_op op_mulA (pv 2) (pe_ix ix_tup (pv 5) pe_int (fun _ _ => rfl))) (nomark _))))) (pss_one (ps_ret (pv 1))) pss_nil)
      (pss_cons (ps_if (pt_cmpR op_lt (pe_op op_mulA (pe_op op_mulA pe_int (pe_ix ix_tup (pv 5) pe_int (fun _ _ => rfl))) (pe_ix ix_tup (pv 7) pe_int (fun _ _ => rfl))) (pe_op op_mulA (pe_op op_add (pe_ix ix_tup (pv 7) pe_int (fun _ _ => rfl)) (pe_ix ix_tup (pv 7) pe_int (fun _ _ => rfl))) (pe_ix ix_tup (pv 5) pe_int (fun _ _ => rfl))) (nomark _)) (pss_one (ps_ret (pv 1))) pss_nil)
      (pss_one (ps_ret (pe_op op_catT (pe_tup (pa_cons (pv 5) (pa_cons (pv 7) pa_nil))) (pe_slice sl_tup (pv 1) (po_some pe_int) po_none)))))))))))))), ?_⟩
    refine ⟨_, rfl, l, n, rfl, d, by omega, fun v1 H1 v10 v11 b1 d1 => ⟨_, _, rfl, rfl, md, _, _, rfl, rfl, ?_⟩⟩
    have w0 := Int.emod_nonneg v1 (show (30 : Int) ≠ 0 by decide)
    have w1 := Int.emod_lt_of_pos v1 (show (0 : Int) < 30 by decide)
    obtain ⟨W, hW⟩ : ∃ W : Int, 2 + v1 % 30 = W := ⟨_, rfl⟩
    dsimp only
    rw [hW]
    have hW1 : 2 ≤ W ∧ W ≤ 31 := by omega
    refine ⟨_, rfl, l, _, rfl, d1, by omega, fun v2 H2 v20 v21 b2 d2 => ⟨_, _, rfl, rfl, md, _, _, rfl, rfl, ?_⟩⟩
    have y0 := Int.emod_nonneg v2 (show (40 : Int) ≠ 0 by decide)
    have y1 := Int.emod_lt_of_pos v2 (show (0 : Int) < 40 by decide)
    obtain ⟨B, hB⟩ : ∃ B : Int, 1 + v2 % 40 = B := ⟨_, rfl⟩
    dsimp only
    rw [hB]
    have hB1 : 1 ≤ B ∧ B ≤ 40 := by omega
    have p6 : (2 : Int) ^ 6 = 64 := by decide
    have p7 : (2 : Int) ^ 7 = 128 := by decide
    have p9 : (2 : Int) ^ 9 = 512 := by decide
    have p11 : (2 : Int) ^ 11 = 2048 := by decide
    have p15 : (2 : Int) ^ 15 = 32768 := by decide
    have zW : Sz 6 W := Sz.of (by omega) (by omega)
    have zW1 : Sz 6 (W - 1) := Sz.of (by omega) (by omega)
    have zB : Sz 6 B := Sz.of (by omega) (by omega)
    have hwb : 0 ≤ (W - 1) * B := Int.mul_nonneg (by omega) (by omega)
    have hwb2 : (W - 1) * B ≤ 1200 := by
      have h1 : (W - 1) * B ≤ 30 * B := Int.mul_le_mul_of_nonneg_right (by omega) (by omega)
      omega
    refine ⟨_, rfl, l, _, rfl, d2, by omega, fun v3 H3 v30 v31 b3 d3 => ⟨_, rfl, _, _, rfl, rfl, _, rfl, _, _, rfl, rfl, ⟨zW1.mono (by decide), zB.mono (by decide)⟩, _, _, rfl, rfl, _, _, rfl, rfl, (show (0 : Int) < (W - 1) * B + 1 by omega), ?_⟩⟩
    have m0 := Int.emod_nonneg v3 (show (W - 1) * B + 1 ≠ 0 by omega)
    have m1 := Int.emod_lt_of_pos v3 (show (0 : Int) < (W - 1) * B + 1 by omega)
    dsimp only
    generalize hM : v3 % ((W - 1) * B + 1) = M at *
    have zM : Sz 15 M := Sz.of (by omega) (by omega)
    have z12 : Sz 9 (12 * W + 1) := Sz.of (by omega) (by omega)
    have zT : Sz 16 ((12 * W + 1) * B + M) := Sz.add (n := 15) (z12.mul zB) zM (by decide)
    have z13 : Sz 16 (13 * B) := Sz.of (by omega) (by omega)
    have b03 := (b1.trans b2).trans b3
    have z12' : Sz 100000 (12 : Int) := (show Sz 4 12 by unfold Sz; decide).mono (by decide)
    have z13' : Sz 100000 (13 : Int) := (show Sz 4 13 by unfold Sz; decide).mono (by decide)
    refine ⟨_, rfl, _, _, rfl, rfl, ⟨z12', zW.mono (by decide)⟩, _, _, rfl, rfl, _, rfl, _, _, rfl, rfl, ⟨z12.mono (by decide), zB.mono (by decide)⟩, _, rfl, _, _, rfl, rfl, _, rfl, _, _, rfl, rfl, ⟨z13', zB.mono (by decide)⟩, _, _, rfl, by omega, zT.mono (by decide), z13.mono (by decide), fun t1 n1 => ?_⟩
    have z0 : Rz 16 (Rat.divInt ((12 * W + 1) * B + M) (13 * B)) := Rz.divInt zT z13 (by decide)
    generalize Rat.divInt ((12 * W + 1) * B + M) (13 * B) = x0 at *
    have s4 := Same.new (o := .tup [.int x0.num, .int x0.den]) n1
    have e4 : Tp (L2.upd H3 t1 (.tup [.int x0.num, .int x0.den])) t1 x0 := upd_same
    have d4 := d3.same s4 (Nat.le_refl _)
    have b04 := b03.trans (But.same s4)
    have fo4 : Fo (L2.upd H3 t1 (.tup [.int x0.num, .int x0.den])) r m y o k := (((fo.but b1 d).but b2 d1).but b3 d2).same s4
    generalize L2.upd H3 t1 (.tup [.int x0.num, .int x0.den]) = H4 at *
    refine ⟨fun σ' H' => ∃ (t : Addr) (x : Rat) (n' : Nat), σ' = [some (.ref l), some (.ref r), some (.int W), some (.int B), some (.int M), some (.ref t), none, none] ∧ Tp H' t x ∧ Rz 40 x ∧ But l H H' ∧ Dr H' l n' ∧ n' ≤ n + 4 ∧ Fo H' r m y o k, ?_, ?_⟩
    · refine ⟨_, rfl, l, _, rfl, d4, by omega, fun v5 H5 v50 v51 b5 d5 => ⟨_, _, rfl, rfl, md, rfl, _, rfl, ite2 (fun _ => ?_) (fun _ => ?_)⟩⟩
      · have e5 := e4.but b5 d4
        have zf : Sz 30 (x0.num * B) := (Sz.mul z0.1 zB).mono (by decide)
        have zq : Sz 30 ((x0.num * B).fdiv x0.den) := by
          rw [Int.fdiv_eq_ediv_of_nonneg _ (Int.le_of_lt (den_pos x0))]
          exact Nat.lt_of_le_of_lt (Int.natAbs_ediv_le_natAbs _ _) zf
        have zq2 : Sz 30 (0 - (0 - (x0.num * B).fdiv x0.den)) := by
          unfold Sz at *
          omega
        refine ⟨_, rfl, t1, _, _, _, rfl, rfl, SqT.of e5, rfl, _, rfl, _, _, rfl, rfl, ⟨z0.1.mono (by decide), zB.mono (by decide)⟩, _, rfl, t1, _, _, _, rfl, rfl, SqT.of e5, rfl, _, _, rfl, rfl, ⟨Int.ne_of_gt (den_pos x0), z0.2.mono (by decide)⟩, _, _, rfl, rfl, _, _, rfl, rfl, _, rfl, _, _, rfl, by omega, zq2.mono (by decide), zB.mono (by decide), fun t2 n2 => ?_⟩
        have zz : Rz 30 (Rat.divInt (0 - (0 - (x0.num * B).fdiv x0.den)) B) := Rz.divInt zq2 (zB.mono (by decide)) (by decide)
        have s6 := Same.new (o := .tup [.int (Rat.divInt (0 - (0 - (x0.num * B).fdiv x0.den)) B).num, .int (Rat.divInt (0 - (0 - (x0.num * B).fdiv x0.den)) B).den]) n2
        exact ⟨t2, _, _, rfl, upd_same, zz.mono (by decide), (b04.trans b5).trans (But.same s6), d5.same s6 (Nat.le_refl _), by omega, (fo4.but b5 d4).same s6⟩
      · exact ⟨t1, x0, _, rfl, e4.but b5 d4, z0.mono (by decide), b04.trans b5, d5, by omega, fo4.but b5 d4⟩
    rintro σ' H5 ⟨t, x, n5, rfl, ex, zx, b5, d5, hn5, fo5⟩
    have zn : Sz 60 (13 * x.num) := (Sz.mul (n := 4) (by unfold Sz; decide) zx.1).mono (by decide)
    have zfd : Sz 60 ((13 * x.num).fdiv x.den) := by
      rw [Int.fdiv_eq_ediv_of_nonneg _ (Int.le_of_lt (den_pos x))]
      exact Nat.lt_of_le_of_lt (Int.natAbs_ediv_le_natAbs _ _) zn
    refine ⟨_, rfl, t, _, _, _, rfl, rfl, SqT.of ex, rfl, _, _, rfl, rfl, ⟨z13', zx.1.mono (by decide)⟩, _, rfl, t, _, _, _, rfl, rfl, SqT.of ex, rfl, _, _, rfl, rfl, ⟨Int.ne_of_gt (den_pos x), zx.2.mono (by decide)⟩, _, _, rfl, rfl, _, rfl, _, _, rfl, rfl, ⟨z12', zW.mono (by decide)⟩, _, _, rfl, rfl, ?_⟩
    dsimp only
    have zR : Sz 62 ((13 * x.num).fdiv x.den - 1 - 12 * W) := Sz.sub (n := 61) (Sz.sub (n := 60) zfd ((szi 1 (Nat.one_lt_two_pow (by decide)))) (by decide)) ((Sz.of (n := 9) (by omega) (by omega)).mono (by decide)) (by decide)
    generalize (13 * x.num).fdiv x.den - 1 - 12 * W = R at *
    refine ⟨_, rfl, _, _, rfl, rfl, ⟨z12', zW.mono (by decide)⟩, (by show 2 ≤ sizeLine; decide), fun t2 n2 => ?_⟩
    have s6 := Same.new (o := .tup [.int (12 * W), .int 1]) n2
    have e6 : Tp (L2.upd H5 t2 (.tup [.int (12 * W), .int 1])) t2 ((12 * W : Int) : Rat) := upd_same
    have ex6 := ex.same s6
    have d6 := d5.same s6 (Nat.le_refl _)
    have b6 := b5.trans (But.same s6)
    have fo6 := fo5.same s6
    generalize L2.upd H5 t2 (.tup [.int (12 * W), .int 1]) = H6 at *
    have zs0 : Rz 10 ((12 * W : Int) : Rat) := Rz.int (Sz.mono (n := 9) (Sz.of (by omega) (by omega)) (by decide)) (by decide)
    refine ⟨fun σ' H' => ∃ (t2 : Addr) (s : Rat) (n' : Nat), σ' = [some (.ref l), some (.ref r), some (.int W), some (.int B), some (.int M), some (.ref t), some (.int R), some (.ref t2)] ∧ Tp H' t x ∧ Tp H' t2 s ∧ Rz 70 s ∧ ((12 * W : Int) : Rat) ≤ s ∧ But l H H' ∧ Dr H' l n' ∧ n' ≤ n + 5 ∧ Fo H' r m y o k, ?_, ?_⟩
    · refine ⟨_, rfl, _, _, rfl, rfl, _, rfl, ite2 (fun hb => ?_) (fun _ => ?_)⟩
      · have hR : 0 < R := of_decide_eq_true hb
        have hRB : 0 ≤ R * B := Int.mul_nonneg (by omega) (by omega)
        refine ⟨_, rfl, _, rfl, l, _, rfl, d6, by omega, fun v7 H7 v70 v71 b7 d7 => ⟨_, rfl, _, rfl, _, _, rfl, rfl, ⟨zR.mono (by decide), zB.mono (by decide)⟩, _, _, rfl, rfl, _, _, rfl, rfl, (show (0 : Int) < R * B + 1 by omega), _, rfl, _, _, rfl, by omega, ?_, zB.mono (by decide), fun t3 n3 => ?_⟩⟩
        all_goals have u0 := Int.emod_nonneg v7 (show R * B + 1 ≠ 0 by omega)
        all_goals have u1 : v7 % (R * B + 1) ≤ v7 := (by have e := Int.mul_ediv_add_emod v7 (R * B + 1); have := Int.mul_nonneg (show 0 ≤ R * B + 1 by omega) (Int.ediv_nonneg v70 (show 0 ≤ R * B + 1 by omega)); omega)
        all_goals have p29 : (2 : Int) ^ 29 = 536870912 := by decide
        all_goals have zv : Sz 29 (v7 % (R * B + 1)) := Sz.of (by omega) (by omega)
        · exact zv.mono (by decide)
        have zd : Rz 29 (Rat.divInt (v7 % (R * B + 1)) B) := Rz.divInt zv (zB.mono (by decide)) (by decide)
        have hpos : 0 ≤ Rat.divInt (v7 % (R * B + 1)) B := Rat.divInt_nonneg u0 (by omega)
        have s8 := Same.new (o := .tup [.int (Rat.divInt (v7 % (R * B + 1)) B).num, .int (Rat.divInt (v7 % (R * B + 1)) B).den]) n3
        have e8 : Tp (L2.upd H7 t3 (.tup [.int (Rat.divInt (v7 % (R * B + 1)) B).num, .int (Rat.divInt (v7 % (R * B + 1)) B).den])) t3 (Rat.divInt (v7 % (R * B + 1)) B) := upd_same
        generalize Rat.divInt (v7 % (R * B + 1)) B = dd at *
        refine ⟨t2, t3, ((12 * W : Int) : Rat), dd, rfl, ((e6.but b7 d6).same s8).tq (zs0.mono (by decide)), e8.tq (zd.mono (by decide)), fun t4 H9 n9 s9 e9 => ?_⟩
        have s79 := s8.trans s9
        exact ⟨t4, _, _, rfl, (ex6.but b7 d6).same s79, e9, zs0.add zd (by decide), by grind, (b6.trans b7).trans (But.same s79), d7.same s79 (Nat.le_refl _), by omega, (fo6.but b7 d6).same s79⟩
      · exact ⟨t2, _, _, rfl, ex6, e6, zs0.mono (by decide), Rat.le_refl, b6, d6, by omega, fo6⟩
    rintro σ' H7 ⟨t2, sn, n7, rfl, ex7, es, zs, hs, b7, d7, hn7, fo7⟩
    have back := q r H7 m y n7 b7 d7 hn7 fo7 g
    refine ⟨_, rfl, t, _, _, _, rfl, rfl, SqT.of ex7, rfl, _, rfl, t, _, _, _, rfl, rfl, SqT.of ex7, rfl, _, _, rfl, rfl, _, rfl, ite2 (fun _ => ⟨_, rfl, back⟩) (fun c1 => ?_)⟩
    have c1' : ¬ x.num < (x.den : Int) := fun z => c1 (decide_eq_true z)
    refine ⟨_, rfl, t, _, _, _, rfl, rfl, SqT.of ex7, rfl, _, rfl, _, rfl, t, _, _, _, rfl, rfl, SqT.of ex7, rfl, _, _, rfl, rfl, ⟨zW.mono (by decide), zx.2.mono (by decide)⟩, _, _, rfl, rfl, _, rfl, ite2 (fun _ => ⟨_, rfl, back⟩) (fun c2 => ?_)⟩
    have c2' : ¬ W * (x.den : Int) < x.num := fun z => c2 (decide_eq_true z)
    refine ⟨_, rfl, t, _, _, _, rfl, rfl, SqT.of ex7, rfl, _, _, rfl, rfl, ⟨z13', zx.1.mono (by decide)⟩, _, rfl, t2, _, _, _, rfl, rfl, SqT.of es, rfl, _, _, rfl, rfl, ⟨zn.mono (by decide), zs.2.mono (by decide)⟩, _, rfl, t2, _, _, _, rfl, rfl, SqT.of es, rfl, _, rfl, t2, _, _, _, rfl, rfl, SqT.of es, rfl, _, _, rfl, rfl, _, rfl, t, _, _, _, rfl, rfl, SqT.of ex7, rfl, _, _, rfl, rfl, ⟨(Sz.add (n := 70) zs.1 zs.2 (by decide : 70 < 71)).mono (by decide), zx.2.mono (by decide)⟩, _, _, rfl, rfl, _, rfl, ite2 (fun _ => ⟨_, rfl, back⟩) (fun c3 => ?_)⟩
    have c3' : ¬ 13 * x.num * sn.den < (sn.num + sn.den) * x.den := fun z => c3 (decide_eq_true z)
    obtain ⟨a, b, c, d', e, h1, h2, h3, h4⟩ := id fo7
    have hxW : x ≤ (W : Rat) := (divInt_le (b := 1) x).mp (by omega)
    have hx1 : 1 ≤ x := (den_le_num x).mp (by omega)
    have fit : Fit x sn := by
      refine ⟨hx1, ?_, thirteen_of c3'⟩
      have h1 : x.ceil ≤ W := Rat.ceil_le_iff.mpr hxW
      have h2 : (x.ceil : Rat) ≤ (W : Rat) := Rat.intCast_le_intCast.mpr h1
      rw [Rat.intCast_mul] at hs
      have e12 : ((12 : Int) : Rat) = 12 := rfl
      rw [e12] at hs
      grind
    refine ⟨_, rfl, _, rfl, (by show 2 ≤ sizeLine; decide), fun t5 n5 => ?_⟩
    have s8 := Same.new (o := .tup [.ref t, .ref t2]) n5
    refine ⟨_, rfl, _, rfl, r, _, rfl, SqT.of (s8 _ _ e), (by show ¬ (HT.sIx 4 0 (some 2) = 0 ∧ HT.sIx 4 4 none = 4); decide), fun t6 n6 => ?_⟩
    rw [show cutV [.ref a, .ref b, .ref c, .ref d'] (some 2) none = [V.ref c, .ref d'] from rfl]
    have s9 := Same.new (o := .tup [.ref c, .ref d']) n6
    refine ⟨t5, t6, _, _, rfl, rfl, SqT.of (s9 _ _ upd_same), SqT.of upd_same, (by simp), (by show 4 ≤ sizeLine; decide), (fun z => by cases z), fun _ t7 nt7 => ?_⟩
    have s10 := Same.new (o := .tup ([.ref t, .ref t2] ++ [.ref c, .ref d'])) nt7
    have s710 := s8.trans (s9.trans s10)
    refine q t7 _ x sn n7 (b7.trans (But.same s710)) (d7.same s710 (Nat.le_refl _)) hn7 ⟨t, t2, c, d', upd_same, ex7.same s710, es.same s710, h3.same s710, h4.same s710⟩ ⟨fit, zx.mono (by decide), zs, g.zo, g.zk⟩
end
/-! ### the law's rows -/
def RowT (m y : Rat) (H : Hp) (u : V) (z : Int × Int) : Prop := ∃ q t : Addr, u = .ref q ∧ H q = some (.tup [.int z.1, .int z.2, .ref t]) ∧ Tp H t (lkR m y z)
theorem RowT.same {m y : Rat} {H H1 : Hp} {u : V} {z : Int × Int} (h : RowT m y H u z) (s : Same H H1) : RowT m y H1 u z := by
  obtain ⟨q, t, e, e1, e2⟩ := h
  exact ⟨q, t, e, s _ _ e1, e2.same s⟩
theorem RowsR.same {R : Hp → V → Int × Int → Prop} {H H1 : Hp} {us : List V} {L : List (Int × Int)} (h : RowsR R H us L) (m : ∀ u z, R H u z → R H1 u z) : RowsR R H1 us L := ⟨h.1, fun j u hj => by
  obtain ⟨z, e1, e2⟩ := h.2 j u hj
  exact ⟨z, e1, m _ _ e2⟩⟩
theorem ab_eq (i : Int) : (if i < 0 then -i else i) = (i.natAbs : Int) := by
  split <;> omega
theorem Sz.ab {n : Nat} {i : Int} (h : Sz n i) : Sz n ((i.natAbs : Nat) : Int) := by
  unfold Sz at *
  omega
theorem atI_m1 {us : List V} {u : V} (h : us[us.length - 1]? = some u) : atI us (-1) = some u := by
  have hl := (List.getElem?_eq_some_iff.mp h).1
  unfold atI ixN
  rw [if_neg (by omega), if_pos (by omega)]
  show us[((-1 : Int) + us.length).toNat]? = some u
  rw [show ((-1 : Int) + us.length).toNat = us.length - 1 by omega]
  exact h
theorem atI_m2 {us : List V} {u : V} (h2 : 2 ≤ us.length) (h : us[us.length - 2]? = some u) : atI us (-2) = some u := by
  unfold atI ixN
  rw [if_neg (by omega), if_pos (by omega)]
  show us[((-2 : Int) + us.length).toNat]? = some u
  rw [show ((-2 : Int) + us.length).toNat = us.length - 2 by omega]
  exact h
theorem atI_j {us : List V} {u : V} {j : Nat} {i : Int} (hi : i = (j : Int)) (h : us[j]? = some u) : atI us i = some u := by
  have hl := (List.getElem?_eq_some_iff.mp h).1
  subst hi
  unfold atI ixN
  rw [if_pos (by omega), if_pos (by omega)]
  show us[(j : Int).toNat]? = some u
  rw [Int.toNat_natCast]
  exact h
/-- the thing at a place of the rows -/
theorem RowsR.at {R : Hp → V → Int × Int → Prop} {H : Hp} {us : List V} {L : List (Int × Int)} (h : RowsR R H us L) {j : Nat} {z : Int × Int} (hz : L[j]? = some z) : ∃ u, us[j]? = some u ∧ R H u z := by
  have hl := (List.getElem?_eq_some_iff.mp hz).1
  have hu := List.getElem?_eq_getElem (show j < us.length by rw [h.1]; exact hl)
  obtain ⟨z', e1, e2⟩ := h.2 j _ hu
  rw [hz] at e1
  cases e1
  exact ⟨_, hu, e2⟩
def spLL : Sp := fun vs H Q _ => ∃ (r : Addr) (z : Int × Int) (m y o k : Rat), vs = [.ref r, .int z.2, .int z.1] ∧ Fo H r m y o k ∧ Good m y o k ∧ Sz 310 z.1 ∧ Sz 310 z.2 ∧ ∀ t H', H t = none → Same H H' → Tp H' t (lkR m y z) → Q (.ref t) H'
def spNx : Sp := fun vs H Q _ => ∃ (r l : Addr) (us : List V) (most : Int) (m y o k : Rat), vs = [.ref r, .ref l] ∧ Fo H r m y o k ∧ Good m y o k ∧ 1 ≤ most ∧ Sz 100 most ∧ H l = some (.lst us) ∧ RowsR (RowT m y) H us (rowsN m y most) ∧
  (∀ q : Int × Int, (rowsN m y most)[(rowsN m y most).length - 1]? = some q → dv (y / m).num (y / m).den q ≠ 0) ∧ ∀ (n : Int) H', most < n → Same H H' → Q (.int n) H'
def spRr : Sp := fun vs H Q _ => ∃ (r l : Addr) (us : List V) (most : Int) (m y o k : Rat), vs = [.ref r, .ref l, .int most] ∧ Fo H r m y o k ∧ Good m y o k ∧ 1 ≤ most ∧ Sz 100 most ∧ H l = some (.lst us) ∧ RowsR (RowT m y) H us (rowsN m y most) ∧ ∀ H', Same H H' → Q (.bl true) H'
def spRd (C : Addr) : Sp := fun vs H Q _ => ∃ (l : Addr) (us : List V) (L : List (Int × Int)) (m y : Rat), vs = [.ref l] ∧ H l = some (.lst us) ∧ RowsR (RowS C m y) H us L ∧ L.length ≤ 400 ∧ ∀ D (us' : List V) H', H D = none → Same H H' → H' D = some (.lst us') → RowsR (RowT m y) H' us' L → Q (.ref D) H'
abbrev TE_l_read1 (K : PySem.W.Frag) : TE := tTup (tCons (tOp (rIxT K) (tVar 1) (tC (.int 0))) (tCons (tOp (rIxT K) (tVar 1) (tC (.int 1))) (tCons (tTup (tCons (tFld K (tOp (rIxT K) (tVar 1) (tC (.int 2))) "top") (tCons (tFld K (tOp (rIxT K) (tVar 1) (tC (.int 2))) "bottom") tNil))) tNil)))
theorem eqv_2i (a b : Int) : PyData.eqv (.tuple [.int a, .int b]) (.tuple [.int a, .int b]) = true := by
  simp [PyData.eqv, PyData.eqvAll]
section
variable {P : Program} {w : World} {K : PySem.W.Frag} {mg : Str → Option Value} {base : Heap} {C Cc : Addr}
theorem ok_llack (D : Df K mg "_law_lack" s_l_lack []) (f_l_plus : Ca P w K mg base CX0 2 "_law_plus" s_l_plus [] ["_law_one", "_law_two"] (spT2 fun a b => a + b)) (f_l_by : Ca P w K mg base CX0 2 "_law_by" s_l_by [] ["_law_one", "_law_two"] (spT2 fun a b => a * b)) : Ca P w K mg base CX0 3 "_law_lack" s_l_lack [] ["_law_four_here", "_law_months", "_law_years"] spLL := by
  refine ca0 (k := 2) D c_l_lack (fun vs H Q E h => ?_) fun f cdv A outer s H vs Q E hr h => ?_
  · obtain ⟨r, z, m, y, o, k, rfl, _⟩ := h
    rfl
  · obtain ⟨r, z, m, y, o, k, rfl, fo, g, z1, z2, q⟩ := h
    obtain ⟨a, b, c, d, e, h1, h2, h3, h4⟩ := id fo
    refine ⟨_, (pss_one (ps_ret (pe_ca f_l_plus b_l_plus hr (by decide) pass0 rfl (pa_cons (pe_ca f_l_by b_l_by hr (by decide) pass0 rfl (pa_cons (pe_ix ix_tup (pv 0) pe_int (fun _ _ => rfl)) (pa_cons (pe_tup (pa_cons (pv 1) (pa_cons pe_int pa_nil))) pa_nil))) (pa_cons (pe_ca f_l_by b_l_by hr (by decide) pass0 rfl (pa_cons (pe_ix ix_tup (pv 0) pe_int (fun _ _ => rfl)) (pa_cons (pe_tup (pa_cons (pe_op op_sub pe_int (pv 2)) (pa_cons pe_int pa_nil))) pa_nil))) pa_nil))))), ?_⟩
    refine ⟨_, rfl, r, _, _, _, rfl, rfl, SqT.of e, rfl, _, rfl, (by show 2 ≤ sizeLine; decide), fun t1 n1 => ?_⟩
    have s1 := Same.new (o := .tup [.int z.2, .int 1]) n1
    refine ⟨a, t1, m, (z.2 : Rat), rfl, (h1.same s1).tq (g.zm.mono (by decide)), int_div z.2 (z2.mono (by decide)) (by decide), fun t2 H2 n2 s2 e2 => ?_⟩
    have s12 := s1.trans s2
    refine ⟨_, rfl, r, _, _, _, rfl, rfl, SqT.of (s12 _ _ e), rfl, _, rfl, _, _, rfl, rfl, (by show 2 ≤ sizeLine; decide), fun t3 n3 => ?_⟩
    have s3 := Same.new (o := .tup [.int (0 - z.1), .int 1]) n3
    have s13 := s12.trans s3
    have zn : Sz 310 (0 - z.1) := by
      unfold Sz at *
      omega
    refine ⟨b, t3, y, ((0 - z.1 : Int) : Rat), rfl, (h2.same s13).tq (g.zy.mono (by decide)), int_div (0 - z.1) (zn.mono (by decide)) (by decide), fun t4 H4 n4 s4 e4 => ?_⟩
    refine ⟨t2, t4, m * (z.2 : Rat), y * ((0 - z.1 : Int) : Rat), rfl, (e2.same (s3.trans s4)).tq ((g.zm.mul (Rz.int z2 (by decide)) (by decide : _ < 390)).mono (by decide)), e4.tq ((g.zy.mul (Rz.int zn (by decide)) (by decide : _ < 390)).mono (by decide)), fun t5 H5 n5 s5 e5 => ?_⟩
    refine q t5 H5 (s13.free (s4.free n5)) (s13.trans (s4.trans s5)) ?_
    have ee : m * (z.2 : Rat) + y * ((0 - z.1 : Int) : Rat) = lkR m y z := by
      unfold lkR
      rw [Rat.intCast_sub, Rat.intCast_zero]
      grind
    rw [← ee]
    exact e5
theorem ok_lread (D : Df K mg "_law_read" s_l_read []) (T : ShX K C) : Ca P w K mg base CX0 1 "_law_read" s_l_read [] ["_law_told"] (spRd C) := by
  refine ca0 (k := 0) D c_l_read (fun vs H Q E h => ?_) fun f cdv A outer s H vs Q E hr h => ?_
  · obtain ⟨l, us, L, m, y, rfl, _⟩ := h
    rfl
  · obtain ⟨l, us, L, m, y, rfl, hl, hR, hlen, q⟩ := h
    refine ⟨_, (pss_one (ps_ret (pe_lc (own := [("_law_row", 1)]) (g := gName 1) (tt := tYes) (te := TE_l_read1 K) rfl c_l_read.nd (pi_list (pv 0)) (blkOk_by (N := ["_law_told", "_law_row"]) (sc := defScope s_l_read) (by decide +kernel)) (fun _ _ _ _ _ => (pg_name (i := 1) c_l_read.nd rfl (.inl rfl))) (fun _ _ _ _ _ => by exact pts_nil) (fun _ _ _ _ _ => by exact (pe_tup (pa_cons (pe_ix ix_tup (pv 1) pe_int (fun _ _ => rfl)) (pa_cons (pe_ix ix_tup (pv 1) pe_int (fun _ _ => rfl)) (pa_cons (pe_tup (pa_cons (pe_fld (pe_ix ix_tup (pv 1) pe_int (fun _ _ => rfl)) rfl) (pa_cons (pe_fld (pe_ix ix_tup (pv 1) pe_int (fun _ _ => rfl)) rfl) pa_nil))) pa_nil)))))))), ?_⟩
    refine ⟨_, rfl, l, rfl, ⟨_, SqL.of hl⟩, fun D nD => ?_⟩
    refine lc_all (walk_list (K := K) (a := l) (xs := us)) yAt_same nD (by rw [hR.1]; exact Nat.lt_of_le_of_lt hlen (by decide)) (fun (j : Nat) v H' => ∃ z : Int × Int, L[j]? = some z ∧ RowT m y H' v z)
      (fun j v Ha Hb s ⟨z, e1, e2⟩ => ⟨z, e1, e2.same s⟩) (fun j v Ha acc acc' hacc ⟨z, e1, t, u, e2, e3, e4⟩ => ⟨z, e1, t, u, e2, by rw [upd_ne (ne_of e3 hacc (by intro z; cases z))]; exact e3, by show L2.upd _ _ _ _ = _; rw [upd_ne (ne_of e4 hacc (by intro z; cases z))]; exact e4⟩) (fun H' s' => SqL.of (s' _ _ hl)) ?_ ?_
    · rintro i x Ha Hb R hi sa ⟨rfl, hx⟩ k1
      obtain ⟨z, hz, t, sh, rfl, e1, dx, e2⟩ := hR.2 i x hx
      have e1 := sa _ _ e1
      have e2 := sa _ _ e2
      refine ⟨rfl, ?_⟩
      refine ⟨_, rfl, t, _, _, _, rfl, rfl, SqT.of e1, rfl, _, rfl, t, _, _, _, rfl, rfl, SqT.of e1, rfl, _, rfl, t, _, _, _, rfl, rfl, SqT.of e1, rfl, sh, C, dx, _, _, rfl, e2, T.cl, T.nT, sf_top _ _, _, rfl, t, _, _, _, rfl, rfl, SqT.of e1, rfl, sh, C, dx, _, _, rfl, e2, T.cl, T.nB, sf_bottom _ _, (by show 2 ≤ sizeLine; decide), fun t1 n1 => ⟨(by show 3 ≤ sizeLine; decide), fun t2 n2 => ?_⟩⟩
      have s1 := Same.new (o := .tup [.int (lkR m y z).num, .int (lkR m y z).den]) n1
      have s2 := Same.new (o := .tup [.int z.1, .int z.2, .ref t1]) n2
      exact k1 _ _ (s1.trans s2) ⟨z, hz, t2, t1, rfl, upd_same, s2 _ _ upd_same⟩
    · intro us' H' hl' hD' hs hp
      exact q D us' H' nD hs hD' ⟨by rw [hl', hR.1], hp⟩
end
/-! ### near rounds, however far -/
theorem But.fresh {l c : Addr} {H H1 : Hp} {o : HO} (b : But l H H1) (n : H c = none) : But l H (L2.upd H1 c o) := fun x u hx e => by
  rw [upd_ne (ne_of_none e n)]
  exact b x u hx e
theorem Cl.putL {C Cc D : Addr} {H : Hp} {p : Addr} {m y o k : Rat} {ys : List V} {u : HO} (h : Cl C Cc H p m y o k) (hD : H D = some (.lst ys)) : Cl C Cc (L2.upd H D u) p m y o k := by
  obtain ⟨dx, a, b, c, d, e, ⟨x1, h1⟩, ⟨x2, h2⟩, ⟨x3, h3⟩, ⟨x4, h4⟩⟩ := h
  have k : ∀ {a c dx : Addr} {fs : List (Str × V)}, H a = some (.ins c dx fs) → L2.upd H D u a = some (.ins c dx fs) := fun {a c dx fs} e => by
    rw [upd_ne (ne_of e hD (by intro z; cases z))]
    exact e
  exact ⟨dx, a, b, c, d, k e, ⟨x1, k h1⟩, ⟨x2, k h2⟩, ⟨x3, k h3⟩, ⟨x4, k h4⟩⟩
theorem Fo.putL {D : Addr} {H : Hp} {r : Addr} {m y o k : Rat} {ys : List V} {u : HO} (h : Fo H r m y o k) (hD : H D = some (.lst ys)) : Fo (L2.upd H D u) r m y o k := by
  obtain ⟨a, b, c, d, e, h1, h2, h3, h4⟩ := h
  have k : ∀ {a : Addr} {xs : List V}, H a = some (.tup xs) → L2.upd H D u a = some (.tup xs) := fun {a xs} e => by
    rw [upd_ne (ne_of e hD (by intro z; cases z))]
    exact e
  exact ⟨a, b, c, d, k e, k h1, k h2, k h3, k h4⟩
theorem Cl.but {C Cc l : Addr} {H H1 : Hp} {p : Addr} {n : Nat} {m y o k : Rat} (h : Cl C Cc H p m y o k) (b : But l H H1) (d : Dr H l n) : Cl C Cc H1 p m y o k := by
  obtain ⟨dx, a, b', c, d', e, ⟨x1, h1⟩, ⟨x2, h2⟩, ⟨x3, h3⟩, ⟨x4, h4⟩⟩ := h
  exact ⟨dx, a, b', c, d', b.ins d e, ⟨x1, b.ins d h1⟩, ⟨x2, b.ins d h2⟩, ⟨x3, b.ins d h3⟩, ⟨x4, b.ins d h4⟩⟩
/-- rows as data -/
def rowD (m y : Rat) (z : Int × Int) : PyData := .tuple [.int z.1, .int z.2, .tuple [.int (lkR m y z).num, .int (lkR m y z).den]]
theorem lay_rows (m y : Rat) : ∀ zs : List (Int × Int), PyData.canLayAll0 (zs.map (rowD m y)) = true
  | [] => rfl
  | z :: zs => by
    rw [List.map_cons, PyData.canLayAll0, lay_rows m y zs, rowD]
    simp [PyData.canLay0, PyData.canLayAll0]
theorem dep_rows (m y : Rat) : ∀ zs : List (Int × Int), PyData.depthAll (zs.map (rowD m y)) ≤ 5
  | [] => by simp [PyData.depthAll]
  | z :: zs => by
    have h := dep_rows m y zs
    simp only [List.map_cons, PyData.depthAll, rowD, PyData.depth, Nat.max_def]
    repeat' split
    all_goals omega
theorem sh_rows (m y : Rat) (zs : List (Int × Int)) : SeqAt.shaped (.list (zs.map (rowD m y))) = true := by
  have h := dep_rows m y zs
  show (PyData.canLay0 (.list (zs.map (rowD m y))) && decide (PyData.depth (.list (zs.map (rowD m y))) ≤ 64)) = true
  rw [Bool.and_eq_true]
  refine ⟨by simp only [PyData.canLay0]; exact lay_rows m y zs, decide_eq_true ?_⟩
  simp only [PyData.depth]
  omega
theorem eqv_rows (m y : Rat) (zs : List (Int × Int)) : PyData.eqv (.list (zs.map (rowD m y))) (.list (zs.map (rowD m y))) = true := SeqAt.eqv_refl _ (by simp only [PyData.canLay0]; exact lay_rows m y zs)
theorem RowsR.dps {K : PySem.W.Frag} {m y : Rat} {H : Hp} : ∀ {us : List V} {zs : List (Int × Int)}, RowsR (RowT m y) H us zs → DpAll K H us (zs.map (rowD m y))
  | [], [], _ => .nil
  | [], _ :: _, h => by have := h.1; simp at this
  | _ :: _, [], h => by have := h.1; simp at this
  | u :: us, z :: zs, h => by
    obtain ⟨z', e2, q, t, rfl, e3, e4⟩ := h.2 0 u rfl
    cases e2
    refine .cons (.tup (SqT.of e3) (.cons (.int _) (.cons (.int _) (.cons (.tup (SqT.of e4) (.cons (.int _) (.cons (.int _) .nil))) .nil)))) (RowsR.dps ⟨by have := h.1; simpa using this, fun j v hv => h.2 (j + 1) v (by simpa using hv)⟩)
theorem cutV_take {us : List V} {n : Nat} (h : n ≤ us.length) : cutV us none (some (n : Int)) = us.take n := by
  unfold cutV
  have e1 : HT.sIx us.length 0 none = 0 := rfl
  have e2 : HT.sIx us.length us.length (some (n : Int)) = n := by
    unfold HT.sIx
    simp only []
    repeat' split
    all_goals omega
  rw [e1, e2, List.drop_zero, Nat.sub_zero]
theorem RowsR.take {R : Hp → V → Int × Int → Prop} {H : Hp} {us : List V} {L L2 : List (Int × Int)} (h : RowsR R H us L2) (p : L <+: L2) : RowsR R H (us.take L.length) L := by
  have hl := p.length_le
  refine ⟨by rw [List.length_take, h.1]; omega, fun j u hj => ?_⟩
  rw [List.getElem?_take] at hj
  split at hj
  · rename_i hlt
    obtain ⟨z, e1, e2⟩ := h.2 j u hj
    refine ⟨z, ?_, e2⟩
    obtain ⟨t, rfl⟩ := p
    rw [List.getElem?_append_left hlt] at e1
    exact e1
  · cases hj
theorem cons_but {l : Addr} {H H1 : Hp} {n : Nat} {m y : Rat} {us : List V} {L : List (Int × Int)} (h : RowsR (RowT m y) H us L) (b : But l H H1) (d : Dr H l n) : RowsR (RowT m y) H1 us L :=
  h.same fun u z ⟨q, t, e, e1, e2⟩ => ⟨q, t, e, b.tup d e1, e2.but b d⟩
/-! ### the due rows, reckoned year by year -/
def spLess : Sp := fun vs H Q _ => ∃ (a b : Addr) (x z : Rat), vs = [.ref a, .ref b] ∧ Tp H a x ∧ Tp H b z ∧ Rz 900 x ∧ Rz 900 z ∧ Q (.bl (decide ((x.num.natAbs : Int) * z.den < (z.num.natAbs : Int) * x.den))) H
def dueN (m y : Rat) (n : Nat) : List (Int × Int) := dueL (y / m).num (y / m).den n
theorem dueN_eq {m y o k : Rat} (g : Good m y o k) {n : Nat} (hn : 1 ≤ n) : dueN m y n = rowsN m y (n : Int) := by
  refine due_rows (f := 398) (den_pos _) g.AB ?_ n hn
  have := Sz.mul g.zx.1 g.zx.2
  unfold Sz at this
  omega
def spDue : Sp := fun vs H Q _ => ∃ (r : Addr) (n : Nat) (m y o k : Rat), vs = [.ref r, .int (n : Int)] ∧ n ≤ 400 ∧ Fo H r m y o k ∧ Good m y o k ∧ ∀ D (us : List V) H', H D = none → Same H H' → H' D = some (.lst us) → RowsR (RowT m y) H' us (dueN m y n) → Q (.ref D) H'
theorem znat42 (n : Nat) (h : n ≤ 1000) {k : Nat} (hk : 10 ≤ k) : Sz k (n : Int) := by
  have : Sz 10 (n : Int) := by
    unfold Sz
    rw [Int.natAbs_natCast]
    exact Nat.lt_of_le_of_lt h (by decide)
  exact this.mono hk
theorem Good.due_sz {m y o k : Rat} (g : Good m y o k) {n : Nat} (hn : n ≤ 400) {z : Int × Int} (hz : z ∈ dueN m y n) : Sz 310 z.1 ∧ Sz 310 z.2 := by
  by_cases h0 : n = 0
  · subst h0
    cases hz
  · rw [dueN_eq g (by omega)] at hz
    obtain ⟨h1, h2⟩ := g.rsz (show (1 : Int) ≤ (n : Int) by omega) (znat42 n (by omega) (by decide)) hz
    exact ⟨h1.mono (by decide), h2⟩
theorem due_len {A B : Int} : ∀ n : Nat, (dueL A B n).length ≤ n
  | 0 => Nat.le_refl _
  | n + 1 => by
    have ih := due_len (A := A) (B := B) n
    show (ad A B (dueL A B n) _).length ≤ _
    unfold ad
    split
    · rw [List.length_append]
      simp
      omega
    · split
      · rw [List.length_append]
        simp
        omega
      · omega
section
variable {P : Program} {w : World} {K : PySem.W.Frag} {mg : Str → Option Value} {base : Heap}
theorem ok_lless (D : Df K mg "_law_less" s_l_less []) (g_abs : mg "abs" = none) : Ca P w K mg base CX0 1 "_law_less" s_l_less [] ["_law_one", "_law_two"] spLess := by
  refine ca0 (k := 0) D c_l_less (fun vs H Q E h => ?_) fun f cdv A outer s H vs Q E hr h => ?_
  · obtain ⟨a, b, x, z, rfl, _⟩ := h
    rfl
  · obtain ⟨a, b, x, z, rfl, ea, eb, zx, zz, q⟩ := h
    refine ⟨_, (pss_one (ps_ret (pe_cmpR op_lt (pe_op op_mulA (pe_callB call_abs rfl g_abs (by decide +kernel) (pa_cons (pe_ix ix_tup (pv 0) pe_int (fun _ _ => rfl)) pa_nil)) (pe_ix ix_tup (pv 1) pe_int (fun _ _ => rfl))) (pe_op op_mulA (pe_callB call_abs rfl g_abs (by decide +kernel) (pa_cons (pe_ix ix_tup (pv 1) pe_int (fun _ _ => rfl)) pa_nil)) (pe_ix ix_tup (pv 0) pe_int (fun _ _ => rfl))) (nomark _)))), ?_⟩
    refine ⟨_, rfl, a, _, _, _, rfl, rfl, SqT.of ea, rfl, _, rfl, _, rfl, b, _, _, _, rfl, rfl, SqT.of eb, rfl, _, _, rfl, rfl, ?_⟩
    rw [ab_eq]
    refine ⟨⟨zx.1.ab.mono (by decide), zz.2.mono (by decide)⟩, _, rfl, b, _, _, _, rfl, rfl, SqT.of eb, rfl, _, rfl, _, rfl, a, _, _, _, rfl, rfl, SqT.of ea, rfl, _, _, rfl, rfl, ?_⟩
    rw [ab_eq]
    exact ⟨⟨zz.1.ab.mono (by decide), zx.2.mono (by decide)⟩, _, _, rfl, rfl, q⟩
set_option maxHeartbeats 8000000 in
theorem ok_ldue (D : Df K mg "_law_due" s_l_due []) (g_range : mg "range" = none) (f_l_lack : Ca P w K mg base CX0 3 "_law_lack" s_l_lack [] ["_law_four_here", "_law_months", "_law_years"] spLL) (f_l_less : Ca P w K mg base CX0 1 "_law_less" s_l_less [] ["_law_one", "_law_two"] spLess) : Ca P w K mg base CX0 4 "_law_due" s_l_due [] ["_law_four_here", "_law_count"] spDue := by
  refine ca0 (k := 3) D c_l_due (fun vs H Q E h => ?_) fun f cdv A outer s H vs Q E hr h => ?_
  · obtain ⟨r, n, m, y, o, k, rfl, _⟩ := h
    rfl
  · obtain ⟨r, N, m, y, o, k, rfl, hN, fo, g, cont⟩ := h
    refine ⟨_, (pss_cons (ps_set (i := 2) c_l_due.nd rfl (.inl rfl) (pe_lst pa_nil))
      (pss_cons (ps_for PassesOwn.never rfl (pi_rangeA rfl g_range (pa_cons pe_int (pa_cons (pe_op op_add (pv 1) pe_int) pa_nil))) (pg_name (i := 3) c_l_due.nd rfl (.inl rfl)) (pss_cons (ps_set (i := 4) c_l_due.nd rfl (.inl rfl) (pe_op op_mulA (pe_op op_mulA (pv 3) (pe_ix ix_tup (pe_ix ix_tup (pv 0) pe_int (fun _ _ => rfl)) pe_int (fun _ _ => rfl))) (pe_ix ix_tup (pe_ix ix_tup (pv 0) pe_int (fun _ _ => rfl)) pe_int (fun _ _ => rfl))))
      (pss_cons (ps_set (i := 5) c_l_due.nd rfl (.inl rfl) (pe_op op_fdivA (pv 4) (pe_op op_mulA (pe_ix ix_tup (pe_ix ix_tup (pv 0) pe_int (fun _ _ => rfl)) pe_int (fun _ _ => rfl)) (pe_ix ix_tup (pe_ix ix_tup (pv 0) pe_int (fun _ _ => rfl)) pe_int (fun _ _ => rfl)))))
      (pss_cons (ps_set (i := 6) c_l_due.nd rfl (.inl rfl) (pe_ca f_l_lack b_l_lack hr (by decide) pass0 rfl (pa_cons (pv 0) (pa_cons (pv 5) (pa_cons (pv 3) pa_nil)))))
      (C8.pss_cut (ps_if (pt_val (pe_ca f_l_less b_l_less hr (by decide) pass0 rfl (pa_cons (pe_ca f_l_lack b_l_lack hr (by decide) pass0 rfl (pa_cons (pv 0) (pa_cons (pe_op op_add (pv 5) pe_int) (pa_cons (pv 3) pa_nil)))) (pa_cons (pv 6) pa_nil)))) (pss_cons (ps_set (i := 5) c_l_due.nd rfl (.inl rfl) (pe_op op_add (pv 5) pe_int))
      (pss_one (ps_set (i := 6) c_l_due.nd rfl (.inl rfl) (pe_ca f_l_lack b_l_lack hr (by decide) pass0 rfl (pa_cons (pv 0) (pa_cons (pv 5) (pa_cons (pv 3) pa_nil))))))) pss_nil)
      (pss_one (ps_if (PW.pt (pw_or (pt_cmpR (op_eqD hr.units) (pv 2) (pe_lst pa_nil) (nomark _)) (pw_or1 (pt_val (pe_ca f_l_less b_l_less hr (by decide) pass0 rfl (pa_cons (pv 6) (pa_cons (pe_ix ix_tup (pe_ix ix_list (pv 2) (pe_un un_neg pe_int) (fun _ _ => rfl)) pe_int (fun _ _ => rfl)) pa_nil))))))) (pss_one (ps_expr (pe_bm PySem.F.plainAttrs_list PySem.F.slot_list_append PySem.F.type_list_append mt_append (pv 2) (pa_cons (pe_tup (pa_cons (pv 3) (pa_cons (pv 5) (pa_cons (pv 6) pa_nil)))) pa_nil)))) pss_nil)))))))
      (pss_one (ps_ret (pv 2))))), ?_⟩
    have hm := g.fit.pos
    refine ⟨(by show 0 ≤ sizeLine; decide), fun D nD => ?_⟩
    have eD0 : (L2.upd H D (.lst [])) D = some (.lst []) := upd_same
    have s0 : Same H (L2.upd H D (.lst [])) := Same.new nD
    generalize L2.upd H D (.lst []) = H0 at *
    refine ⟨_, rfl, _, _, rfl, rfl, 1, _, rfl, ?_⟩
    rw [show ((N : Int) + 1 - 1).toNat = N by omega]
    refine for_it (walk_range (lo := 1) (n := N)) (fun i σ H' => ∃ (us : List V) (v3 v4 v5 v6 : Option V), σ = [some (.ref r), some (.int (N : Int)), some (.ref D), v3, v4, v5, v6] ∧ Same H H' ∧ H' D = some (.lst us) ∧ RowsR (RowT m y) H' us (dueN m y i))
      ⟨[], _, _, _, _, rfl, s0, eD0, ⟨rfl, fun j u hj => by simp at hj⟩⟩ (fun _ _ _ _ _ => trivial) ?_ ?_
    · rintro i x σ Ha Hb hi ⟨us, v3, v4, v5, v6, rfl, sa, eD, hR⟩ ⟨rfl, rfl⟩
      obtain ⟨a, b, c, d, e, h1, h2, h3, h4⟩ := id (fo.same sa)
      have en : (1 : Int) + (i : Int) = (((i + 1 : Nat) : Nat) : Int) := by omega
      dsimp only
      rw [en]
      generalize hnn : ((i + 1 : Nat) : Int) = n at *
      have zn : Sz 10 n := by rw [← hnn]; exact znat42 (i + 1) (by omega) (by decide)
      have hn1 : 1 ≤ n := by omega
      have z1 : Sz 80 (n * y.num) := (Sz.mul zn g.zy.1).mono (by decide)
      refine ⟨_, rfl, _, rfl, r, _, _, _, rfl, rfl, SqT.of e, rfl, b, _, _, _, rfl, rfl, SqT.of h2, rfl, _, _, rfl, rfl, ⟨zn.mono (by decide), g.zy.1.mono (by decide)⟩, _, rfl, r, _, _, _, rfl, rfl, SqT.of e, rfl, a, _, _, _, rfl, rfl, SqT.of h1, rfl, _, _, rfl, rfl, ⟨z1.mono (by decide), g.zm.2.mono (by decide)⟩, ?_⟩
      have pY : (0 : Int) < (y.den : Int) * m.num := Int.mul_pos (den_pos y) (num_pos hm)
      refine ⟨_, rfl, _, rfl, r, _, _, _, rfl, rfl, SqT.of e, rfl, b, _, _, _, rfl, rfl, SqT.of h2, rfl, _, rfl, r, _, _, _, rfl, rfl, SqT.of e, rfl, a, _, _, _, rfl, rfl, SqT.of h1, rfl, _, _, rfl, rfl, ⟨g.zy.2.mono (by decide), g.zm.1.mono (by decide)⟩, _, _, rfl, rfl, ⟨Int.ne_of_gt pY, (Sz.mul g.zy.2 g.zm.1).mono (by decide)⟩, ?_⟩
      dsimp only
      have eq : (n * y.num * (m.den : Int)).fdiv ((y.den : Int) * m.num) = n * (y / m).num / ((y / m).den : Int) := by
        rw [Int.fdiv_eq_ediv_of_nonneg _ (Int.le_of_lt pY)]
        exact mo_floor hm n
      rw [eq]
      have zQ : Sz 301 (n * (y / m).num / ((y / m).den : Int)) := Nat.lt_of_le_of_lt (Int.natAbs_ediv_le_natAbs _ _) ((Sz.mul zn g.zx.1).mono (by decide))
      have e0 := Int.mul_ediv_add_emod (n * (y / m).num) ((y / m).den : Int)
      have r0 := Int.emod_nonneg (n * (y / m).num) (Int.ne_of_gt (den_pos (y / m)))
      have r1 := Int.emod_lt_of_pos (n * (y / m).num) (den_pos (y / m))
      have hnmo : nmo (y / m).num (y / m).den n = if ((y / m).den : Int) - n * (y / m).num % ((y / m).den : Int) < n * (y / m).num % ((y / m).den : Int) then n * (y / m).num / ((y / m).den : Int) + 1 else n * (y / m).num / ((y / m).den : Int) := rfl
      have dv0 : dv (y / m).num (y / m).den (n, n * (y / m).num / ((y / m).den : Int)) = -(n * (y / m).num % ((y / m).den : Int)) := by
        unfold dv
        dsimp only
        rw [Int.mul_comm (n * (y / m).num / ((y / m).den : Int))]
        omega
      have dv1 : dv (y / m).num (y / m).den (n, n * (y / m).num / ((y / m).den : Int) + 1) = ((y / m).den : Int) - (n * (y / m).num % ((y / m).den : Int)) := by
        unfold dv
        dsimp only
        rw [Int.add_mul, Int.mul_comm (n * (y / m).num / ((y / m).den : Int))]
        omega
      generalize n * (y / m).num / ((y / m).den : Int) = Qt at *
      generalize n * (y / m).num % ((y / m).den : Int) = Rr at *
      have zQ1 : Sz 310 (Qt + 1) := (Sz.add (n := 301) zQ (szi 1 (Nat.one_lt_two_pow (by decide))) (by decide : 301 < 302)).mono (by decide)
      have zn3 : Sz 310 n := zn.mono (by decide)
      refine ⟨_, rfl, _, rfl, _, rfl, r, (n, Qt), m, y, o, k, rfl, fo.same sa, g, zn3, zQ.mono (by decide), fun t1 H1 n1 s1 e1 => ?_⟩
      have sa1 := sa.trans s1
      have zl0 := g.zlk (z := (n, Qt)) zn3 (zQ.mono (by decide))
      have zl1 := g.zlk (z := (n, Qt + 1)) zn3 zQ1
      refine ⟨fun σ' H' => ∃ t : Addr, σ' = [some (.ref r), some (.int (N : Int)), some (.ref D), some (.int n), some (.int (n * y.num * (m.den : Int))), some (.int (nmo (y / m).num (y / m).den n)), some (.ref t)] ∧ Same Hb H' ∧ Tp H' t (lkR m y (n, nmo (y / m).num (y / m).den n)), ?_, ?_⟩
      · refine ⟨_, rfl, _, rfl, _, _, rfl, rfl, _, rfl, r, (n, Qt + 1), m, y, o, k, rfl, fo.same sa1, g, zn3, zQ1, fun t2 H2 n2 s2 e2 => ?_⟩
        refine ⟨_, rfl, t2, t1, _, _, rfl, e2, e1.same s2, zl1.mono (by decide), zl0.mono (by decide), _, rfl, ?_⟩
        have iff := (lk_pt (y := y) hm (n, Qt + 1)).lt_iff (lk_pt hm (n, Qt))
        refine ite2 (fun hb => ?_) (fun hb => ?_)
        · have l := iff.mp (of_decide_eq_true hb)
          rw [dv0, dv1] at l
          have eN : nmo (y / m).num (y / m).den n = Qt + 1 := by
            rw [hnmo, if_pos (by omega)]
          rw [eN]
          have sa2 := sa1.trans s2
          refine ⟨_, rfl, _, _, rfl, rfl, _, rfl, _, rfl, _, rfl, r, (n, Qt + 1), m, y, o, k, rfl, fo.same sa2, g, zn3, zQ1, fun t3 H3 n3 s3 e3 => ?_⟩
          exact ⟨t3, rfl, s1.trans (s2.trans s3), e3⟩
        · have l : ¬ _ := fun z => hb (decide_eq_true (iff.mpr z))
          rw [dv0, dv1] at l
          have eN : nmo (y / m).num (y / m).den n = Qt := by
            rw [hnmo, if_neg (by omega)]
          rw [eN]
          exact ⟨t1, rfl, s1.trans s2, e1.same s2⟩
      rintro σ' H2 ⟨t, rfl, s2, et⟩
      have zX : Sz 310 (nmo (y / m).num (y / m).den n) := by
        rw [hnmo]
        split
        · exact zQ1
        · exact zQ.mono (by decide)
      have zlx := g.zlk (z := (n, nmo (y / m).num (y / m).den n)) zn3 zX
      have edue : dueN m y (i + 1) = ad (y / m).num (y / m).den (dueN m y i) (n, nmo (y / m).num (y / m).den n) := by
        have : n = (i : Int) + 1 := by omega
        rw [this]
        rfl
      generalize nmo (y / m).num (y / m).den n = X at *
      have eD2 := s2 _ _ eD
      have hR2 := hR.same fun _ _ h => h.same s2
      refine ⟨_, rfl, (by show 0 ≤ sizeLine; decide), fun p np => ?_⟩
      have s3 := Same.new (o := .lst []) np
      have eD3 := s3 _ _ eD2
      have hR3 := hR2.same fun _ _ h => h.same s3
      have ep : (L2.upd H2 p (.lst [])) p = some (.lst []) := upd_same
      have et3 := et.same s3
      generalize L2.upd H2 p (.lst []) = H3 at *
      have sH3 := sa.trans (s2.trans s3)
      refine ⟨.list ((dueN m y i).map (rowD m y)), .list [], .lst (SqL.of eD3) hR3.dps, .lst (SqL.of ep) .nil, sh_rows m y _, rfl, _, rfl, ?_⟩
      have app : ∀ H4, Same H3 H4 → ad (y / m).num (y / m).den (dueN m y i) (n, X) = dueN m y i ++ [(n, X)] → ∀ tz, H4 tz = none → ∃ (us' : List V) (v3 v4 v5 v6 : Option V), [some (V.ref r), some (.int (N : Int)), some (.ref D), some (.int n), some (.int (n * y.num * (m.den : Int))), some (.int X), some (.ref t)] = [some (.ref r), some (.int (N : Int)), some (.ref D), v3, v4, v5, v6] ∧ Same H (L2.upd (L2.upd H4 tz (.tup [.int n, .int X, .ref t])) D (.lst (us ++ [.ref tz]))) ∧ (L2.upd (L2.upd H4 tz (.tup [.int n, .int X, .ref t])) D (.lst (us ++ [.ref tz]))) D = some (.lst us') ∧ RowsR (RowT m y) (L2.upd (L2.upd H4 tz (.tup [.int n, .int X, .ref t])) D (.lst (us ++ [.ref tz]))) us' (dueN m y (i + 1)) := by
        intro H4 s4 ea tz ntz
        have s5 := Same.new (o := .tup [.int n, .int X, .ref t]) ntz
        have eD4 := s4 _ _ eD3
        have eD5 := s5 _ _ eD4
        have kt : ∀ {a' : Addr} {xs : List V} {u : HO}, (L2.upd H4 tz (.tup [.int n, .int X, .ref t])) a' = some (.tup xs) → L2.upd (L2.upd H4 tz (.tup [.int n, .int X, .ref t])) D u a' = some (.tup xs) := fun {a' xs u} e => by
          rw [upd_ne (ne_of e eD5 (by intro z; cases z))]
          exact e
        refine ⟨us ++ [.ref tz], _, _, _, _, rfl, upd_keep nD (sH3.trans (s4.trans s5)), upd_same, ?_⟩
        rw [edue, ea]
        refine ⟨by rw [List.length_append, List.length_append, hR3.1]; rfl, fun j u hj => ?_⟩
        by_cases hjl : j < us.length
        · rw [List.getElem?_append_left hjl] at hj
          obtain ⟨z, e1, q', t', e2, e3, e4⟩ := hR3.2 j u hj
          refine ⟨z, ?_, q', t', e2, kt (s5 _ _ (s4 _ _ e3)), kt (s5 _ _ (s4 _ _ e4))⟩
          rw [List.getElem?_append_left (by rw [← hR3.1]; exact hjl)]
          exact e1
        · rw [List.getElem?_append_right (by omega)] at hj
          have ej : j = us.length := by
            by_cases hz : j - us.length = 0
            · omega
            · have : ([V.ref tz] : List V)[j - us.length]? = none := List.getElem?_eq_none_iff.mpr (by simp; omega)
              rw [this] at hj
              cases hj
          subst ej
          rw [Nat.sub_self] at hj
          cases hj
          refine ⟨(n, X), ?_, tz, t, rfl, kt upd_same, kt (s5 _ _ (s4 _ _ et3))⟩
          rw [List.getElem?_append_right (by rw [hR3.1]; exact Nat.le_refl _), hR3.1, Nat.sub_self]
          rfl
      have hlen : us.length ≤ 400 := by
        have h1 := hR3.1
        have h2 := due_len (A := (y / m).num) (B := ((y / m).den : Int)) i
        have h3 : (dueN m y i).length ≤ i := h2
        omega
      have hsz : us.length < sizeLine := Nat.lt_of_le_of_lt hlen (by decide)
      cases hL : dueN m y i with
      | nil =>
        rw [hL] at app
        have ev : PyData.eqv (.list (([] : List (Int × Int)).map (rowD m y))) (.list []) = true := by simp [PyData.eqv, PyData.eqvAll]
        rw [ev]
        refine iteT ⟨_, rfl, .inl ⟨rfl, _, SqL.of eD3⟩, _, rfl, _, rfl, _, rfl, (by show 3 ≤ sizeLine; decide), fun tz ntz => ?_⟩
        refine ⟨D, us, _, rfl, rfl, (by rw [upd_ne (ne_of_none eD3 ntz)]; exact eD3), hsz, ?_⟩
        exact app H3 (Same.refl _) rfl tz ntz
      | cons z0 zs =>
        have ev : PyData.eqv (.list ((z0 :: zs).map (rowD m y))) (.list []) = false := by simp [PyData.eqv, PyData.eqvAll]
        rw [ev]
        have hne : dueN m y i ≠ [] := by rw [hL]; simp
        obtain ⟨q, hq⟩ : ∃ q, (dueN m y i).getLast? = some q := ⟨_, List.getLast?_eq_some_getLast hne⟩
        have hq' := last_of hq
        obtain ⟨uq, huq, qa, tq, rfl, eqa, etq⟩ := hR3.at hq'
        rw [← hR3.1] at huq
        obtain ⟨y1, y2⟩ := g.due_sz (n := i) (by omega) (List.mem_of_getElem? hq')
        have zlq := g.zlk y1 y2
        have iff := (lk_pt (y := y) hm (n, X)).lt_iff (lk_pt hm q)
        refine iteF ⟨_, rfl, _, rfl, _, rfl, D, us, _, _, rfl, rfl, SqL.of eD3, atI_m1 huq, qa, _, _, _, rfl, rfl, SqT.of eqa, rfl, t, tq, _, _, rfl, et3, etq, zlx.mono (by decide), zlq.mono (by decide), _, rfl, ite2 (fun hb => ?_) (fun hb => ?_)⟩
        · have l := iff.mp (of_decide_eq_true hb)
          refine ⟨_, rfl, .inl ⟨rfl, _, SqL.of eD3⟩, _, rfl, _, rfl, _, rfl, (by show 3 ≤ sizeLine; decide), fun tz ntz => ?_⟩
          refine ⟨D, us, _, rfl, rfl, (by rw [upd_ne (ne_of_none eD3 ntz)]; exact eD3), hsz, ?_⟩
          refine app H3 (Same.refl _) ?_ tz ntz
          unfold ad
          rw [hq]
          exact if_pos l
        · have l : ¬ _ := fun z => hb (decide_eq_true (iff.mpr z))
          refine ⟨us, _, _, _, _, rfl, sH3, eD3, ?_⟩
          have ea : ad (y / m).num (y / m).den (dueN m y i) (n, X) = dueN m y i := by
            unfold ad
            rw [hq]
            exact if_neg l
          rw [edue, ea]
          exact hR3
    · rintro σ H1 ⟨us, v3, v4, v5, v6, rfl, sa, eD, hR⟩
      exact ⟨_, rfl, cont D us H1 nD sa eD hR⟩
end
/-! ### near rounds, as the law reckons them -/
def gMC {α : Type} : List α → List α → List α := fun us ws => us ++ (match ws with | [a, b] => [b, a] | _ => [])
theorem gMC_rel {n m : Nat} {vs zs : List V} {us ws : List Value} (_ : vs.length = n) (_ : zs.length = m) (h : Vals vs us) (k : Vals zs ws) : Vals (gMC vs zs) (gMC us ws) := by
  refine h.append ?_
  cases k with
  | nil => exact .nil
  | cons a k => cases k with
    | nil => exact .nil
    | cons b k => cases k with
      | nil => exact .cons b (.cons a .nil)
      | cons c k => exact .nil
theorem kb_near_rounds_most_calendar : Kb "near_rounds" s_near_rounds 0 ["most", "calendar"] ["calendar", "most"] gMC := ⟨fun _ _ _ _ _ _ us ws hu hw => match us, hu, ws, hw with | [], _, [_, _], _ => rfl, gMC_rel⟩
def spRight31 : Sp := fun vs H Q _ => ∃ (l : Addr), vs = [.ref l] ∧ Dr H l 0 ∧ ∀ H', But l H H' → Q (.bl true) H'
section
variable {P : Program} {w : World} {K : PySem.W.Frag} {mg : Str → Option Value} {base : Heap} {C Cc : Addr}
set_option maxHeartbeats 8000000 in
theorem ok_lright42 (D : Df K mg "_law_right" s_l_right []) (f_l_four : Ca P w K mg base CX0 4 "_law_four" s_l_four [] ["_law_draws_here"] spFour) (f_l_next : Ca P w K mg base CX0 1 "_law_next" s_l_next [] ["_law_draws_here"] spNext) (f_l_made : Ca P w K mg base CX0 10 "_law_made" s_l_made [] ["_law_four_here", "_law_way"] (spMade C Cc)) (g_isinstance : mg "isinstance" = none) (g_list : mg "list" = none) (T : ShX K C) (h_Share : mg "Share" = some (.ref C)) (f_l_plain : Ca P w K mg base CX0 3 "_law_plain" s_l_plain [] ["_law_draws_here", "_law_four_here"] spPlain) (f_l_due : Ca P w K mg base CX0 4 "_law_due" s_l_due [] ["_law_four_here", "_law_count"] spDue) (f_near_rounds : Ca P w K mg base CX0 7 "near_rounds" s_near_rounds [] ["calendar", "most"] (spNrs C Cc)) (f_l_read : Ca P w K mg base CX0 1 "_law_read" s_l_read [] ["_law_told"] (spRd C)) : Ca P w K mg base CX0 12 "_law_right" s_l_right [] ["_law_draws_here"] spRight31 := by
  refine ca0 (k := 11) D c_l_right (fun vs H Q E h => ?_) fun f cdv A outer s H vs Q E hr h => ?_
  · obtain ⟨l, rfl, _⟩ := h
    rfl
  · obtain ⟨l, rfl, d, q⟩ := h
    refine ⟨_, (pss_cons (ps_set (i := 1) c_l_right.nd rfl (.inl rfl) (pe_ca f_l_four b_l_four hr (by decide) pass0 rfl (pa_cons (pv 0) pa_nil)))
      (C8.pss_cut (ps_if (pt_cmpR op_eq (pe_op op_mod (pe_ca f_l_next b_l_next hr (by decide) pass0 rfl (pa_cons (pv 0) pa_nil)) pe_int) pe_int (nomark _)) (pss_one (ps_set (i := 1) c_l_right.nd rfl (.inl rfl) (pe_ca f_l_plain b_l_plain hr (by decide) pass0 rfl (pa_cons (pv 0) (pa_cons (pv 1) pa_nil))))) pss_nil)
      (pss_cons (ps_set (i := 2) c_l_right.nd rfl (.inl rfl) (pe_op op_add pe_int (pe_op op_mod (pe_ca f_l_next b_l_next hr (by decide) pass0 rfl (pa_cons (pv 0) pa_nil)) (pe_ix ix_list (pe_lst (pa_cons pe_int (pa_cons pe_int (pa_cons pe_int (pa_cons pe_int pa_nil))))) (pe_op op_mod (pe_ca f_l_next b_l_next hr (by decide) pass0 rfl (pa_cons (pv 0) pa_nil)) pe_int) (fun _ _ => rfl)))))
      (pss_cons (ps_set (i := 3) c_l_right.nd rfl (.inl rfl) (pe_ca f_l_made b_l_made hr (by decide) pass0 rfl (pa_cons (pv 1) (pa_cons (pe_ca f_l_next b_l_next hr (by decide) pass0 rfl (pa_cons (pv 0) pa_nil)) pa_nil))))
      (pss_cons (ps_set (i := 4) c_l_right.nd rfl (.inl rfl) (pe_ca f_l_due b_l_due hr (by decide) pass0 rfl (pa_cons (pv 1) (pa_cons (pv 2) pa_nil))))
      (pss_cons (ps_set (i := 5) c_l_right.nd rfl (.inl rfl) (pe_ca f_near_rounds b_near_rounds hr (by decide) pass0 rfl (pa_cons (pv 3) (pa_cons (pv 2) pa_nil))))
      (pss_cons (ps_if (PW.pt (pw_or (pt_not (pt_val (pe_callB call_isi rfl g_isinstance (by decide +kernel) (pa_cons (pv 5) (pa_cons (pe_bltn (v := .ty "list") rfl g_list (by decide +kernel) rfl) pa_nil))))) (pw_or1 (pt_cmpR (op_neD hr.units) (pe_ca f_l_read b_l_read hr (by decide) pass0 rfl (pa_cons (pv 5) pa_nil)) (pv 4) (nomark _))))) (pss_one (ps_ret pe_bl)) pss_nil)
      (pss_cons (ps_if (pt_not (pt_val (pe_callB call_isi rfl g_isinstance (by decide +kernel) (pa_cons (pe_ix ix_tup (pe_ix ix_list (pv 5) pe_int (fun _ _ => rfl)) pe_int (fun _ _ => rfl)) (pa_cons (pe_glob (v := .ref C) rfl h_Share rfl) pa_nil))))) (pss_one (ps_ret pe_bl)) pss_nil)
      (pss_cons (ps_expr (pe_bm0 PySem.F.plainAttrs_list PySem.F.slot_list_clear PySem.F.type_list_clear mt_clear (pv 5)))
      (pss_one (ps_ret (pe_cmpR (op_eqD hr.units) (pe_ca f_l_read b_l_read hr (by decide) pass0 rfl (pa_cons (pe_caK f_near_rounds kb_near_rounds_most_calendar hr (by decide) pass0 rfl (pk_cons (pv 2) (pk_cons (pv 3) pk_nil))) pa_nil)) (pv 4) (nomark _))))))))))))), ?_⟩
    refine ⟨_, rfl, l, 0, rfl, d, by decide, fun r H1 m y o k g b1 d1 fo => ?_⟩
    refine ⟨fun σ' H' => ∃ (r : Addr) (m y o k : Rat) (n' : Nat), σ' = [some (.ref l), some (.ref r), none, none, none, none] ∧ But l H H' ∧ Dr H' l n' ∧ n' ≤ 20 ∧ Fo H' r m y o k ∧ Good m y o k, ?_, ?_⟩
    · refine ⟨_, rfl, l, _, rfl, d1, by decide, fun v H2 v0 v1 b2 d2 => ⟨_, _, rfl, rfl, md, rfl, _, rfl, ite2 (fun _ => ?_) (fun _ => ?_)⟩⟩
      · refine ⟨_, rfl, _, rfl, l, r, _, m, y, o, k, rfl, d2, by decide, fo.but b2 d1, g, fun r' H3 m' y' n' b3 d3 hn3 fo3 g3 => ?_⟩
        exact ⟨r', m', y', o, k, n', rfl, (b1.trans b2).trans b3, d3, by omega, fo3, g3⟩
      · exact ⟨r, m, y, o, k, _, rfl, b1.trans b2, d2, by decide, fo.but b2 d1, g⟩
    rintro σ' H2 ⟨r, m, y, o, k, n2, rfl, b2, d2, hn2, fo2, g⟩
    have hm := g.fit.pos
    refine ⟨_, rfl, l, _, rfl, d2, by omega, fun v H3 v0 v1 b3 d3 => ?_⟩
    refine ⟨(by show 4 ≤ sizeLine; decide), fun t nt => ?_⟩
    have st := Same.new (o := .lst [.int 60, .int 60, .int 60, .int 400]) nt
    have et : (L2.upd H3 t (.lst [.int 60, .int 60, .int 60, .int 400])) t = some (.lst [.int 60, .int 60, .int 60, .int 400]) := upd_same
    have ntl : t ≠ l := by
      obtain ⟨_, _, _, h, _⟩ := d3
      exact (ne_of_none h nt).symm
    have d3' := d3.same st (Nat.le_refl _)
    have b03 := (b2.trans b3).trans (But.same st)
    have fo3 := (fo2.but b3 d2).same st
    generalize L2.upd H3 t (.lst [.int 60, .int 60, .int 60, .int 400]) = H3' at *
    refine ⟨_, rfl, l, _, rfl, d3', by omega, fun u H4 u0 u1 b4 d4 => ?_⟩
    have w1 := Int.emod_nonneg u (show (4 : Int) ≠ 0 by decide)
    have w2 := Int.emod_lt_of_pos u (show (0 : Int) < 4 by decide)
    obtain ⟨xv, hx, i', rfl, i0, i1⟩ := pick (P := fun x => ∃ i : Int, x = V.int i ∧ 0 < i ∧ i ≤ 400) (xs := [.int 60, .int 60, .int 60, .int 400]) w1 w2 (by
      intro x hx
      rcases List.mem_cons.mp hx with rfl | hx
      · exact ⟨_, rfl, by decide, by decide⟩
      rcases List.mem_cons.mp hx with rfl | hx
      · exact ⟨_, rfl, by decide, by decide⟩
      rcases List.mem_cons.mp hx with rfl | hx
      · exact ⟨_, rfl, by decide, by decide⟩
      rcases List.mem_cons.mp hx with rfl | hx
      · exact ⟨_, rfl, by decide, by decide⟩
      · cases hx)
    refine ⟨_, _, rfl, rfl, md, t, _, _, _, rfl, rfl, SqL.of (b4 _ _ ntl et), hx, _, _, rfl, rfl, i0, _, _, rfl, rfl, ?_⟩
    have c0 := Int.emod_nonneg v (show i' ≠ 0 by omega)
    have c1 := Int.emod_lt_of_pos v i0
    obtain ⟨N, hN⟩ : ∃ N : Nat, 1 + v % i' = (N : Int) := ⟨(1 + v % i').toNat, by omega⟩
    dsimp only
    rw [hN]
    have hN1 : 1 ≤ N ∧ N ≤ 400 := by omega
    have fo4 := fo3.but b4 d3'
    refine ⟨_, rfl, _, rfl, l, _, rfl, d4, by omega, fun u5 H5 u50 u51 b5 d5 => ?_⟩
    refine ⟨r, u5, m, y, o, k, rfl, fo4.but b5 d4, g, fun p H6 np s6 cl => ?_⟩
    have fo6 := (fo4.but b5 d4).same s6
    have b06 := ((b03.trans b4).trans b5).trans (But.same s6)
    refine ⟨_, rfl, _, rfl, r, N, m, y, o, k, rfl, hN1.2, fo6, g, fun D us H7 nD s7 eD hR => ?_⟩
    rw [dueN_eq g hN1.1] at hR
    have cl7 := cl.same s7
    have zN : Sz 100 (N : Int) := znat42 N (by omega) (by decide)
    refine ⟨_, rfl, _, rfl, p, (N : Int), m, y, o, k, rfl, cl7, g, by omega, zN, fun D2 us2 H8 nD2 s8 eD2 hR2 => ?_⟩
    refine ⟨_, rfl, _, _, _, _, _, rfl, .ty "list", .base (.lst eD2), kit_ty (r := true) (by decide +kernel), _, rfl, no' rfl ?_⟩
    refine ⟨_, rfl, D2, us2, _, m, y, rfl, eD2, hR2, rowsL_len, fun D3 us3 H9 nD3 s9 eD3 hR3 => ?_⟩
    have eD9 := s9 _ _ (s8 _ _ eD)
    have hR9 := hR.same fun _ _ h => h.same (s8.trans s9)
    refine ⟨_, rfl, .list ((rowsN m y N).map (rowD m y)), .list ((rowsN m y N).map (rowD m y)), .lst (SqL.of eD3) hR3.dps, .lst (SqL.of eD9) hR9.dps, sh_rows m y _, sh_rows m y _, _, rfl, no' (by rw [eqv_rows]; rfl) ?_⟩
    have eD29 := s9 _ _ eD2
    obtain ⟨q0, R0, eL, _⟩ := (g.rows (show (1 : Int) ≤ (N : Int) by omega)).hd
    have h0 : (rowsN m y N)[0]? = some q0 := by rw [eL]; rfl
    obtain ⟨u0', hu0, qa, sa, rfl, eqa, dsa, esa⟩ := (hR2.same fun _ _ h => h.same s9).at h0
    refine ⟨_, rfl, D2, us2, _, _, rfl, rfl, SqL.of eD29, atI_j (j := 0) rfl hu0, qa, _, _, _, rfl, rfl, SqT.of eqa, rfl, _, _, _, _, _, rfl, .own C, T.ty _ _ _ _ esa, kit_self, _, rfl, no' rfl ?_⟩
    refine ⟨_, rfl, .inl ⟨rfl, _, SqL.of eD29⟩, D2, us2, rfl, rfl, eD29, ?_⟩
    have nD29 : D ≠ D2 := ne_of_none eD nD2
    have cl9 := cl7.same (s8.trans s9)
    have hR10 : RowsR (RowT m y) (L2.upd H9 D2 (.lst [])) us (rowsN m y N) := hR9.same fun u z ⟨q', t', e1, e2, e3⟩ => ⟨q', t', e1, by rw [upd_ne (ne_of e2 eD29 (by intro z; cases z))]; exact e2, by show L2.upd _ _ _ _ = _; rw [upd_ne (ne_of e3 eD29 (by intro z; cases z))]; exact e3⟩
    have b10 : But l H (L2.upd H9 D2 (.lst [])) := by
      have b09 := b06.trans (But.same (s7.trans (s8.trans s9)))
      intro x u hx e
      by_cases hxD : x = D2
      · have e7 := (b06.trans (But.same s7)) x u hx e
        rw [hxD, nD2] at e7
        cases e7
      · rw [upd_ne hxD]
        exact b09 x u hx e
    have eD10 : (L2.upd H9 D2 (.lst [])) D = some (.lst us) := by rw [upd_ne nD29]; exact eD9
    have cl10 := cl9.putL (u := .lst []) eD29
    generalize L2.upd H9 D2 (.lst []) = H10 at *
    refine ⟨_, rfl, _, rfl, rfl, p, (N : Int), m, y, o, k, rfl, cl10, g, by omega, zN, fun D4 us4 H11 nD4 s11 eD4 hR4 => ?_⟩
    refine ⟨D4, us4, _, m, y, rfl, eD4, hR4, rowsL_len, fun D5 us5 H12 nD5 s12 eD5 hR5 => ?_⟩
    have s1012 := s11.trans s12
    refine ⟨_, rfl, .list ((rowsN m y N).map (rowD m y)), .list ((rowsN m y N).map (rowD m y)), .lst (SqL.of eD5) hR5.dps, .lst (SqL.of (s1012 _ _ eD10)) (hR10.same fun _ _ h => h.same s1012).dps, sh_rows m y _, sh_rows m y _, ?_⟩
    rw [eqv_rows]
    exact q H12 (b10.trans (But.same s1012))
theorem ok_law (D : Df K mg "law" s_law []) (f_l_draws : Ca P w K mg base CX0 1 "_law_draws" s_l_draws [] ["_law_cell"] spDraws) (f_l_right : Ca P w K mg base CX0 12 "_law_right" s_l_right [] ["_law_draws_here"] spRight31) : Ca P w K mg base CX0 13 "law" s_law [] ["_law_script"] (spLaw K) := by
  refine ca0 (k := 12) D c_law (fun vs H Q E h => ?_) fun f cdv A outer s H vs Q E hr h => ?_
  · obtain ⟨a, ns, rfl, _⟩ := h
    rfl
  · obtain ⟨a, ns, rfl, hS, hlen, q⟩ := h
    refine ⟨_, (pss_cons (ps_for PassesOwn.never rfl (pi_list (pe_op op_cat (pe_slice sl_list (pv 0) po_none (po_some pe_int)) (pe_lst (pa_cons pe_int pa_nil)))) (pg_name (i := 1) c_law.nd rfl (.inl rfl)) (pss_one (ps_if (pt_not (pt_val (pe_ca f_l_right b_l_right hr (by decide) pass0 rfl (pa_cons (pe_ca f_l_draws b_l_draws hr (by decide) pass0 rfl (pa_cons (pv 1) pa_nil)) pa_nil)))) (pss_one (ps_ret pe_bl)) pss_nil)))
      (pss_one (ps_ret pe_bl))), ?_⟩
    refine ⟨_, rfl, _, rfl, a, _, rfl, hS, fun p1 n1 => ?_⟩
    refine ⟨(by show 1 ≤ sizeLine; decide), fun p2 n2 => ?_⟩
    have ne12 : p1 ≠ p2 := ne_of_none upd_same n2
    refine ⟨p1, p2, _, _, rfl, rfl, (by rw [upd_ne ne12]; exact upd_same), upd_same, cut_len hlen, fun l3 n3 => ?_⟩
    generalize hH0 : L2.upd _ l3 (.lst (cutV (ns.map V.int) none (some 6) ++ [V.int 0])) = H0
    have hl3 : H0 l3 = some (.lst (cutV (ns.map V.int) none (some 6) ++ [V.int 0])) := by rw [← hH0]; exact upd_same
    refine ⟨l3, rfl, ⟨_, SqL.of hl3⟩, for_list (K := K) (a := l3) (xs := cutV (ns.map V.int) none (some 6) ++ [V.int 0]) (fun i σ H' => ∃ v1 : Option V, σ = [some (.ref a), v1] ∧ H' l3 = some (.lst (cutV (ns.map V.int) none (some 6) ++ [V.int 0])))
      ⟨_, rfl, hl3⟩ (fun i σ H' _ ⟨_, _, e⟩ => SqL.of e) ?_ (fun σ H' ⟨_, e, _⟩ => by subst e; exact q H')⟩
    rintro i x σ H1 hi ⟨v1, rfl, e3⟩
    obtain ⟨c, rfl⟩ := cut_ints hi
    refine ⟨_, rfl, c, rfl, fun l H2 nl s2 d2 => ?_⟩
    have nel : l3 ≠ l := ne_of_none e3 nl
    exact ⟨l, rfl, d2, fun H3 b3 => ⟨_, rfl, no' rfl ⟨_, rfl, b3 _ _ nel (s2 _ _ e3)⟩⟩⟩
end
/-! ### what the top has written -/
theorem fin {P : Program} {w : World} {K : PySem.W.Frag} {mg : Str → Option Value} {fa C Cc : Addr} (hfa : mg "law" = some (.ref fa))
    (cl : Cls K C) (nT : PySem.W.findIn K (.ref C) "top" = some none) (nB : PySem.W.findIn K (.ref C) "bottom" = some none) (ha : PySem.W.findIn K (.ref C) "__class__" = some (some (.builtin "object.__class__")))
    (hn : PySem.W.specialIn K (.builtin "object.__class__") "__get__" = some (some (.builtin "getset_descriptor.__get__"))) (htk : PySem.W.takesIn K (.builtin "object.__class__") = some true) (hm : PySem.W.mroIn K C (.type "object") = some true)
    (iC : PySem.W.isClsIn K C = true) (tC : PySem.W.typeIn K (.ref C) = some (.type "type")) (sI : PySem.W.subIn K (.type "int") (.ref C) = some false) (hC : mg "Share" = some (.ref C))
    (dShare : Di K mg "Share" C "Share.__init__" s_Share_init [.int 1])
    (clc : Cls K Cc) (n1 : PySem.W.findIn K (.ref Cc) "month" = some none) (n2 : PySem.W.findIn K (.ref Cc) "year" = some none) (n3 : PySem.W.findIn K (.ref Cc) "moon" = some none) (n4 : PySem.W.findIn K (.ref Cc) "mark" = some none) (ne : Cc ≠ C) {uM : Value} (aM : mg "MARKS" = some uM) (rM : RelV (.int 12) uM)
    (dCal : Di K mg "Calendar" Cc "Calendar.__init__" s_Calendar_init [.non, .non])
    (g_abs : mg "abs" = none) (g_range : mg "range" = none) (g_isinstance : mg "isinstance" = none) (g_list : mg "list" = none)
    (d_common_divisor : Df K mg "common_divisor" s_common_divisor []) (d_as_share : Df K mg "as_share" s_as_share []) (d_plus : Df K mg "plus" s_plus []) (d_minus : Df K mg "minus" s_minus []) (d_times : Df K mg "times" s_times []) (d_over : Df K mg "over" s_over []) (d_before : Df K mg "before" s_before []) (d_whole : Df K mg "whole" s_whole []) (d_rounded_up : Df K mg "rounded_up" s_rounded_up []) (d_refuse_unfit : Df K mg "refuse_unfit" s_refuse_unfit []) (d_moment_or_nought : Df K mg "moment_or_nought" s_moment_or_nought []) (d_twelfth : Df K mg "twelfth" s_twelfth []) (d_nearest_months : Df K mg "nearest_months" s_nearest_months []) (d_lack : Df K mg "lack" s_lack []) (d_near_rounds : Df K mg "near_rounds" s_near_rounds []) (d_l_draws : Df K mg "_law_draws" s_l_draws []) (d_l_next : Df K mg "_law_next" s_l_next []) (d_l_low : Df K mg "_law_low" s_l_low []) (d_l_plus : Df K mg "_law_plus" s_l_plus []) (d_l_by : Df K mg "_law_by" s_l_by []) (d_l_part : Df K mg "_law_part" s_l_part []) (d_l_moment : Df K mg "_law_moment" s_l_moment []) (d_l_four : Df K mg "_law_four" s_l_four []) (d_l_made : Df K mg "_law_made" s_l_made []) (d_l_plain : Df K mg "_law_plain" s_l_plain []) (d_l_lack : Df K mg "_law_lack" s_l_lack []) (d_l_less : Df K mg "_law_less" s_l_less []) (d_l_due : Df K mg "_law_due" s_l_due []) (d_l_read : Df K mg "_law_read" s_l_read []) (d_l_right : Df K mg "_law_right" s_l_right []) (d_law : Df K mg "law" s_law []) :
    ∃ fd : FuncData, (∀ (s : Shared) (u : Value), BindsTo s fd ⟨[u], []⟩ [("_law_script", u)]) ∧ ∀ base : Heap, K.In base → base.Ns mainGlobals mg → FnOk P w K mg base CX0 13 fa fd ["_law_script"] (spLaw K) := by
  refine fin_of hfa d_law b_law fun base => ?_
  have T : ShX K C := ⟨⟨cl, nT, nB⟩, fun H a dx fs e => .base (.ins e cl ha hn htk hm), kit_no iC tC rfl sI⟩
  have marks : ∃ t, mg "MARKS" = some (.int 12 t) := by
    obtain ⟨t, e⟩ := rM
    exact ⟨t, by rw [aM, e]⟩
  have Tc : CaT K C Cc := ⟨clc, n1, n2, n3, n4, ne⟩
  have f1 := ok_gcd (P := P) (w := w) (base := base) d_common_divisor g_abs
  have f2 := ok_shI dShare T.toShT f1
  have f3 := ok_as d_as_share T g_isinstance hC f2
  have F : ShF P w K mg base C := { T := T, mkS := f2, asS := f3, plus := ok_plus d_plus T f3 f2, minus := ok_minus d_minus T f3 f2, times := ok_times d_times T f3 f2, over := ok_over d_over T f3 f2, before := ok_before d_before T f3, whole := ok_whole d_whole T f3, up := ok_rounded d_rounded_up T f3, marks := marks }
  have tw := ok_tw d_twelfth F
  have cal := ok_caI dCal Tc F (ok_unfit d_refuse_unfit F tw) (ok_moment d_moment_or_nought F)
  obtain ⟨tkM, hMk⟩ := id marks
  have lo := ok_low (P := P) (w := w) (base := base) d_l_low g_abs
  have nx := ok_next (P := P) (w := w) (base := base) d_l_next
  have dr := ok_draws (P := P) (w := w) (base := base) d_l_draws g_range
  have pl := ok_lplus d_l_plus lo
  have by' := ok_lby d_l_by lo
  have pt := ok_lpart d_l_part nx lo
  have mo := ok_lmom d_l_moment nx pt pl
  have fo := ok_lfour d_l_four nx pt pl by' mo
  have ma := ok_lmade2 d_l_made f2 cal
  have nm := ok_nm (P := P) (w := w) (base := base) d_nearest_months T
  have lk := ok_lack d_lack Tc F.times F.minus
  have nr := ok_nrs d_near_rounds Tc F.over lk nm
  have ll := ok_llack d_l_lack pl by'
  have rd := ok_lread (P := P) (w := w) (base := base) d_l_read T
  have le := ok_lless (P := P) (w := w) (base := base) d_l_less g_abs
  have du := ok_ldue d_l_due g_range ll le
  have pn := ok_lplain42 d_l_plain nx lo pl
  have rg := ok_lright42 d_l_right fo nx ma g_isinstance g_list T hC pn du nr rd
  exact ok_law d_law dr rg
theorem walk {l : PySem.W.OpenLaw} {q : Program} {loose : List Str} {XP : (Str → Option Value) → Heap → Prop} {YP : World → Heap → Prop} {d : DefRec} {K : Params → PySem.W.Frag} (hn : l.most = some 63) (hdf : d.params.defaults = [])
    (hY : ∀ (w : World) (h : Heap), YP w h → (K w.params).In h)
    (F : ∀ (w : World) (mg : Str → Option Value) (fa : Addr) (h : Heap), (K w.params).In h → h.Ns mainGlobals mg → mg d.name = some (.ref fa) →
      ∃ fd : FuncData, (∀ (s : Shared) (u : Value), BindsTo s fd ⟨[u], []⟩ [("_law_script", u)]) ∧ ∀ base : Heap, (K w.params).In base → base.Ns mainGlobals mg → FnOk l.prog w (K w.params) mg base CX0 13 fa fd ["_law_script"] (spLaw (K w.params))) :
    PySem.W.WalkO q loose XP YP l.row.toRowW d [] (fun f vs => PySem.call f vs) :=
  L2.walk_of (n := 63) (k := 13) (x := "_law_script") (CX := fun _ => CX0) (sp := fun w => spLaw (K w.params)) hn (by decide) hdf ⟨rfl, by decide, by decide⟩ hY F (fun _ _ a ns hl _ hS => ⟨a, ns, rfl, hS, hl, fun _ => rfl⟩) fun _ _ _ _ _ z => z
end MM
open PySem PySem.W PyProof.Rows in
set_option maxRecDepth 100000 in
set_option maxHeartbeats 0 in
theorem PySem.Challenge.cw_meanmoon_k42_near_rounds_holds : PySem.Challenge.rw_meanmoon_k42_near_rounds.Holds := by
  w_on; o_law; k_head; (case hw => w_witness2)
  k_fill
  refine MM.walk (l := PySem.Challenge.rw_meanmoon_k42_near_rounds) rfl rfl (fun w h Y => PySem.W.kIn_of Y) ?F
  case F =>
    intro w mg fa h KX G hmg
    refine' MM.fin hmg
      ⟨?pg, ?hd, ?po, ?sa⟩ ?nT ?nB ?ha ?hn ?htk ?hm ?iC ?tC ?sI (PySem.W.mg_of KX G ?aC)
      (MM.di_mk (its := [_]) (PySem.W.mg_of KX G ?aC) ?s1 ?s2 ?s3 ?s4 ?s5 ?s6 ?s7 ?s8 ?s9 ?s0 (by decide))
      ⟨?pgc, ?hdc, ?poc, ?sac⟩ ?n1 ?n2 ?n3 ?n4 ?ne (PySem.W.mg_of KX G ?aM) ?rM
      (MM.di_mk (its := [_, _]) (PySem.W.mg_of KX G ?aD) ?c1 ?c2 ?c3 ?c4 ?c5 ?c6 ?c7 ?c8 ?c9 (.cons rfl (.cons rfl .nil)) (by decide))
      (PySem.W.mg_none_of KX G ?z0)
      (PySem.W.mg_none_of KX G ?z1)
      (PySem.W.mg_none_of KX G ?z2)
      (PySem.W.mg_none_of KX G ?z3)
      (MM.df_mk KX G ?a_common_divisor ?l_common_divisor ?c_common_divisor ?k_common_divisor)
      (MM.df_mk KX G ?a_as_share ?l_as_share ?c_as_share ?k_as_share)
      (MM.df_mk KX G ?a_plus ?l_plus ?c_plus ?k_plus)
      (MM.df_mk KX G ?a_minus ?l_minus ?c_minus ?k_minus)
      (MM.df_mk KX G ?a_times ?l_times ?c_times ?k_times)
      (MM.df_mk KX G ?a_over ?l_over ?c_over ?k_over)
      (MM.df_mk KX G ?a_before ?l_before ?c_before ?k_before)
      (MM.df_mk KX G ?a_whole ?l_whole ?c_whole ?k_whole)
      (MM.df_mk KX G ?a_rounded_up ?l_rounded_up ?c_rounded_up ?k_rounded_up)
      (MM.df_mk KX G ?a_refuse_unfit ?l_refuse_unfit ?c_refuse_unfit ?k_refuse_unfit)
      (MM.df_mk KX G ?a_moment_or_nought ?l_moment_or_nought ?c_moment_or_nought ?k_moment_or_nought)
      (MM.df_mk KX G ?a_twelfth ?l_twelfth ?c_twelfth ?k_twelfth)
      (MM.df_mk KX G ?a_nearest_months ?l_nearest_months ?c_nearest_months ?k_nearest_months)
      (MM.df_mk KX G ?a_lack ?l_lack ?c_lack ?k_lack)
      (MM.df_mk KX G ?a_near_rounds ?l_near_rounds ?c_near_rounds ?k_near_rounds)
      (MM.df_mk KX G ?a_l_draws ?l_l_draws ?c_l_draws ?k_l_draws)
      (MM.df_mk KX G ?a_l_next ?l_l_next ?c_l_next ?k_l_next)
      (MM.df_mk KX G ?a_l_low ?l_l_low ?c_l_low ?k_l_low)
      (MM.df_mk KX G ?a_l_plus ?l_l_plus ?c_l_plus ?k_l_plus)
      (MM.df_mk KX G ?a_l_by ?l_l_by ?c_l_by ?k_l_by)
      (MM.df_mk KX G ?a_l_part ?l_l_part ?c_l_part ?k_l_part)
      (MM.df_mk KX G ?a_l_moment ?l_l_moment ?c_l_moment ?k_l_moment)
      (MM.df_mk KX G ?a_l_four ?l_l_four ?c_l_four ?k_l_four)
      (MM.df_mk KX G ?a_l_made ?l_l_made ?c_l_made ?k_l_made)
      (MM.df_mk KX G ?a_l_plain ?l_l_plain ?c_l_plain ?k_l_plain)
      (MM.df_mk KX G ?a_l_lack ?l_l_lack ?c_l_lack ?k_l_lack)
      (MM.df_mk KX G ?a_l_less ?l_l_less ?c_l_less ?k_l_less)
      (MM.df_mk KX G ?a_l_due ?l_l_due ?c_l_due ?k_l_due)
      (MM.df_mk KX G ?a_l_read ?l_l_read ?c_l_read ?k_l_read)
      (MM.df_mk KX G ?a_l_right ?l_l_right ?c_l_right ?k_l_right)
      (MM.df_mk KX G ?a_law ?l_law ?c_law ?k_law)
    (case aC => k_is)
    (case pg => k_is)
    (case hd => k_is)
    (case po => k_is)
    (case sa => k_is)
    (case nT => k_is)
    (case nB => k_is)
    (case ha => k_is)
    (case hn => k_is)
    (case htk => k_is)
    (case hm => k_is)
    (case iC => k_is)
    (case tC => k_is)
    (case sI => k_is)
    (case s1 => k_is)
    (case s2 => k_is)
    (case s3 => k_is)
    (case s4 => k_is)
    (case s5 => k_is)
    (case s6 => k_is)
    (case s7 => k_is)
    (case s8 => k_is)
    (case aD => k_is)
    (case pgc => k_is)
    (case hdc => k_is)
    (case poc => k_is)
    (case sac => k_is)
    (case n1 => k_is)
    (case n2 => k_is)
    (case n3 => k_is)
    (case n4 => k_is)
    (case aM => k_is)
    (case c1 => k_is)
    (case c2 => k_is)
    (case c3 => k_is)
    (case c4 => k_is)
    (case c5 => k_is)
    (case c6 => k_is)
    (case c7 => k_is)
    (case c8 => k_is)
    (case z0 => k_is)
    (case z1 => k_is)
    (case z2 => k_is)
    (case z3 => k_is)
    (case a_common_divisor => k_is)
    (case l_common_divisor => k_is)
    (case c_common_divisor => k_is)
    (case k_common_divisor => k_is)
    (case a_as_share => k_is)
    (case l_as_share => k_is)
    (case c_as_share => k_is)
    (case k_as_share => k_is)
    (case a_plus => k_is)
    (case l_plus => k_is)
    (case c_plus => k_is)
    (case k_plus => k_is)
    (case a_minus => k_is)
    (case l_minus => k_is)
    (case c_minus => k_is)
    (case k_minus => k_is)
    (case a_times => k_is)
    (case l_times => k_is)
    (case c_times => k_is)
    (case k_times => k_is)
    (case a_over => k_is)
    (case l_over => k_is)
    (case c_over => k_is)
    (case k_over => k_is)
    (case a_before => k_is)
    (case l_before => k_is)
    (case c_before => k_is)
    (case k_before => k_is)
    (case a_whole => k_is)
    (case l_whole => k_is)
    (case c_whole => k_is)
    (case k_whole => k_is)
    (case a_rounded_up => k_is)
    (case l_rounded_up => k_is)
    (case c_rounded_up => k_is)
    (case k_rounded_up => k_is)
    (case a_refuse_unfit => k_is)
    (case l_refuse_unfit => k_is)
    (case c_refuse_unfit => k_is)
    (case k_refuse_unfit => k_is)
    (case a_moment_or_nought => k_is)
    (case l_moment_or_nought => k_is)
    (case c_moment_or_nought => k_is)
    (case k_moment_or_nought => k_is)
    (case a_twelfth => k_is)
    (case l_twelfth => k_is)
    (case c_twelfth => k_is)
    (case k_twelfth => k_is)
    (case a_nearest_months => k_is)
    (case l_nearest_months => k_is)
    (case c_nearest_months => k_is)
    (case k_nearest_months => k_is)
    (case a_lack => k_is)
    (case l_lack => k_is)
    (case c_lack => k_is)
    (case k_lack => k_is)
    (case a_near_rounds => k_is)
    (case l_near_rounds => k_is)
    (case c_near_rounds => k_is)
    (case k_near_rounds => k_is)
    (case a_l_draws => k_is)
    (case l_l_draws => k_is)
    (case c_l_draws => k_is)
    (case k_l_draws => k_is)
    (case a_l_next => k_is)
    (case l_l_next => k_is)
    (case c_l_next => k_is)
    (case k_l_next => k_is)
    (case a_l_low => k_is)
    (case l_l_low => k_is)
    (case c_l_low => k_is)
    (case k_l_low => k_is)
    (case a_l_plus => k_is)
    (case l_l_plus => k_is)
    (case c_l_plus => k_is)
    (case k_l_plus => k_is)
    (case a_l_by => k_is)
    (case l_l_by => k_is)
    (case c_l_by => k_is)
    (case k_l_by => k_is)
    (case a_l_part => k_is)
    (case l_l_part => k_is)
    (case c_l_part => k_is)
    (case k_l_part => k_is)
    (case a_l_moment => k_is)
    (case l_l_moment => k_is)
    (case c_l_moment => k_is)
    (case k_l_moment => k_is)
    (case a_l_four => k_is)
    (case l_l_four => k_is)
    (case c_l_four => k_is)
    (case k_l_four => k_is)
    (case a_l_made => k_is)
    (case l_l_made => k_is)
    (case c_l_made => k_is)
    (case k_l_made => k_is)
    (case a_l_plain => k_is)
    (case l_l_plain => k_is)
    (case c_l_plain => k_is)
    (case k_l_plain => k_is)
    (case a_l_lack => k_is)
    (case l_l_lack => k_is)
    (case c_l_lack => k_is)
    (case k_l_lack => k_is)
    (case a_l_less => k_is)
    (case l_l_less => k_is)
    (case c_l_less => k_is)
    (case k_l_less => k_is)
    (case a_l_due => k_is)
    (case l_l_due => k_is)
    (case c_l_due => k_is)
    (case k_l_due => k_is)
    (case a_l_read => k_is)
    (case l_l_read => k_is)
    (case c_l_read => k_is)
    (case k_l_read => k_is)
    (case a_l_right => k_is)
    (case l_l_right => k_is)
    (case c_l_right => k_is)
    (case k_l_right => k_is)
    (case a_law => k_is)
    (case l_law => k_is)
    (case c_law => k_is)
    (case k_law => k_is)
    (case s9 => rfl)
    (case s0 => exact .cons ⟨_, rfl⟩ .nil)
    (case ne => decide)
    (case rM => exact ⟨_, rfl⟩)
    (case c9 => rfl)
#print axioms PySem.Challenge.cw_meanmoon_k42_near_rounds_holds
