import PyProof.Rows.All
import Wide.All
import OpenK.AllK
import Wide.FinOn
import PyProof.NoPylong
import HandS.ForMost
import HandS.Wide
import HandS.Defaults
import HandS.MakeKw
import HandS.MakeKwOnly
import HandS.Exc
import HandS.WordsExc
import HandS.IsInst
import HandS.FStr
import HandS.Style
import HandS.Codes
import HandS.NoneIn
import PyProof.LongRange
import HandS.Walk
import HandS.Zip
import PyProof.P3Eq
import PyProof.EqLayable
import HandS.StrMore
import HandS.Text
import HandS.MapJoin
import HandS.Rev
import HandS.RevTup
import PySem.Challenge.RW_meanmoon_k71_figures
set_option Elab.async false
set_option linter.all false
set_option maxRecDepth 100000
set_option maxHeartbeats 4000000
namespace MM
/-! fractions as Rat: the program's and the law's lowest terms are num and den -/
theorem gcd_fmod (a b : Int) : Int.gcd b (a.fmod b) = Int.gcd a b := by
  have h : a.fmod b = a - b * a.fdiv b := by have := Int.mul_fdiv_add_fmod a b; omega
  rw [h, Int.gcd_comm a b]
  rw [Int.sub_eq_add_neg, ← Int.mul_neg, Int.gcd_add_mul_left_right]
theorem gcd_emod' (a b : Int) : Int.gcd b (a % b) = Int.gcd a b := by
  have h : a % b = a - b * (a / b) := by have := Int.mul_ediv_add_emod a b; omega
  rw [h, Int.gcd_comm a b]
  rw [Int.sub_eq_add_neg, ← Int.mul_neg, Int.gcd_add_mul_left_right]
theorem fmod_lt (a : Int) {b : Int} (h : b ≠ 0) : (a.fmod b).natAbs < b.natAbs := by
  rcases Int.lt_or_gt_of_ne h with hb | hb
  · have e : a.fmod b = -((-a).fmod (-b)) := by rw [Int.neg_fmod_neg, Int.neg_neg]
    have h1 := Int.fmod_nonneg_of_pos (-a) (show (0 : Int) < -b by omega)
    have h2 := Int.fmod_lt_of_pos (-a) (show (0 : Int) < -b by omega)
    rw [e]
    omega
  · have h1 := Int.fmod_nonneg_of_pos a hb
    have h2 := Int.fmod_lt_of_pos a hb
    omega
theorem gcd_pos {t b : Int} (h : b ≠ 0) : 0 < Int.gcd t b := Int.gcd_pos_of_ne_zero_right t h
/-- the divisor that makes lowest terms -/
def gs (t b : Int) : Int := if b < 0 then -(Int.gcd t b : Int) else (Int.gcd t b : Int)
theorem gs_ne {t b : Int} (h : b ≠ 0) : gs t b ≠ 0 := by
  have := gcd_pos (t := t) h
  unfold gs
  split <;> omega
theorem low_num {t b : Int} (h : b ≠ 0) : t.fdiv (gs t b) = (Rat.divInt t b).num := by
  have hg := gcd_pos (t := t) h
  rw [Rat.num_divInt, Int.gcd_comm b t]
  unfold gs
  split
  · rename_i hb
    rw [Int.sign_eq_neg_one_of_neg hb, Int.neg_one_mul]
    rw [← Int.neg_fdiv_neg, Int.neg_neg, Int.fdiv_eq_ediv_of_nonneg _ (by omega)]
  · rw [Int.sign_eq_one_of_pos (by omega), Int.one_mul, Int.fdiv_eq_ediv_of_nonneg _ (by omega)]
theorem low_den {t b : Int} (h : b ≠ 0) : b.fdiv (gs t b) = ((Rat.divInt t b).den : Int) := by
  have hg := gcd_pos (t := t) h
  rw [Rat.den_divInt, if_neg h, Int.gcd_comm b t, Int.natCast_ediv]
  unfold gs
  split
  · rename_i hb
    rw [← Int.neg_fdiv_neg, Int.neg_neg, Int.fdiv_eq_ediv_of_nonneg _ (by omega)]
    congr 1
    omega
  · rw [Int.fdiv_eq_ediv_of_nonneg _ (by omega)]
    congr 1
    omega
theorem den_pos (q : Rat) : (0 : Int) < (q.den : Int) := by
  have := q.den_pos
  omega
/-- sizes -/
def Sz (n : Nat) (i : Int) : Prop := i.natAbs < 2 ^ n
def Rz (n : Nat) (q : Rat) : Prop := Sz n q.num ∧ Sz n q.den
theorem Sz.mono {n m : Nat} {i : Int} (h : Sz n i) (l : n ≤ m) : Sz m i := Nat.lt_of_lt_of_le h (Nat.pow_le_pow_right (by decide) l)
theorem Rz.mono {n m : Nat} {q : Rat} (h : Rz n q) (l : n ≤ m) : Rz m q := ⟨h.1.mono l, h.2.mono l⟩
theorem Sz.mul {n m : Nat} {i j : Int} (h : Sz n i) (k : Sz m j) : Sz (n + m) (i * j) := by
  unfold Sz
  rw [Int.natAbs_mul, Nat.pow_add]
  exact Nat.mul_lt_mul'' h k
theorem Sz.add {n m : Nat} {i j : Int} (h : Sz n i) (k : Sz n j) (l : n < m) : Sz m (i + j) := by
  have h' : i.natAbs < 2 ^ n := h
  have k' : j.natAbs < 2 ^ n := k
  have e : 2 ^ (n + 1) ≤ 2 ^ m := Nat.pow_le_pow_right (by decide) l
  rw [Nat.pow_succ] at e
  have z := Int.natAbs_add_le i j
  unfold Sz
  omega
theorem Sz.neg {n : Nat} {i : Int} (h : Sz n i) : Sz n (-i) := by
  unfold Sz
  rw [Int.natAbs_neg]
  exact h
theorem Sz.sub {n m : Nat} {i j : Int} (h : Sz n i) (k : Sz n j) (l : n < m) : Sz m (i - j) := by
  rw [Int.sub_eq_add_neg]
  exact h.add k.neg l
theorem natAbs_ediv_le (a : Int) {b : Nat} : (a / (b : Int)).natAbs ≤ a.natAbs := Int.natAbs_ediv_le_natAbs _ _
theorem Rz.divInt {n : Nat} {t b : Int} (h : Sz n t) (k : Sz n b) (h0 : 0 < n) : Rz n (Rat.divInt t b) := by
  refine ⟨?_, ?_⟩
  · unfold Sz
    rw [Rat.num_divInt]
    refine Nat.lt_of_le_of_lt (Int.natAbs_ediv_le_natAbs _ _) ?_
    rw [Int.natAbs_mul]
    refine Nat.lt_of_le_of_lt ?_ h
    have : b.sign.natAbs ≤ 1 := by
      rcases Int.lt_trichotomy b 0 with z | z | z
      · rw [Int.sign_eq_neg_one_of_neg z]; decide
      · rw [z]; decide
      · rw [Int.sign_eq_one_of_pos z]; decide
    calc b.sign.natAbs * t.natAbs ≤ 1 * t.natAbs := Nat.mul_le_mul_right _ this
      _ = t.natAbs := Nat.one_mul _
  · unfold Sz
    rw [Rat.den_divInt]
    split
    · show 1 < 2 ^ n
      exact Nat.one_lt_two_pow (by omega)
    · rw [Int.natAbs_natCast]
      exact Nat.lt_of_le_of_lt (Nat.div_le_self _ _) k
theorem add_eq (p q : Rat) : p + q = Rat.divInt (p.num * q.den + q.num * p.den) ((p.den : Int) * q.den) := by
  have := Rat.divInt_add_divInt p.num q.num (d₁ := p.den) (d₂ := q.den) (by have := den_pos p; omega) (by have := den_pos q; omega)
  rw [Rat.num_divInt_den, Rat.num_divInt_den] at this
  exact this
theorem sub_eq (p q : Rat) : p - q = Rat.divInt (p.num * q.den - q.num * p.den) ((p.den : Int) * q.den) := by
  rw [Rat.sub_eq_add_neg, add_eq]
  rw [Rat.neg_num, Rat.neg_den, Int.neg_mul, ← Int.sub_eq_add_neg]
theorem mul_eq (p q : Rat) : p * q = Rat.divInt (p.num * q.num) ((p.den : Int) * q.den) := by
  have := Rat.divInt_mul_divInt p.num q.num (d₁ := p.den) (d₂ := q.den)
  rw [Rat.num_divInt_den, Rat.num_divInt_den] at this
  exact this
theorem div_eq (p q : Rat) (h : q ≠ 0) : p / q = Rat.divInt (p.num * q.den) ((p.den : Int) * q.num) := by
  rw [Rat.div_def, mul_eq]
  have hq : q.num ≠ 0 := fun z => h (Rat.num_eq_zero.mp z)
  have e : q⁻¹ = Rat.divInt q.den q.num := by
    have := Rat.inv_divInt q.num q.den
    rw [Rat.num_divInt_den] at this
    exact this
  rw [← mul_eq, e]
  have := Rat.divInt_mul_divInt p.num q.den (d₁ := p.den) (d₂ := q.num)
  rw [Rat.num_divInt_den] at this
  exact this
theorem lt_iff' (p q : Rat) : p < q ↔ p.num * q.den < q.num * p.den := Rat.lt_iff p q
theorem Rz.add {n l m : Nat} {p q : Rat} (h : Rz n p) (k : Rz l q) (hl : n + l < m) : Rz m (p + q) := by
  rw [add_eq]
  exact Rz.divInt (Sz.add (n := n + l) ((h.1.mul k.2).mono (by omega)) ((k.1.mul h.2).mono (by omega)) hl) ((h.2.mul k.2).mono (by omega)) (by omega)
theorem Rz.sub {n l m : Nat} {p q : Rat} (h : Rz n p) (k : Rz l q) (hl : n + l < m) : Rz m (p - q) := by
  rw [sub_eq]
  exact Rz.divInt (Sz.sub (n := n + l) ((h.1.mul k.2).mono (by omega)) ((k.1.mul h.2).mono (by omega)) hl) ((h.2.mul k.2).mono (by omega)) (by omega)
theorem Rz.mul {n l m : Nat} {p q : Rat} (h : Rz n p) (k : Rz l q) (hl : n + l < m) : Rz m (p * q) := by
  rw [mul_eq]
  exact Rz.divInt ((h.1.mul k.1).mono (by omega)) ((h.2.mul k.2).mono (by omega)) (by omega)
theorem Rz.div {n l m : Nat} {p q : Rat} (h : Rz n p) (k : Rz l q) (z : q ≠ 0) (hl : n + l < m) : Rz m (p / q) := by
  rw [div_eq p q z]
  exact Rz.divInt ((h.1.mul k.2).mono (by omega)) ((h.2.mul k.1).mono (by omega)) (by omega)
theorem Rz.int {n : Nat} {i : Int} (h : Sz n i) (h0 : 0 < n) : Rz n (i : Rat) := ⟨h, (by show 1 < 2 ^ n; exact Nat.one_lt_two_pow (by omega))⟩
theorem Sz.floor {n : Nat} {q : Rat} (h : Rz n q) : Sz n q.floor := by
  unfold Sz
  rw [Rat.floor_def]
  exact Nat.lt_of_le_of_lt (Int.natAbs_ediv_le_natAbs _ _) h.1
theorem neg_div_ceil (q : Rat) : -(-q.num / (q.den : Int)) = q.ceil := by
  have := Rat.ceil_eq_neg_floor_neg q
  rw [this, Rat.floor_def, Rat.neg_num, Rat.neg_den]
theorem Rz.neg {n : Nat} {q : Rat} (h : Rz n q) : Rz n (-q) := ⟨by rw [Rat.neg_num]; exact h.1.neg, by rw [Rat.neg_den]; exact h.2⟩
theorem Sz.ceil {n : Nat} {q : Rat} (h : Rz n q) : Sz n q.ceil := by
  rw [Rat.ceil_eq_neg_floor_neg]
  exact (Sz.floor h.neg).neg
theorem Sz.of {n : Nat} {i : Int} (h1 : -(2 ^ n) < i) (h2 : i < 2 ^ n) : Sz n i := by
  unfold Sz
  have e : ((2 ^ n : Nat) : Int) = (2 : Int) ^ n := by simp
  omega
end MM
namespace MM
/-! the calendar's mathematics: floor, ceil, and the steps of months and marks -/
structure Fit (m y : Rat) : Prop where
  one : 1 ≤ m
  between : (m.ceil : Rat) ≤ y / 12
  thirteen : y + 1 ≤ 13 * m
theorem Fit.pos {m y : Rat} (f : Fit m y) : 0 < m := by
  have := f.one
  grind
theorem Fit.ypos {m y : Rat} (f : Fit m y) : 0 < y / 12 := by
  have h1 := f.one
  have h2 := f.between
  have h3 : m ≤ (m.ceil : Rat) := Rat.le_ceil
  grind
def stF (m o : Rat) (k : Int) : Int := (o + k * m).floor
def mdF (y k : Rat) (j : Int) : Int := (k + j * (y / 12)).floor
def maF (m o : Rat) (d : Int) : Int := ((((d + 1 : Int) : Rat) - o) / m).ceil - 1
def jF (y k : Rat) (d : Int) : Int := (((d : Rat) - k) / (y / 12)).ceil
theorem lt_ceil_iff {q : Rat} {i : Int} : i < q.ceil ↔ (i : Rat) < q := by
  have h : q.ceil ≤ i ↔ q ≤ (i : Rat) := Rat.ceil_le_iff
  constructor
  · intro hi
    have : ¬ q.ceil ≤ i := by omega
    rw [h] at this
    exact Rat.not_le.mp this
  · intro hi
    have : ¬ q ≤ (i : Rat) := Rat.not_le.mpr hi
    rw [← h] at this
    omega
theorem floor_le_iff {q : Rat} {i : Int} : q.floor ≤ i ↔ q < ((i + 1 : Int) : Rat) := by
  have h := Rat.floor_lt_iff (a := q) (x := i + 1)
  rw [← h]
  omega
/-- the months up to K begin by the day d -/
theorem st_le {m o : Rat} (hm : 0 < m) {k d : Int} : stF m o k ≤ d ↔ k ≤ maF m o d := by
  unfold stF maF
  rw [floor_le_iff]
  have e : k ≤ ((((d + 1 : Int) : Rat) - o) / m).ceil - 1 ↔ k < ((((d + 1 : Int) : Rat) - o) / m).ceil := by omega
  rw [e, lt_ceil_iff, Rat.lt_div_iff hm]
  constructor <;> intro h <;> grind
theorem ma_of {m o : Rat} (hm : 0 < m) {k d : Int} (h1 : stF m o k ≤ d) (h2 : d < stF m o (k + 1)) : maF m o d = k := by
  have a := (st_le hm).mp h1
  have b : ¬ k + 1 ≤ maF m o d := fun z => by
    have := (st_le hm).mpr z
    omega
  omega
theorem st_ma {m o : Rat} (hm : 0 < m) (d : Int) : stF m o (maF m o d) ≤ d := (st_le hm).mpr (Int.le_refl _)
theorem ma_st {m o : Rat} (hm : 0 < m) (d : Int) : d < stF m o (maF m o d + 1) := by
  have : ¬ stF m o (maF m o d + 1) ≤ d := fun z => by
    have := (st_le hm).mp z
    omega
  omega
theorem cast_add1 (k : Int) : ((k + 1 : Int) : Rat) = (k : Rat) + 1 := by
  rw [Rat.intCast_add]
  rfl
theorem st_step {m o : Rat} (hm : 1 ≤ m) (k : Int) : stF m o k + 1 ≤ stF m o (k + 1) := by
  unfold stF
  rw [Rat.le_floor_iff, cast_add1, cast_add1]
  have h := Rat.floor_le (o + (k : Rat) * m)
  grind
theorem md_lt {y k : Rat} (hy : 0 < y / 12) {j d : Int} : mdF y k j < d ↔ j < jF y k d := by
  unfold mdF jF
  rw [Rat.floor_lt_iff, lt_ceil_iff, Rat.lt_div_iff hy]
  constructor <;> intro h <;> grind
theorem md_ge {y k : Rat} (hy : 0 < y / 12) (d : Int) : d ≤ mdF y k (jF y k d) := by
  have : ¬ mdF y k (jF y k d) < d := fun z => by
    have := (md_lt hy).mp z
    omega
  omega
/-- of two months in a row one has a mark -/
theorem two_months {m y o k : Rat} (f : Fit m y) (i : Int) : mdF y k (jF y k (stF m o (i - 1))) < stF m o (i + 1) := by
  have hy := f.ypos
  have h1 : mdF y k (jF y k (stF m o (i - 1)) - 1) < stF m o (i - 1) := (md_lt hy).mpr (by omega)
  unfold mdF at h1 ⊢
  rw [Rat.floor_lt_iff] at h1 ⊢
  have e1 : ((jF y k (stF m o (i - 1)) - 1 : Int) : Rat) = (jF y k (stF m o (i - 1)) : Rat) - 1 := by rw [Rat.intCast_sub]; rfl
  rw [e1] at h1
  have h2 : ((stF m o (i - 1) : Int) : Rat) ≤ o + ((i - 1 : Int) : Rat) * m := Rat.floor_le _
  have h3 : o + ((i + 1 : Int) : Rat) * m - 1 < ((stF m o (i + 1) : Int) : Rat) := Rat.lt_floor
  have e2 : ((i - 1 : Int) : Rat) = (i : Rat) - 1 := by rw [Rat.intCast_sub]; rfl
  rw [e2] at h2
  rw [cast_add1] at h3
  have a := f.one
  have b := f.thirteen
  have c : y / 12 ≤ 2 * m - 1 := by grind
  grind
theorem k0_le {m o : Rat} (hm : 0 < m) (d : Int) : (((d : Rat) - o) / m).floor - 1 ≤ maF m o d := by
  have h : ((((d : Rat) - o) / m).floor - 1) < ((((d + 1 : Int) : Rat) - o) / m).ceil := by
    rw [lt_ceil_iff, Rat.intCast_sub]
    have h1 := Rat.floor_le (((d : Rat) - o) / m)
    have h2 : ((d : Rat) - o) / m < (((d + 1 : Int) : Rat) - o) / m := by
      rw [cast_add1, Rat.lt_div_iff hm, Rat.div_mul_cancel (by grind)]
      grind
    have h3 : ((1 : Int) : Rat) = 1 := rfl
    grind
  unfold maF
  omega
theorem j0_le {y k : Rat} (d : Int) : (((d : Rat) - k) / (y / 12)).floor - 1 ≤ jF y k d := by
  have h : (((d : Rat) - k) / (y / 12)).floor ≤ (((d : Rat) - k) / (y / 12)).ceil := Rat.intCast_le_intCast.mp (Rat.le_trans (Rat.floor_le _) Rat.le_ceil)
  unfold jF
  omega
end MM
namespace MM
theorem floor_divInt {t b : Int} (hb : 0 < b) : (Rat.divInt t b).floor = t / b := by
  rw [Rat.floor_def]
  have h := Rat.num_divInt_den (Rat.divInt t b)
  have hd := den_pos (Rat.divInt t b)
  rw [Rat.divInt_eq_divInt_iff (by omega) (by omega)] at h
  have e1 : t / b = (t * ((Rat.divInt t b).den : Int)) / (b * ((Rat.divInt t b).den : Int)) := (Int.mul_ediv_mul_of_pos_left _ _ hd).symm
  rw [e1, ← h, Int.mul_comm b, Int.mul_ediv_mul_of_pos_left _ _ hb]
theorem inv_eq (q : Rat) : q⁻¹ = Rat.divInt q.den q.num := by
  have := Rat.inv_divInt q.num q.den
  rw [Rat.num_divInt_den] at this
  exact this
theorem div12 (x y : Rat) (hy : y ≠ 0) : Rat.divInt (x.num * 12 * y.den) ((x.den : Int) * y.num) = x / (y / 12) := by
  have e : x / (y / 12) = x * 12 * y⁻¹ := by grind
  rw [e, inv_eq]
  have h1 : x * 12 = Rat.divInt (x.num * 12) ((x.den : Int) * 1) := by
    have h := Rat.divInt_mul_divInt x.num 12 (d₁ := x.den) (d₂ := 1)
    rw [Rat.num_divInt_den] at h
    exact h
  rw [h1, Rat.divInt_mul_divInt, Int.mul_one]
theorem Sz.between {n : Nat} {a x b : Int} (ha : Sz n a) (hb : Sz n b) (h1 : a ≤ x) (h2 : x ≤ b) : Sz n x := by
  unfold Sz at *
  omega
theorem Fit.ypos' {m y : Rat} (f : Fit m y) : 0 < y := by
  have := f.ypos
  grind
theorem num_pos {q : Rat} (h : 0 < q) : 0 < q.num := by
  have := (lt_iff' 0 q).mp h
  rw [show (0 : Rat).num = 0 from rfl, show (0 : Rat).den = 1 from rfl] at this
  omega
end MM
namespace MM
theorem unit_divInt {t b : Int} (h0 : 0 ≤ t) (h1 : t ≤ b) (hb : 0 < b) : 0 ≤ Rat.divInt t b ∧ Rat.divInt t b ≤ 1 := by
  have hb' : (0 : Rat) < (b : Rat) := Rat.intCast_lt_intCast.mpr hb
  have h0' : (0 : Rat) ≤ (t : Rat) := Rat.intCast_le_intCast.mpr h0
  have h1' : (t : Rat) ≤ (b : Rat) := Rat.intCast_le_intCast.mpr h1
  rw [Rat.divInt_eq_div]
  have e : (t : Rat) / (b : Rat) * (b : Rat) = t := Rat.div_mul_cancel (by grind)
  refine ⟨?_, ?_⟩
  · apply Rat.not_lt.mp
    intro z
    have := Rat.mul_lt_mul_of_pos_right z hb'
    grind
  · apply Rat.not_lt.mp
    intro z
    have := Rat.mul_lt_mul_of_pos_right z hb'
    grind
theorem cast_sub1 (w : Int) : ((w - 1 : Int) : Rat) = (w : Rat) - 1 := by
  rw [Rat.intCast_sub]
  rfl
theorem cast_12 (w : Int) : ((12 * w : Int) : Rat) = 12 * (w : Rat) := by
  rw [Rat.intCast_mul]
  rfl
/-- the law's drawn month and year make a calendar -/
theorem fit_drawn {w : Int} (hw : 1 ≤ w) {s r : Rat} (s0 : 0 ≤ s) (s1 : s ≤ 1) (r0 : 0 ≤ r) (r1 : r ≤ 1) :
    Fit ((((12 * w + 1 : Int) : Rat) + s * ((w - 1 : Int) : Rat)) * Rat.divInt 1 13) (((12 * w : Int) : Rat) + r * s * ((w - 1 : Int) : Rat)) := by
  have hW : (1 : Rat) ≤ (w : Rat) := Rat.intCast_le_intCast.mpr hw
  rw [cast_add1, cast_12, cast_sub1, Rat.divInt_eq_div]
  have a0 : 0 ≤ s * ((w : Rat) - 1) := Rat.mul_nonneg s0 (by grind)
  have a1 : s * ((w : Rat) - 1) ≤ 1 * ((w : Rat) - 1) := Rat.mul_le_mul_of_nonneg_right s1 (by grind)
  have b0 : 0 ≤ r * (s * ((w : Rat) - 1)) := Rat.mul_nonneg r0 a0
  have b1 : r * (s * ((w : Rat) - 1)) ≤ 1 * (s * ((w : Rat) - 1)) := Rat.mul_le_mul_of_nonneg_right r1 a0
  have e : r * s * ((w : Rat) - 1) = r * (s * ((w : Rat) - 1)) := Rat.mul_assoc _ _ _
  rw [e]
  have c1 : ((1 : Int) : Rat) = 1 := rfl
  have c13 : ((13 : Int) : Rat) = 13 := rfl
  rw [c1, c13]
  generalize s * ((w : Rat) - 1) = z at *
  generalize r * z = u at *
  refine ⟨by grind, ?_, by grind⟩
  have h : ((12 * (w : Rat) + 1 + z) * (1 / 13)).ceil ≤ w := Rat.ceil_le_iff.mpr (by grind)
  have h' : (((12 * (w : Rat) + 1 + z) * (1 / 13)).ceil : Rat) ≤ (w : Rat) := Rat.intCast_le_intCast.mpr h
  grind
end MM
namespace MM
open PySem PySem.Spec PyProof.Rows L2
/-! ### defs and their calls -/
/-- a def of the module under its name, with its defaults -/
structure Df (K : PySem.W.Frag) (mg : Str → Option Value) (x : Str) (st : Stmt) (dvs : List V) : Prop where
  ex : ∃ (f : Addr) (fd : FuncData), FunD K x x (defArgs st) (defBody st) (defScope st) dvs [] f fd ∧ mg x = some (.ref f)
/-- what is known of a def that is called: its promise, how it is bound -/
structure Ca (P : Program) (w : World) (K : PySem.W.Frag) (mg : Str → Option Value) (base : Heap) (CX : CXT) (k : Nat) (x : Str) (st : Stmt) (dvs : List V) (ps : List Str) (sp : Sp) : Prop where
  ex : ∃ (f : Addr) (fd : FuncData), FunD K x x (defArgs st) (defBody st) (defScope st) dvs [] f fd ∧ mg x = some (.ref f) ∧ FnOk P w K mg base CX k f fd ps sp
/-- the parameters of a def, all given by place -/
def Bd (x qual : Str) (st : Stmt) (ps : List Str) : Prop := ∀ (kV doc pm : Value) (an : Option Addr) (cdv ct : Value) (us : List Value), us.length = ps.length →
  bindArgs (PySem.W.fnOf x qual (defArgs st) (defBody st) (defScope st) .none kV doc pm an cdv ct) ⟨us, []⟩ = pure (ps.zip us)
section
variable {P : Program} {w : World} {K : PySem.W.Frag} {mg : Str → Option Value} {base : Heap} {x : Str} {st : Stmt} {dvs : List V} {N ps : List Str} {k : Nat} {sp : Sp}
theorem ca0 (D : Df K mg x st dvs) (S : FnScope N ps (defScope st)) (len : ∀ vs H Q E, sp vs H Q E → vs.length = ps.length)
    (body : ∀ (f : Addr) (cdv : Value) (A : Around) (outer : List Env) (s : Shared) (H : Hp) (vs : List V) (Q : VK) (E : XK), Room k (A.deeper (envOfC x (defScope st) s.heap.objs.size f cdv)) → sp vs H Q E →
      ∃ t, PSs (cxOf CX0 P w K mg base N x (defScope st) f cdv A outer s H E).nox (defBody st) t ∧ t { nx := fun _ H' => Q .non H', rt := Q } (start N vs) H) : Ca P w K mg base CX0 (k + 1) x st dvs ps sp := by
  obtain ⟨f, fd, F, hm⟩ := D.ex
  refine ⟨f, fd, F, hm, F.ok S len fun cdv A outer s H vs Q E hr h => ?_⟩
  obtain ⟨t, h1, h2⟩ := body f cdv A outer s H vs Q E hr h
  exact ⟨t, h1.nox, h2⟩
theorem caX (D : Df K mg x st dvs) (S : FnScope N ps (defScope st)) (len : ∀ vs H Q E, sp vs H Q E → vs.length = ps.length)
    (body : ∀ (f : Addr) (cdv : Value) (A : Around) (outer : List Env) (s : Shared) (H : Hp) (vs : List V) (Q : VK) (E : XK), Room k (A.deeper (envOfC x (defScope st) s.heap.objs.size f cdv)) → sp vs H Q E →
      ∃ t, PSs (cxOf (L2.CX P w) P w K mg base N x (defScope st) f cdv A outer s H E) (defBody st) t ∧ t { nx := fun _ H' => Q .non H', rt := Q } (start N vs) H) : Ca P w K mg base (L2.CX P w) (k + 1) x st dvs ps sp := by
  obtain ⟨f, fd, F, hm⟩ := D.ex
  exact ⟨f, fd, F, hm, F.ok S len fun cdv A outer s H vs Q E hr h => body f cdv A outer s H vs Q E hr h⟩
theorem FunD.none {qual : Str} {params : Arguments} {bodyS : List Stmt} {scope : Scope} {f : Addr} {fd : FuncData} (F : FunD K x qual params bodyS scope [] [] f fd) :
    ∃ (kV doc pm : Value) (an : Option Addr) (cdv ct : Value), fd = PySem.W.fnOf x qual params bodyS scope .none kV doc pm an cdv ct := by
  obtain ⟨oc, od, dV, kV, doc, pm, an, cdv, ct, osl, rfl, lk, hcd, hD, hK⟩ := F.ex
  rcases hD with ⟨_, rfl⟩ | ⟨e, _⟩
  · exact ⟨kV, doc, pm, an, cdv, ct, rfl⟩
  · exact absurd rfl e
end
section
variable {X : Cx} {CX : CXT} {k j n : Nat} {C : Addr} {x m : Str} {st : Stmt} {sp : Sp} {ps ks : List Str} {dvs : List V} {E : XK} {p pos apos : Pos} {e o : Expr} {es : List Expr} {kws : List Keyword} {ta : TE} {t tk : TA}
/-- f(e, ..), all parameters by place -/
theorem pe_ca (c : Ca X.prog X.w X.K X.mg X.base CX k x st [] ps sp) (b : Bd x x st ps) (hr : Room j X.A) (hk : k ≤ j) (hx : Passes CX X E) (hg : Gl X x) (ha : PA X (e :: es) t)
    (hdb : (x == ("__debug__" : Str)) = false := by decide) (he : starEach (e :: es) X.env = (false, eval e X.env) :: starEach es X.env := by rfl) (hpl : (backTo pos (starEach es X.env)).any (·.1) = false := by rfl) :
    PE X (.Call (.Name x p) (e :: es) [] pos) (tCall sp [] E t) := by
  obtain ⟨f, fd, F, hm, G⟩ := c.ex
  exact pe_call G (hr.mono hk) hg hm F.kp (F.bindsN b) .nil hx ha hdb he hpl
/-- how keywords bind where there is no default: g puts the places' values and the keywords' in order -/
structure Kb (x : Str) (st : Stmt) (n : Nat) (ks ps : List Str) (g : {α : Type} → List α → List α → List α) : Prop where
  bind : ∀ (kV doc pm : Value) (an : Option Addr) (cdv ct : Value) (us ws : List Value), us.length = n → ws.length = ks.length →
    bindArgs (PySem.W.fnOf x x (defArgs st) (defBody st) (defScope st) .none kV doc pm an cdv ct) ⟨us, ks.zip ws⟩ = pure (ps.zip (g us ws))
  rel : ∀ {vs zs : List V} {us ws : List Value}, vs.length = n → zs.length = ks.length → Vals vs us → Vals zs ws → Vals (g vs zs) (g us ws)
/-- f(k = v, ..) of a def without defaults -/
theorem pe_caK {g : {α : Type} → List α → List α → List α} (c : Ca X.prog X.w X.K X.mg X.base CX k x st [] ps sp) (b : Kb x st 0 ks ps g) (hr : Room j X.A) (hk : k ≤ j) (hx : Passes CX X E) (hg : Gl X x) (hkw : PK X kws tk)
    (hall : (backToKw pos (keywordEach kws X.env)).all (·.1.isSome) = true := by rfl) (hks : (backToKw pos (keywordEach kws X.env)).filterMap (·.1) = ks := by rfl) (hdb : (x == ("__debug__" : Str)) = false := by decide)
    (hpl : ((backTo pos (starEach [] X.env)).any (·.1) || (backToKw pos (keywordEach kws X.env)).any (·.1.isNone)) = false := by rfl) :
    PE X (.Call (.Name x p) [] kws pos) (fun σ H Q => tk σ H fun zs H2 => zs.length = ks.length ∧ sp (g [] zs) H2 Q E) := by
  obtain ⟨f, fd, F, hm, G⟩ := c.ex
  obtain ⟨kV, doc, pm, an, cdv, ct, rfl⟩ := FunD.none F
  refine ⟨fun pins s σ H Q I h => ?_⟩
  refine wpAny_Call_Name_kw (ld_glob I hg hm ?_ hdb)
  refine PySem.W.callWith_KW0 (h₀ := X.base) I.ok.mod.kin F.kp hall ?_ hpl
  refine thn (hkw.run pos pins s σ H _ I h) fun ws s2 ⟨zs, H2, I2, rz, l2, q2⟩ => ⟨I2.kIn, ?_⟩
  rw [hks]
  have r2 : Vals (g [] zs) (g [] ws) := b.rel rfl l2 .nil rz
  refine wpAny_call (codeAny_mono (G.run X.A X.stack s2 H2 ⟨[], ks.zip ws⟩ (g [] ws) (g [] zs) Q E (hr.mono hk) I2.env0 (.of_eq (b.bind kV doc pm an cdv ct [] ws rfl (rz.length.symm.trans l2))) r2 q2) fun r s' hq => ?_)
  match r, hq with
  | .error e, hq => exact hx pins σ H2 s2 e s' I2 hq
  | .ok (.ret u), hq => exact I2.after hq
  | .ok .next, hq => exact False.elim hq
  | .ok .brk, hq => exact False.elim hq
  | .ok .cont, hq => exact False.elim hq
end
/-! ### whole numbers -/
section
variable {X : Cx}
/-- // by any divisor but 0 -/
def CDivA (_ j : Int) : Prop := j ≠ 0 ∧ Sz 8900 j
theorem op_fdivA : OpR X (binaryOp .FloorDiv) (rI CDivA fun i j => .int (i.fdiv j)) := opI fun i j _ _ _ _ _ hc q =>
  PyProof.Rows.floordiv_int hc.1 q (.inl (PyProof.noPylong_of_log2 (Nat.lt_of_lt_of_le (PySem.Flt.log2_lt_of (by decide) hc.2) (by decide))))
/-- * of two numbers of some thousand bits -/
def CMulA (i j : Int) : Prop := Sz 100000 i ∧ Sz 100000 j
theorem op_mulA : OpR X (binaryOp .Mult) (rI CMulA fun i j => .int (i * j)) := opI fun i j _ _ _ _ _ hc q =>
  PyProof.Rows.mul_int q (CMulW.ok (wide_mul hc.1 hc.2 (by decide) (by decide) (by decide)))
end
/-! ### a pick out of a written list -/
theorem pick {α : Type} {xs : List α} {z : Int} {P : α → Prop} (h0 : 0 ≤ z) (h1 : z < xs.length) (h : ∀ x ∈ xs, P x) : ∃ v, atI xs z = some v ∧ P v := by
  have hl : z.toNat < xs.length := by omega
  refine ⟨xs[z.toNat], ?_, h _ (List.getElem_mem hl)⟩
  unfold atI ixN
  rw [if_pos h0, if_pos h1]
  exact List.getElem?_eq_getElem hl
end MM
namespace MM
open PySem PySem.Spec PyProof.Rows L2
/-- what binds where some parameters have defaults: n given by place, the defaults from the j-th on fill up -/
def Bd1 (x qual : Str) (st : Stmt) (ps : List Str) (n j m : Nat) : Prop := ∀ (T : Addr) (kV doc pm : Value) (an : Option Addr) (cdv ct : Value) (us its : List Value), us.length = n → its.length = m →
  ∃ k, bindArgs (PySem.W.fnOf x qual (defArgs st) (defBody st) (defScope st) (.ref T) kV doc pm an cdv ct) ⟨us, []⟩ = seqItems? (.ref T) >>= k ∧ k (some its.toArray) = pure (ps.zip (us ++ its.drop j))
/-- the __init__ of a class -/
structure Di (K : PySem.W.Frag) (mg : Str → Option Value) (x : Str) (C : Addr) (qual : Str) (st : Stmt) (dvs : List V) : Prop where
  ex : ∃ (f : Addr) (fd : FuncData), FunD K "__init__" qual (defArgs st) (defBody st) (defScope st) dvs [] f fd ∧ Mk K C f ∧ mg x = some (.ref C)
structure Ci (P : Program) (w : World) (K : PySem.W.Frag) (mg : Str → Option Value) (base : Heap) (CX : CXT) (k : Nat) (x : Str) (C : Addr) (qual : Str) (st : Stmt) (dvs : List V) (ps : List Str) (sp : Sp) : Prop where
  ex : ∃ (f : Addr) (fd : FuncData), FunD K "__init__" qual (defArgs st) (defBody st) (defScope st) dvs [] f fd ∧ Mk K C f ∧ mg x = some (.ref C) ∧ FnOk P w K mg base CX k f fd ps sp
/-- a method of a class -/
structure Dm (K : PySem.W.Frag) (C : Addr) (m qual : Str) (st : Stmt) : Prop where
  ex : ∃ (f : Addr) (fd : FuncData), FunD K m qual (defArgs st) (defBody st) (defScope st) [] [] f fd ∧ Meth K C m f ∧ Cls K C
structure Cm (P : Program) (w : World) (K : PySem.W.Frag) (mg : Str → Option Value) (base : Heap) (CX : CXT) (k : Nat) (C : Addr) (m qual : Str) (st : Stmt) (ps : List Str) (sp : Sp) : Prop where
  ex : ∃ (f : Addr) (fd : FuncData), FunD K m qual (defArgs st) (defBody st) (defScope st) [] [] f fd ∧ Meth K C m f ∧ Cls K C ∧ FnOk P w K mg base CX k f fd ps sp
section
variable {P : Program} {w : World} {K : PySem.W.Frag} {mg : Str → Option Value} {base : Heap} {x m qual : Str} {C : Addr} {st : Stmt} {dvs : List V} {N ps : List Str} {k : Nat} {sp : Sp}
theorem ci0 (D : Di K mg x C qual st dvs) (S : FnScope N ps (defScope st)) (len : ∀ vs H Q E, sp vs H Q E → vs.length = ps.length)
    (body : ∀ (f : Addr) (cdv : Value) (A : Around) (outer : List Env) (s : Shared) (H : Hp) (vs : List V) (Q : VK) (E : XK), Room k (A.deeper (envOfC qual (defScope st) s.heap.objs.size f cdv)) → sp vs H Q E →
      ∃ t, PSs (cxOf CX0 P w K mg base N qual (defScope st) f cdv A outer s H E).nox (defBody st) t ∧ t { nx := fun _ H' => Q .non H', rt := Q } (start N vs) H) : Ci P w K mg base CX0 (k + 1) x C qual st dvs ps sp := by
  obtain ⟨f, fd, F, M, hm⟩ := D.ex
  refine ⟨f, fd, F, M, hm, F.ok S len fun cdv A outer s H vs Q E hr h => ?_⟩
  obtain ⟨t, h1, h2⟩ := body f cdv A outer s H vs Q E hr h
  exact ⟨t, h1.nox, h2⟩
theorem ciX (D : Di K mg x C qual st dvs) (S : FnScope N ps (defScope st)) (len : ∀ vs H Q E, sp vs H Q E → vs.length = ps.length)
    (body : ∀ (f : Addr) (cdv : Value) (A : Around) (outer : List Env) (s : Shared) (H : Hp) (vs : List V) (Q : VK) (E : XK), Room k (A.deeper (envOfC qual (defScope st) s.heap.objs.size f cdv)) → sp vs H Q E →
      ∃ t, PSs (cxOf (L2.CX P w) P w K mg base N qual (defScope st) f cdv A outer s H E) (defBody st) t ∧ t { nx := fun _ H' => Q .non H', rt := Q } (start N vs) H) : Ci P w K mg base (L2.CX P w) (k + 1) x C qual st dvs ps sp := by
  obtain ⟨f, fd, F, M, hm⟩ := D.ex
  exact ⟨f, fd, F, M, hm, F.ok S len fun cdv A outer s H vs Q E hr h => body f cdv A outer s H vs Q E hr h⟩
theorem cm0 (D : Dm K C m qual st) (S : FnScope N ps (defScope st)) (len : ∀ vs H Q E, sp vs H Q E → vs.length = ps.length)
    (body : ∀ (f : Addr) (cdv : Value) (A : Around) (outer : List Env) (s : Shared) (H : Hp) (vs : List V) (Q : VK) (E : XK), Room k (A.deeper (envOfC qual (defScope st) s.heap.objs.size f cdv)) → sp vs H Q E →
      ∃ t, PSs (cxOf CX0 P w K mg base N qual (defScope st) f cdv A outer s H E).nox (defBody st) t ∧ t { nx := fun _ H' => Q .non H', rt := Q } (start N vs) H) : Cm P w K mg base CX0 (k + 1) C m qual st ps sp := by
  obtain ⟨f, fd, F, M, hc⟩ := D.ex
  refine ⟨f, fd, F, M, hc, F.ok S len fun cdv A outer s H vs Q E hr h => ?_⟩
  obtain ⟨t, h1, h2⟩ := body f cdv A outer s H vs Q E hr h
  exact ⟨t, h1.nox, h2⟩
end
section
variable {X : Cx} {CX : CXT} {k j n d : Nat} {C : Addr} {x m qual : Str} {st : Stmt} {sp : Sp} {ps ks : List Str} {dvs : List V} {E : XK} {p pos apos : Pos} {e o : Expr} {es : List Expr} {kws : List Keyword} {ta : TE} {t tk : TA}
/-- C(e, ..): n values, then the defaults from the d-th on; n counts self too -/
theorem pe_ci (c : Ci X.prog X.w X.K X.mg X.base CX k x C qual st dvs ps sp) (b : Bd1 "__init__" qual st ps n d dvs.length) (hd : dvs ≠ []) (hn : n + (dvs.length - d) = ps.length) (hr : Room j X.A) (hk : k + 1 ≤ j) (hx : Passes CX X E) (hg : Gl X x) (ha : PA X (e :: es) t)
    (hdb : (x == ("__debug__" : Str)) = false := by decide) (he : starEach (e :: es) X.env = (false, eval e X.env) :: starEach es X.env := by rfl) (hpl : (backTo pos (starEach es X.env)).any (·.1) = false := by rfl) :
    PE X (.Call (.Name x p) (e :: es) [] pos) (tMake C sp (dvs.drop d) E t) := by
  obtain ⟨f, fd, F, M, hm, G⟩ := c.ex
  obtain ⟨ds, r, bb⟩ := F.binds1 n d hd hn b
  exact pe_make M G (hr.mono hk) hg hm bb r hx ha hdb he hpl
/-- o.m(e, ..) -/
theorem pe_cm {pl : Sem Bool} (c : Cm X.prog X.w X.K X.mg X.base CX k C m qual st ps sp) (b : Bd m qual st ps) (hr : Room j X.A) (hk : k ≤ j) (hx : Passes CX X E) (he : PE X o ta) (ha : PA X (e :: es) t)
    (hst : starEach (e :: es) X.env = (false, eval e X.env) :: starEach es X.env := by rfl) (hpl : (backTo pos (starEach es X.env)).any (·.1) = false := by rfl)
    (ht : eval (.Call (.Attribute o m apos) (e :: es) [] pos) X.env = (eval o X.env >>= fun ov => standAt apos.atName >>= fun _ => holding [ov] (getMethod ov m pl) >>= fun q => callWith pos q.1 q.2 (backTo pos (starEach (e :: es) X.env)) (backToKw pos (keywordEach [] X.env))) := by rfl) :
    PE X (.Call (.Attribute o m apos) (e :: es) [] pos) (tMeth C m sp [] E ta t) := by
  obtain ⟨f, fd, F, M, hc, G⟩ := c.ex
  exact pe_meth (pl := pl) he hc M G (hr.mono hk) (F.bindsN b) .nil hx ha hst hpl ht
/-- how keywords bind in a method, or a def, without defaults -/
structure Kbm (x qual : Str) (st : Stmt) (n : Nat) (ks ps : List Str) (g : {α : Type} → List α → List α → List α) : Prop where
  bind : ∀ (kV doc pm : Value) (an : Option Addr) (cdv ct : Value) (us ws : List Value), us.length = n → ws.length = ks.length →
    bindArgs (PySem.W.fnOf x qual (defArgs st) (defBody st) (defScope st) .none kV doc pm an cdv ct) ⟨us, ks.zip ws⟩ = pure (ps.zip (g us ws))
  rel : ∀ {vs zs : List V} {us ws : List Value}, vs.length = n → zs.length = ks.length → Vals vs us → Vals zs ws → Vals (g vs zs) (g us ws)
/-- o.m(k = v, ..) -/
theorem pe_cmK {pl : Sem Bool} {g : {α : Type} → List α → List α → List α} (c : Cm X.prog X.w X.K X.mg X.base CX k C m qual st ps sp) (b : Kbm m qual st 1 ks ps g) (hr : Room j X.A) (hk : k ≤ j) (hx : Passes CX X E) (he : PE X o ta) (hkw : PK X kws tk)
    (hall : (backToKw pos (keywordEach kws X.env)).all (·.1.isSome) = true := by rfl) (hks : (backToKw pos (keywordEach kws X.env)).filterMap (·.1) = ks := by rfl)
    (hpl : ((backTo pos (starEach [] X.env)).any (·.1) || (backToKw pos (keywordEach kws X.env)).any (·.1.isNone)) = false := by rfl)
    (ht : eval (.Call (.Attribute o m apos) [] kws pos) X.env = (eval o X.env >>= fun ov => standAt apos.atName >>= fun _ => holding [ov] (getMethod ov m pl) >>= fun q => callWith pos q.1 q.2 (backTo pos (starEach [] X.env)) (backToKw pos (keywordEach kws X.env))) := by rfl) :
    PE X (.Call (.Attribute o m apos) [] kws pos) (fun σ H Q => ta σ H fun x H1 => ∃ a dx fs, x = .ref a ∧ H1 a = some (.ins C dx fs) ∧ fs.lookup m = none ∧ tk σ H1 fun zs H2 => zs.length = ks.length ∧ sp (g [.ref a] zs) H2 Q E) := by
  obtain ⟨f, fd, F, M, hc, G⟩ := c.ex
  obtain ⟨kV, doc, pm, an, cdv, ct, rfl⟩ := FunD.none F
  refine ⟨fun pins s σ H Q I h => ?_⟩
  refine PySem.W.methodCall_KW (pl := pl) (thn (he.run pins s σ H _ I h) fun u s1 ⟨y, H1, I1, ry, a, dx, fs, ey, ea, l, q⟩ => ?_) ht
  subst ey
  obtain rfl : u = Value.ref a := ry
  refine getmeth_ok I1 ea hc M l ?_
  refine PySem.W.callWith_KW0 (first := [.ref a]) (h₀ := X.base) I.ok.mod.kin M.kp hall ?_ hpl
  refine thn (hkw.run pos pins s1 σ H1 _ I1 q) fun ws s2 ⟨zs, H2, I2, rz, l2, q2⟩ => ⟨I2.kIn, ?_⟩
  rw [hks]
  have r2 : Vals (g [V.ref a] zs) (g [Value.ref a] ws) := b.rel rfl l2 (.cons rfl .nil) rz
  refine wpAny_call (codeAny_mono (G.run X.A X.stack s2 H2 ⟨[.ref a], ks.zip ws⟩ (g [.ref a] ws) (g [.ref a] zs) Q E (hr.mono hk) I2.env0 (.of_eq (b.bind kV doc pm an cdv ct [.ref a] ws rfl (rz.length.symm.trans l2))) r2 q2) fun r s' hq => ?_)
  match r, hq with
  | .error e, hq => exact hx pins σ H2 s2 e s' I2 hq
  | .ok (.ret u), hq => exact I2.after hq
  | .ok .next, hq => exact False.elim hq
  | .ok .brk, hq => exact False.elim hq
  | .ok .cont, hq => exact False.elim hq
end
/-- the keywords take their places: one self, the keywords in the parameters' order -/
def g1 {α : Type} : List α → List α → List α := fun us ws => us ++ ws
theorem g1_rel {n m : Nat} {vs zs : List V} {us ws : List Value} (_ : vs.length = n) (_ : zs.length = m) (h : Vals vs us) (k : Vals zs ws) : Vals (g1 vs zs) (g1 us ws) := h.append k
/-- how C(.., k = v, ..) binds where __init__ has defaults -/
structure Kd (qual : Str) (st : Stmt) (dn n : Nat) (ks ps : List Str) (g : {α : Type} → List α → List α → List α → List α) : Prop where
  bind : ∀ (T : Addr) (kV doc pm : Value) (an : Option Addr) (cdv ct : Value) (us its ws : List Value), us.length = n → its.length = dn → ws.length = ks.length →
    ∃ k, bindArgs (PySem.W.fnOf "__init__" qual (defArgs st) (defBody st) (defScope st) (.ref T) kV doc pm an cdv ct) ⟨us, ks.zip ws⟩ = seqItems? (.ref T) >>= k ∧ k (some its.toArray) = pure (ps.zip (g us its ws))
  rel : ∀ {vs ds zs : List V} {us its ws : List Value}, Vals vs us → Vals ds its → Vals zs ws → Vals (g vs ds zs) (g us its ws)
section
variable {X : Cx} {CX : CXT} {k j n d : Nat} {C : Addr} {x m qual : Str} {st : Stmt} {sp : Sp} {ps ks : List Str} {dvs : List V} {E : XK} {p pos apos : Pos} {e o : Expr} {es : List Expr} {kws : List Keyword} {ta : TE} {t tk : TA}
theorem pe_ciK0 {g : {α : Type} → List α → List α → List α → List α} (c : Ci X.prog X.w X.K X.mg X.base CX k x C qual st dvs ps sp) (b : Kd qual st dvs.length 1 ks ps g) (hd : dvs ≠ []) (hr : Room j X.A) (hk : k + 1 ≤ j) (hx : Passes CX X E) (hg : Gl X x) (hkw : PK X kws tk)
    (hall : (backToKw pos (keywordEach kws X.env)).all (·.1.isSome) = true := by rfl) (hks : (backToKw pos (keywordEach kws X.env)).filterMap (·.1) = ks := by rfl) (hdb : (x == ("__debug__" : Str)) = false := by decide)
    (hpl : ((backTo pos (starEach [] X.env)).any (·.1) || (backToKw pos (keywordEach kws X.env)).any (·.1.isNone)) = false := by rfl) :
    PE X (.Call (.Name x p) [] kws pos) (tMakeK C 0 ks.length sp (fun vs zs => g vs dvs zs) E tNil tk) := by
  obtain ⟨f, fd, F, M, hm, G⟩ := c.ex
  obtain ⟨its, hb⟩ := F.kbindsD 1 ks g hd b.rel b.bind
  exact pe_makeK0 M G (hr.mono hk) hg hm hb hx hkw hall hks hdb hpl
theorem pe_ciK {g : {α : Type} → List α → List α → List α → List α} (c : Ci X.prog X.w X.K X.mg X.base CX k x C qual st dvs ps sp) (b : Kd qual st dvs.length (n + 1) ks ps g) (hd : dvs ≠ []) (hr : Room j X.A) (hk : k + 1 ≤ j) (hx : Passes CX X E) (hg : Gl X x) (ha : PA X (e :: es) t) (hkw : PK X kws tk)
    (hall : (backToKw pos (keywordEach kws X.env)).all (·.1.isSome) = true := by rfl) (hks : (backToKw pos (keywordEach kws X.env)).filterMap (·.1) = ks := by rfl) (hdb : (x == ("__debug__" : Str)) = false := by decide)
    (he : starEach (e :: es) X.env = (false, eval e X.env) :: starEach es X.env := by rfl) (hpl : ((backTo pos (starEach (e :: es) X.env)).any (·.1) || (backToKw pos (keywordEach kws X.env)).any (·.1.isNone)) = false := by rfl) :
    PE X (.Call (.Name x p) (e :: es) kws pos) (tMakeK C n ks.length sp (fun vs zs => g vs dvs zs) E t tk) := by
  obtain ⟨f, fd, F, M, hm, G⟩ := c.ex
  obtain ⟨its, hb⟩ := F.kbindsD (n + 1) ks g hd b.rel b.bind
  exact pe_makeK M G (hr.mono hk) hg hm hb hx ha hkw hall hks hdb he hpl
end
end MM
namespace MM
open PySem PySem.Spec PyProof.Rows L2
/-! ### range(a, b) of numbers of any size -/
theorem turn_long {P : Program} {w : World} {K : PySem.W.Frag} {tg : Expr} (it : Addr) (lo : Int) (n : Nat) : Turn P w K tg (Itr lo n) [it] it (fun i h => IsLongIter h it (lo + (i : Nat) * 1) ((n : Int) - (i : Nat)) 1) := by
  refine { mem := List.mem_singleton.mpr rfl, obj := fun i h st b hb => ?_, keep := fun i h h' st k => k it (List.mem_singleton.mpr rfl) _ st, item := ?_, done := ?_, self := fun _ _ _ _ _ st h => wpAny_pyIter_longiter st h }
  · cases List.mem_singleton.mp hb
    exact ⟨_, st, fun v z => nomatch (show Data.fields _ = Data.cell v from z)⟩
  · intro X hP hw hK hc i pins s σ H E I hf st hg
    subst hP; subst hw; subst hK
    obtain ⟨f0, f1, f2, f3, f4, f5⟩ := hf it (List.mem_singleton.mpr rfl)
    refine (Walks.longrange (prog := X.prog) (w := X.w) (I.ok.hd hc) it lo 1 n).item i s _ _ hg st fun v h' tk hv st' kk => ?_
    obtain ⟨t, rfl⟩ := hv
    have J : Inv X pins σ H { s with heap := h', toks := tk } := I.turned (fun b o hb e => kk b o (fun z => hb (List.mem_singleton.mp z)) e) f0 f1 f3 f4 f5
    refine ⟨_, rfl, go_of (s := { s with heap := h', toks := tk }) (n := "longrange_iterator") st' rfl rfl (by decide) ⟨.int (lo + i), H, J, ⟨t, ?_⟩, ⟨rfl, rfl⟩, st', fun b hb => (hf b hb).1⟩⟩
    rw [Int.mul_one]
  · intro X hP hw hK hc i pins s σ H E I hf st hg
    subst hP; subst hw; subst hK
    obtain ⟨f0, f1, f2, f3, f4, f5⟩ := hf it (List.mem_singleton.mpr rfl)
    have hl : n ≤ i := hg
    exact wpAny_pyNext_long_end (I.ok.hd hc) st (by omega) fun h' eb => ⟨rfl, I.turned (t' := s.toks) (fun b o hb e => eb b o hb e) f0 f1 f3 f4 f5⟩
section
variable {X : Cx} {tg : Expr}
theorem long_it {pins : List (Addr × Obj)} {σ : L2.St} {H : Hp} {s : Shared} {R : It → Hp → Prop} {E : Value → Shared → Prop} {lo hi : Int} {t u v : Tok} {tk : Nat} (I : Inv X pins σ H s) (q : R (Itr lo (hi - lo).toNat) H) :
    wpAny (model X.prog X.w) X.A (pyIter (.ref s.heap.objs.size)) (PIE X pins σ tg R) E { s with heap := s.heap.push { cls := .type "range", data := .fields #[.int lo t, .int hi u, .int 1 v] }, toks := tk } := by
  have J : Inv X pins σ H { s with heap := s.heap.push { cls := .type "range", data := .fields #[.int lo t, .int hi u, .int 1 v] }, toks := tk } := I.kept fun b o e => Heap.get?_push_of_some _ e
  have e0 : lo + ((0 : Nat) : Int) * 1 = lo := by simp
  have e1 : (((hi - lo).toNat : Nat) : Int) - ((0 : Nat) : Int) = Builtin.Range.rangeSize lo hi 1 := by
    rw [rangeSize_one]
    split <;> omega
  cases hsm : Builtin.Range.small lo hi 1 with
  | true =>
    refine wpAny_pyIter_range (IsRange.new ..) hsm ⟨_, [_], _, _, H, rfl, J.kept (t' := tk) fun b o e => Heap.get?_push_of_some _ e, turn_range _ lo (hi - lo).toNat, ?_, fun b hb => ?_, q⟩
    · show IsRangeIter _ _ (lo + ((0 : Nat) : Int) * 1) ((((hi - lo).toNat : Nat) : Int) - ((0 : Nat) : Int)) 1
      rw [e0, e1]
      exact Heap.get?_push_size _ rfl
    · cases List.mem_singleton.mp hb
      exact J.fpOk (Nat.le_refl _) (J.hok.fresh (Nat.le_refl _))
  | false =>
    refine wpAny_pyIter_longrange (IsRange.new ..) hsm ⟨_, [_], _, _, H, rfl, J.kept (t' := tk) fun b o e => Heap.get?_push_of_some _ e, turn_long _ lo (hi - lo).toNat, ?_, fun b hb => ?_, q⟩
    · show IsLongIter _ _ (lo + ((0 : Nat) : Int) * 1) ((((hi - lo).toNat : Nat) : Int) - ((0 : Nat) : Int)) 1
      rw [e0, e1]
      exact Heap.get?_push_size _ rfl
    · cases List.mem_singleton.mp hb
      exact J.fpOk (Nat.le_refl _) (J.hok.fresh (Nat.le_refl _))
def iRngA (ta : TA) : TI := fun σ H R => ta σ H fun vs H1 => ∃ i j : Int, vs = [.int i, .int j] ∧ R (Itr i (j - i).toNat) H1
theorem pi_rangeA {a b : Expr} {ta : TA} {p pos : Pos} (hg : Gl X "range") (hm : X.mg "range" = none) (ha : PA X [a, b] ta) (hs : starEach [a, b] X.env = [(false, eval a X.env), (false, eval b X.env)] := by rfl) (hs2 : starEach [b] X.env = [(false, eval b X.env)] := by rfl) :
    PI X tg (.Call (.Name "range" p) [a, b] [] pos) (iRngA ta) := by
  refine ⟨fun pins s σ H R I h => Call_ (ld_blt I hg hm boot_range (PyProof.Rows.callWith_type1 (thn (ha.run pos pins s σ H _ I h) fun us s1 ⟨vs, H1, I1, r1, q1⟩ => ?_) (by rw [hs, hs2]) (by rw [hs2]; rfl)))⟩
  obtain ⟨i, j, e, q⟩ := q1
  subst e
  obtain ⟨u1, u2, rfl, ⟨t, rfl⟩, ⟨t', rfl⟩⟩ := vals2 r1
  exact call_range_2 (long_it I1 q)
end
end MM
namespace MM
open PySem PySem.Spec PyProof.Rows L2
section
variable {K : PySem.W.Frag} {h : Heap} {mg : Str → Option Value} {x m qual : Str} {st : Stmt} {f C T : Addr} {oc kV doc pm cdv ct cT : Value} {od an dT : Option Addr} {osl sT : Array (Option Value)} {nT : Nat}
theorem df_mk (X : K.In h) (G : h.Ns mainGlobals mg) (a : PySem.W.nsIn K mainGlobals x = some (some (.ref f))) (l : K.lookup f = some ⟨oc, od, .func (PySem.W.fnOf x x (defArgs st) (defBody st) (defScope st) .none kV doc pm an cdv ct), osl⟩)
    (c : PySem.W.codeIn K cdv x = true) (k : PySem.W.keepIn K (.ref f) = true) : Df K mg x st [] :=
  ⟨f, _, ⟨⟨oc, od, .none, kV, doc, pm, an, cdv, ct, osl, rfl, l, c, .inl ⟨rfl, rfl⟩, .inl rfl⟩, k⟩, PySem.W.mg_of X G a⟩
theorem dm_mk (cl : Cls K C) (a : PySem.W.findIn K (.ref C) m = some (some (.ref f))) (i : PySem.W.isFn K (.ref f) = true) (l : K.lookup f = some ⟨oc, od, .func (PySem.W.fnOf m qual (defArgs st) (defBody st) (defScope st) .none kV doc pm an cdv ct), osl⟩)
    (c : PySem.W.codeIn K cdv qual = true) (k : PySem.W.keepIn K (.ref f) = true) : Dm K C m qual st :=
  ⟨f, _, ⟨⟨oc, od, .none, kV, doc, pm, an, cdv, ct, osl, rfl, l, c, .inl ⟨rfl, rfl⟩, .inl rfl⟩, k⟩, ⟨a, i, k⟩, cl⟩
theorem di_mk {its : List Value} {dvs : List V} (hC : mg x = some (.ref C)) (a : PySem.W.findIn K (.ref C) "__init__" = some (some (.ref f))) (i : PySem.W.isFn K (.ref f) = true)
    (l : K.lookup f = some ⟨oc, od, .func (PySem.W.fnOf "__init__" qual (defArgs st) (defBody st) (defScope st) (.ref T) kV doc pm an cdv ct), osl⟩) (c : PySem.W.codeIn K cdv qual = true) (k : PySem.W.keepIn K (.ref f) = true)
    (mk : PySem.W.makesIn K C = true) (kc : PySem.W.keepIn K (.ref C) = true) {oT : Obj} (lT : K.lookup T = some oT) (eT : oT.data = .seq its.toArray nT) (r : Vals dvs its) (ne : dvs ≠ []) : Di K mg x C qual st dvs :=
  ⟨f, _, ⟨⟨oc, od, .ref T, kV, doc, pm, an, cdv, ct, osl, rfl, l, c, .inr ⟨ne, T, _, its, nT, rfl, lT, eT, r⟩, .inl rfl⟩, k⟩, ⟨mk, a, i, kc⟩, hC⟩
theorem kit_no {t : Value} (iC : PySem.W.isClsIn K C = true) (tC : PySem.W.typeIn K (.ref C) = some (.type "type")) (ht : (t == Value.ref C) = false) (sI : PySem.W.subIn K t (.ref C) = some false) : PySem.W.kitOne K t (.ref C) = some false := by
  unfold PySem.W.kitOne PySem.W.kitCls
  have iC' : (PySem.W.clsIn K C).isSome = true := iC
  rw [ht, if_neg Bool.false_ne_true]
  show (if ((PySem.W.clsIn K C).isSome && PySem.W.typeIn K (.ref C) == some (.type "type")) = true then PySem.W.subIn K t (.ref C) else none) = some false
  rw [iC', tC, if_pos (by simp)]
  exact sI
theorem fund_inj {params : Arguments} {body : List Stmt} {scope : Scope} {dvs : List V} {kws : List (Str × V)} {fd fd' : FuncData} (F : FunD K x qual params body scope dvs kws f fd) (F' : FunD K x qual params body scope dvs kws f fd') : fd = fd' := by
  obtain ⟨oc, od, dV, kV, doc, pm, an, cdv, ct, osl, e, lk, _⟩ := F.ex
  obtain ⟨oc', od', dV', kV', doc', pm', an', cdv', ct', osl', e', lk', _⟩ := F'.ex
  rw [lk] at lk'
  injection lk' with z
  injection z with z1 z2 z3 z4
  injection z3
end
/-- from the law's promise to what the end of the walk asks -/
theorem fin_of {P : Program} {w : World} {K : PySem.W.Frag} {mg : Str → Option Value} {st : Stmt} {k : Nat} {x : Str} {sp : Sp} {fa : Addr} (hfa : mg "law" = some (.ref fa)) (D : Df K mg "law" st []) (b : Bd "law" "law" st [x])
    (h : ∀ base : Heap, Ca P w K mg base CX0 k "law" st [] [x] sp) :
    ∃ fd : FuncData, (∀ (s : Shared) (u : Value), BindsTo s fd ⟨[u], []⟩ [(x, u)]) ∧ ∀ base : Heap, K.In base → base.Ns mainGlobals mg → FnOk P w K mg base CX0 k fa fd [x] sp := by
  obtain ⟨f, fd, F, hm⟩ := D.ex
  have e := hfa.symm.trans hm
  cases e
  refine ⟨fd, fun s u => ?_, fun base _ _ => ?_⟩
  · obtain ⟨kV, doc, pm, an, cdv, ct, rfl⟩ := FunD.none F
    exact .of_eq (b kV doc pm an cdv ct [u] rfl)
  · obtain ⟨f', fd', F', hm', G⟩ := (h base).ex
    have e' := hm.symm.trans hm'
    cases e'
    have e2 := fund_inj F F'
    subst e2
    exact G
end MM
namespace MM
open PySem PySem.Spec PyProof.Rows L2
theorem no' {A B : Prop} {b : Bool} (hb : b = false) (h : B) : if b = true then A else B := by
  subst hb
  exact iteF h
theorem upd_keep {H H1 : Hp} {D : Addr} {o : HO} (nD : H D = none) (s : Same H H1) : Same H (L2.upd H1 D o) := fun b u e => by
  rw [upd_ne (ne_of_none e nD)]
  exact s b u e
section
variable {J : It} {n : Nat} {G : Hp → Prop} {Y : Nat → Hp → V → Hp → Prop}
/-- a comprehension without a test whose i-th thing has Ps i -/
theorem lc_all (w : Walk J n G Y) (hY : ∀ i H x H', Y i H x H' → Same H H') {g : TG} {te : TE} {vs : List Nat} {σ : L2.St} {H : Hp} {D : Addr} {Qd : Hp → Prop} (nD : H D = none) (hn : n < sizeLine) (Ps : Nat → V → Hp → Prop)
    (hm : ∀ j v H1 H2, Same H1 H2 → Ps j v H1 → Ps j v H2) (hp : ∀ j v H1 acc acc', H1 D = some (.lst acc) → Ps j v H1 → Ps j v (L2.upd H1 D (.lst acc'))) (hG : ∀ H', Same H H' → G H')
    (hs : ∀ i x H1 H2 (R : V → Hp → Prop), i < n → Same H H1 → Y i H1 x H2 → (∀ v H3, Same H2 H3 → Ps i v H3 → R v H3) → g x (wipe σ vs) H2 fun σ2 H3 => wipe σ2 vs = wipe σ vs ∧ te σ2 H3 R)
    (hd : ∀ (us : List V) H', us.length = n → H' D = some (.lst us) → Same H H' → (∀ j v, us[j]? = some v → Ps j v H') → Qd H') :
    ∃ W : Nat → Nat → Hp → Prop, (∃ m, W 0 m (L2.upd H D (.lst []))) ∧ ∀ i m H, W i m H →
      (J.stop i H ∧ Qd H) ∨ (J.go i H ∧ ∃ Nx : Hp → Prop, (∀ H', Nx H' → ∃ m', m' < m ∧ W (i + 1) m' H') ∧ ∀ x H', J.yld i H x H' → g x (wipe σ vs) H' fun σ2 H2 => wipe σ2 vs = wipe σ vs ∧ tYes σ2 H2 fun b H3 =>
        if b = true then te σ2 H3 fun y H4 => ∃ acc, H4 D = some (.lst acc) ∧ acc.length < sizeLine ∧ Nx (L2.upd H4 D (.lst (acc ++ [y]))) else Nx H3) := by
  refine lc_it w (fun i H' => ∃ us : List V, us.length = i ∧ H' D = some (.lst us) ∧ Same H H' ∧ ∀ j v, us[j]? = some v → Ps j v H') ⟨[], rfl, upd_same, upd_keep nD (Same.refl H), fun j v h => by simp at h⟩ (fun i H' _ ⟨_, _, _, s, _⟩ => hG H' s) ?_ (fun H' ⟨us, l, e, s, p⟩ => hd us H' l e s p)
  rintro i x H1 H2 hi ⟨us, hl, e, s, p⟩ y
  refine hs i x H1 H2 _ hi s y fun v H3 s3 pv => ?_
  have s2 := hY _ _ _ _ y
  have e3 := s3 _ _ (s2 _ _ e)
  refine ⟨us, e3, by omega, us ++ [v], by rw [List.length_append, hl]; rfl, upd_same, upd_keep nD (s.trans (s2.trans s3)), fun j u hj => ?_⟩
  by_cases hjl : j < us.length
  · rw [List.getElem?_append_left hjl] at hj
    exact hp _ _ _ _ _ e3 (hm _ _ _ _ (s2.trans s3) (p j u hj))
  · rw [List.getElem?_append_right (by omega)] at hj
    have ej : j = us.length := by
      by_cases hz : j - us.length = 0
      · omega
      · have : ([v] : List V)[j - us.length]? = none := List.getElem?_eq_none_iff.mpr (by simp; omega)
        rw [this] at hj
        cases hj
    subst ej
    rw [Nat.sub_self] at hj
    cases hj
    rw [hl]
    exact hp _ _ _ _ _ e3 pv
/-- a comprehension whose i-th thing is the whole number f i -/
theorem lc_ints (w : Walk J n G Y) (hY : ∀ i H x H', Y i H x H' → Same H H') {g : TG} {te : TE} {vs : List Nat} {σ : L2.St} {H : Hp} {D : Addr} {Qd : Hp → Prop} (nD : H D = none) (hn : n < sizeLine) (f : Nat → Int) (hG : ∀ H', Same H H' → G H')
    (hs : ∀ i x H1 H2 (R : V → Hp → Prop), i < n → Same H H1 → Y i H1 x H2 → (∀ H3, Same H2 H3 → R (.int (f i)) H3) → g x (wipe σ vs) H2 fun σ2 H3 => wipe σ2 vs = wipe σ vs ∧ te σ2 H3 R)
    (hd : ∀ H', H' D = some (.lst (((List.range n).map f).map V.int)) → Same H H' → Qd H') :
    ∃ W : Nat → Nat → Hp → Prop, (∃ m, W 0 m (L2.upd H D (.lst []))) ∧ ∀ i m H, W i m H →
      (J.stop i H ∧ Qd H) ∨ (J.go i H ∧ ∃ Nx : Hp → Prop, (∀ H', Nx H' → ∃ m', m' < m ∧ W (i + 1) m' H') ∧ ∀ x H', J.yld i H x H' → g x (wipe σ vs) H' fun σ2 H2 => wipe σ2 vs = wipe σ vs ∧ tYes σ2 H2 fun b H3 =>
        if b = true then te σ2 H3 fun y H4 => ∃ acc, H4 D = some (.lst acc) ∧ acc.length < sizeLine ∧ Nx (L2.upd H4 D (.lst (acc ++ [y]))) else Nx H3) := by
  refine lc_all w hY nD hn (fun i v _ => v = .int (f i)) (fun _ _ _ _ _ h => h) (fun _ _ _ _ _ _ h => h) hG (fun i x H1 H2 R hi s y k => hs i x H1 H2 R hi s y fun H3 s3 => k _ H3 s3 rfl) fun us H' l e s p => ?_
  have eu : us = ((List.range n).map f).map V.int := by
    refine List.ext_getElem? fun j => ?_
    by_cases hj : j < us.length
    · have h1 := List.getElem?_eq_getElem hj
      rw [h1, p j _ h1]
      rw [List.getElem?_map, List.getElem?_map, List.getElem?_range (by omega)]
      rfl
    · rw [List.getElem?_eq_none_iff.mpr (by omega), List.getElem?_eq_none_iff.mpr (by simp; omega)]
  subst eu
  exact hd H' e s
end
theorem yFn_same {f : Nat → V} : ∀ i H x H', YFn f i H x H' → Same H H' := fun _ _ _ _ h => by rw [h.1]; exact Same.refl _
theorem yAt_same {xs : List V} : ∀ i H x H', YAt xs i H x H' → Same H H' := fun _ _ _ _ h => by rw [h.1]; exact Same.refl _
theorem yPair_same {xs ys : Nat → Option V} : ∀ i H x H', YPair xs ys i H x H' → Same H H' := by
  rintro i H x H' ⟨T, a, b, rfl, nT, rfl, _⟩
  exact upd_keep nT (Same.refl H)
/-! ### lists of whole numbers, compared -/
theorem dps_ints {K : PySem.W.Frag} {H : Hp} : ∀ ns : List Int, DpAll K H (ns.map V.int) (ns.map PyData.int)
  | [] => .nil
  | n :: ns => .cons (.int n) (dps_ints ns)
theorem dp_ints {K : PySem.W.Frag} {H : Hp} {a : Addr} {ns : List Int} (h : H a = some (.lst (ns.map V.int))) : Dp K H (.ref a) (.list (ns.map PyData.int)) := .lst (SqL.of h) (dps_ints ns)
theorem lay_ints : ∀ ns : List Int, PyData.canLayAll0 (ns.map PyData.int) = true
  | [] => rfl
  | n :: ns => by
    rw [List.map_cons, PyData.canLayAll0, lay_ints ns]
    rfl
theorem dep_ints : ∀ ns : List Int, PyData.depthAll (ns.map PyData.int) ≤ 1
  | [] => by simp [PyData.depthAll]
  | n :: ns => by
    have h := dep_ints ns
    simp only [List.map_cons, PyData.depthAll, PyData.depth]
    omega
theorem sh_ints (ns : List Int) : SeqAt.shaped (.list (ns.map PyData.int)) = true := by
  have h := dep_ints ns
  show (PyData.canLay0 (.list (ns.map PyData.int)) && decide (PyData.depth (.list (ns.map PyData.int)) ≤ 64)) = true
  rw [Bool.and_eq_true]
  refine ⟨by simp only [PyData.canLay0]; exact lay_ints ns, decide_eq_true ?_⟩
  simp only [PyData.depth]
  omega
theorem eqv_intL (ns : List Int) : PyData.eqv (.list (ns.map PyData.int)) (.list (ns.map PyData.int)) = true := SeqAt.eqv_refl _ (by simp only [PyData.canLay0]; exact lay_ints ns)
/-! ### steps from each to the next -/
def stp (f : Nat → Int) (n : Nat) : List Int := (List.range n).map fun i => f (i + 1) - f i
theorem stp_sum (f : Nat → Int) : ∀ n, (stp f n).sum = f n - f 0
  | 0 => by simp [stp]
  | n + 1 => by
    have h := stp_sum f n
    unfold stp at *
    rw [List.range_succ, List.map_append, List.sum_append, h]
    simp
    omega
end MM
namespace MM
open PySem PySem.Spec PyProof.Rows L2
/-! ### sep.join(reversed(xs)) -/
theorem strs_of : ∀ {zs : List Str} {l : List Value}, Vals (zs.map V.str) l → StrsAre l zs
  | [], _, h => by
    cases h
    exact .nil
  | z :: zs, _, h => by
    cases h with
    | cons a r =>
      obtain ⟨t, rfl⟩ := a
      exact .cons z t (strs_of r)
section
variable {prog : Program} {w : World} {A : Around} {E : Value → Shared → Prop} {s : Shared}
theorem join_rev {x : Str} {t : Tok} {ys : List Str} {it l : Addr} {items : Array Value} {Q : Value → Shared → Prop} (hh : A.handled = none) (hit : s.heap.IsRevIter it l ((items.size : Int) - 1)) (hl : s.heap.IsList l items) (hne : l ≠ it) (hn : items.size ≤ sizeLine)
    (hP : ∀ acc : Array Value, ItemsOf (fun i v => items[items.size - 1 - i]? = some v) acc items.size → StrsAre acc.toList ys) (hok : (ys.map (·.length)).sum + ys.length * x.length ≤ 16777216)
    (hq : ∀ (h' : Heap) (t' : Tok) (k : Nat), (∀ b o, b ≠ it → s.heap.get? b = some o → h'.get? b = some o) → Q (.str (Txt.join x ys) t') { s with heap := h', toks := k }) :
    wpAny (model prog w) A (call (.builtin "str.join") [.str x t, .ref it]) Q E s := by
  refine wpAny_call (codeAny_call_builtin F.slot_str_join.plain F.entry_str_join (F.slot_str_join.check _ _ _ _ _ _ _ _ (typeIs_str _ _ _) (F.args_str_join_2 _ _) ?_))
  rw [join_tree_other]
  refine wpAny_bind (wpAny_typeOf (Heap.IsRevIter.typeIs hit) ?_)
  show wpAny _ A.in1 ((pyIter (.ref it)).tryCatch _ >>= fun i0 => collect i0 >>= fun c0 => joinTail x c0) _ _ s
  refine wpAny_bind (wpAny_tryCatch (wpAny_pyIter_revIter hit ?_))
  refine wpAny_bind (RT.collect_rev (A := A.in1) hh hit hl hne hn fun h' tk acc hk hacc => ?_)
  obtain ⟨l0, h0, e0⟩ := strsAre_values (hP acc hacc)
  subst e0
  rw [h0]
  have fit := joinOk_of hok
  unfold JoinOk at fit
  rw [Bool.not_eq_true'] at fit
  have g : Gives (joinTail x (strValues l0)) (joinMade x l0) := by
    have g0 := gives_joinTail x l0 fit
    rcases l0 with _ | ⟨p, _ | ⟨q, r⟩⟩ <;> exact g0
  exact g prog w A (wants Q E) _ (post_join l0 ⟨joinFit_length fit, fun t' k => hq h' t' k hk⟩)
end
section
variable {X : Cx}
def tJoinRev (K : PySem.W.Frag) (to te : TE) : TE := fun σ H Q => to σ H fun x H1 => (∃ a, x = .str a) ∧ te σ H1 fun v H2 => ∃ (a : Str) (q : Addr) (ys : List Str), x = .str a ∧ v = .ref q ∧ SqL K H2 q (ys.map V.str) ∧ (ys.reverse.map (·.length)).sum + ys.reverse.length * a.length ≤ 16777216 ∧ Q (.str (Txt.join a ys.reverse)) H2
theorem pe_joinRev {o e : Expr} {to te : TE} {apos pos p pos2 : Pos} (hc : X.calm = true) (ho : PE X o to) (hg : Gl X "reversed") (hm : X.mg "reversed" = none) (he : PE X e te)
    (hs1 : starEach [.Call (.Name "reversed" p) [e] [] pos2] X.env = [(false, eval (.Call (.Name "reversed" p) [e] [] pos2) X.env)] := by rfl) (hs : starEach [e] X.env = (false, eval e X.env) :: starEach [] X.env := by rfl)
    (hbase : attributeBase o "join" X.env (eval o X.env) = eval o X.env := by rfl) (hline : (apos.endLine == pos.line) = true := by rfl) :
    PE X (.Call (.Attribute o "join" apos) [.Call (.Name "reversed" p) [e] [] pos2] [] pos) (tJoinRev X.K to te) := by
  refine ⟨fun pins s σ H Q I h => ?_⟩
  refine PySem.Call_method1 hbase hs1 hline (thn (ho.run pins s σ H _ I h) fun v s1 hh => ?_)
  obtain ⟨x, H1, I1, r1, ⟨a, rfl⟩, q1⟩ := hh
  obtain ⟨t, rfl⟩ := _root_.id r1
  refine ⟨"str", _, F.plainAttrs_str, F.slot_str_join, F.type_str_join, typeIs_str _ _ _, (fun _ e => nomatch e), Calls.callWith_builtin rfl (Calls.evalArgs_plain (Calls.spliced_cons ?_))⟩
  refine Call_ (ld_blt I1 hg hm PyProof.Rows.boot_reversed (PyProof.Rows.callWith_type1 (args_cons (thn (he.run pins s1 σ H1 _ I1 q1) fun u s2 hh => args_nil ?_) hs) hs rfl))
  obtain ⟨v, H2, I2, r2, a', q, ys, ea, rfl, hq, hz, q2⟩ := hh
  cases ea
  cases (show u = Value.ref q from r2)
  obtain ⟨its, rv, p', hsz⟩ := I2.list hq
  refine call_reversed_list p'.isList ?_
  have grow : ∀ b o, s2.heap.get? b = some o → (s2.heap.push (revObj q ((its.toArray.size : Int) - 1))).get? b = some o := fun b o z => Heap.get?_push_of_some _ z
  have I3 : Inv X pins σ H2 { s2 with heap := s2.heap.push (revObj q ((its.toArray.size : Int) - 1)) } := I2.kept (t' := s2.toks) grow
  obtain ⟨f0, f1, f2, f3, f4, f5⟩ := I2.fpOk (H' := H2) (b := s2.heap.objs.size) (Nat.le_refl _) (I2.hok.fresh (Nat.le_refl _))
  have hl := p'.isList
  obtain ⟨ol, hol, _⟩ := _root_.id hl
  have hne : q ≠ s2.heap.objs.size := Nat.ne_of_lt (Heap.lt_size hol)
  have hn : its.toArray.size ≤ sizeLine := by rw [List.size_toArray, ← rv.length]; exact hsz
  refine Calls.spliced_nil ?_
  refine join_rev (s := { s2 with heap := s2.heap.push (revObj q ((its.toArray.size : Int) - 1)) }) (ys := ys.reverse) (I2.ok.hd hc) ⟨_, Heap.get?_push_size _ rfl, rfl, rfl⟩ (hl.push _) hne hn (fun acc hacc => strs_of ?_) hz fun h' t' k hk => ?_
  · rw [List.map_reverse]
    exact RT.vals_rev rv hacc
  · exact ⟨.str _, H2, I3.turned (t' := k) (fun b o hb z => hk b o hb z) f0 f1 f3 f4 f5, ⟨t', rfl⟩, q2⟩
end
end MM
namespace MM
open PySem PySem.Spec PyProof.Rows L2
/-! ### calls of a def with defaults, which never raises -/
/-- how f(.., k = v, ..) binds where f has defaults -/
structure Kdn (x : Str) (st : Stmt) (dn n : Nat) (ks ps : List Str) (g : {α : Type} → List α → List α → List α → List α) : Prop where
  bind : ∀ (T : Addr) (kV doc pm : Value) (an : Option Addr) (cdv ct : Value) (us its ws : List Value), us.length = n → its.length = dn → ws.length = ks.length →
    ∃ k, bindArgs (PySem.W.fnOf x x (defArgs st) (defBody st) (defScope st) (.ref T) kV doc pm an cdv ct) ⟨us, ks.zip ws⟩ = seqItems? (.ref T) >>= k ∧ k (some its.toArray) = pure (ps.zip (g us its ws))
  rel : ∀ {vs ds zs : List V} {us its ws : List Value}, Vals vs us → Vals ds its → Vals zs ws → Vals (g vs ds zs) (g us its ws)
section
variable {X : Cx} {CX : CXT} {k j n d : Nat} {f : Addr} {fd : FuncData} {ps ks : List Str} {sp : Sp} {dvs : List V} {x : Str} {st : Stmt} {p pos : Pos} {e : Expr} {es : List Expr} {kws : List Keyword} {t tk : TA} {E : XK}
/-- f(e, ..): n values, the defaults from the d-th on -/
theorem pe_caD (c : Ca X.prog X.w X.K X.mg X.base CX k x st dvs ps sp) (b : Bd1 x x st ps n d dvs.length) (hd : dvs ≠ []) (hn : n + (dvs.length - d) = ps.length) (hr : Room j X.A) (hk : k ≤ j) (hx : Passes CX X E) (hg : Gl X x) (ha : PA X (e :: es) t)
    (hdb : (x == ("__debug__" : Str)) = false := by decide) (he : starEach (e :: es) X.env = (false, eval e X.env) :: starEach es X.env := by rfl) (hpl : (backTo pos (starEach es X.env)).any (·.1) = false := by rfl) :
    PE X (.Call (.Name x p) (e :: es) [] pos) (tCall sp (dvs.drop d) E t) := by
  obtain ⟨f, fd, F, hm, G⟩ := c.ex
  obtain ⟨ds, r, bb⟩ := F.binds1 n d hd hn b
  exact pe_call G (hr.mono hk) hg hm F.kp bb r hx ha hdb he hpl
theorem run_fnkP {pins : List (Addr × Obj)} {σ : L2.St} {H : Hp} {s : Shared} {Q : VK} {us ws : List Value} {vs zs : List V} {g : List Value → List Value → List Value} {gV : List V → List V → List V} (F : FnOk X.prog X.w X.K X.mg X.base CX k f fd ps sp) (hr : Room k X.A) (hb : KBn X.K fd ps n ks g gV) (hx : Passes CX X E)
    (I : Inv X pins σ H s) (r : Vals vs us) (rz : Vals zs ws) (l1 : vs.length = n) (l2 : zs.length = ks.length) (h : sp (gV vs zs) H Q E) : wpAny (model X.prog X.w) X.A (call (.ref f) us (ks.zip ws)) (EP X pins σ Q) X.xe s := by
  have r2 := hb.rel r rz
  refine wpAny_call (codeAny_mono (F.run X.A X.stack s H ⟨us, ks.zip ws⟩ (g us ws) (gV vs zs) Q _ hr I.env0 (hb.to s us ws I.kIn (r.length.symm.trans l1) (rz.length.symm.trans l2)) r2 h) fun r s' hq => ?_)
  match r, hq with
  | .error e, hq => exact hx pins σ H s e s' I hq
  | .ok (.ret u), hq => exact I.after hq
  | .ok .next, hq => exact False.elim hq
  | .ok .brk, hq => exact False.elim hq
  | .ok .cont, hq => exact False.elim hq
/-- f(e, .., k = v, ..) -/
theorem pe_caDk {g : {α : Type} → List α → List α → List α → List α} (c : Ca X.prog X.w X.K X.mg X.base CX k x st dvs ps sp) (b : Kdn x st dvs.length n ks ps g) (hd : dvs ≠ []) (hr : Room j X.A) (hk : k ≤ j) (hx : Passes CX X E) (hg : Gl X x) (ha : PA X (e :: es) t) (hkw : PK X kws tk)
    (hall : (backToKw pos (keywordEach kws X.env)).all (·.1.isSome) = true := by rfl) (hks : (backToKw pos (keywordEach kws X.env)).filterMap (·.1) = ks := by rfl) (hdb : (x == ("__debug__" : Str)) = false := by decide)
    (he : starEach (e :: es) X.env = (false, eval e X.env) :: starEach es X.env := by rfl) (hpl : ((backTo pos (starEach (e :: es) X.env)).any (·.1) || (backToKw pos (keywordEach kws X.env)).any (·.1.isNone)) = false := by rfl) :
    PE X (.Call (.Name x p) (e :: es) kws pos) (fun σ H Q => t σ H fun vs H1 => tk σ H1 fun zs H2 => vs.length = n ∧ zs.length = ks.length ∧ sp (g vs dvs zs) H2 Q E) := by
  obtain ⟨f, fd, F, hm, G⟩ := c.ex
  obtain ⟨its, hb⟩ := F.kbindsD n ks g hd b.rel b.bind
  refine ⟨fun pins s σ H Q I h => ?_⟩
  refine wpAny_Call_Name_kw (ld_glob I hg hm ?_ hdb)
  refine PySem.W.callWith_KW (h₀ := X.base) I.ok.mod.kin F.kp hall (thn (ha.run pos pins s σ H _ I h) fun us s1 ⟨vs, H1, I1, r, q⟩ => ?_) hpl he
  refine thn (hkw.run pos pins s1 σ H1 _ I1 q) fun ws s2 ⟨zs, H2, I2, rz, l1, l2, q2⟩ => ⟨I2.kIn, ?_⟩
  rw [hks]
  exact run_fnkP G (hr.mono hk) hb hx I2 r rz l1 l2 q2
/-- f(k = v, ..) -/
theorem pe_caDk0 {g : {α : Type} → List α → List α → List α → List α} (c : Ca X.prog X.w X.K X.mg X.base CX k x st dvs ps sp) (b : Kdn x st dvs.length 0 ks ps g) (hd : dvs ≠ []) (hr : Room j X.A) (hk : k ≤ j) (hx : Passes CX X E) (hg : Gl X x) (hkw : PK X kws tk)
    (hall : (backToKw pos (keywordEach kws X.env)).all (·.1.isSome) = true := by rfl) (hks : (backToKw pos (keywordEach kws X.env)).filterMap (·.1) = ks := by rfl) (hdb : (x == ("__debug__" : Str)) = false := by decide)
    (hpl : ((backTo pos (starEach [] X.env)).any (·.1) || (backToKw pos (keywordEach kws X.env)).any (·.1.isNone)) = false := by rfl) :
    PE X (.Call (.Name x p) [] kws pos) (fun σ H Q => tk σ H fun zs H2 => zs.length = ks.length ∧ sp (g [] dvs zs) H2 Q E) := by
  obtain ⟨f, fd, F, hm, G⟩ := c.ex
  obtain ⟨its, hb⟩ := F.kbindsD 0 ks g hd b.rel b.bind
  refine ⟨fun pins s σ H Q I h => ?_⟩
  refine wpAny_Call_Name_kw (ld_glob I hg hm ?_ hdb)
  refine PySem.W.callWith_KW0 (h₀ := X.base) I.ok.mod.kin F.kp hall ?_ hpl
  refine thn (hkw.run pos pins s σ H _ I h) fun ws s2 ⟨zs, H2, I2, rz, l2, q2⟩ => ⟨I2.kIn, ?_⟩
  rw [hks]
  exact run_fnkP (us := []) (vs := []) G (hr.mono hk) hb hx I2 .nil rz rfl l2 q2
end
end MM
namespace MM
open PySem PySem.Spec PyProof.Rows L2
/-! ### figures -/
def dg (d : Nat) : Nat := if d < 10 then 48 + d else 87 + d
/-- the figures, the last one first -/
def lsd (b n : Nat) : List Nat := if h : b < 2 ∨ n < b then [n] else (n % b) :: lsd b (n / b)
termination_by n
decreasing_by exact Nat.div_lt_self (by omega) (by omega)
theorem lsd_lt {b n : Nat} (h : n < b) : lsd b n = [n] := by
  rw [lsd, dif_pos (.inr h)]
theorem lsd_ge {b n : Nat} (hb : 2 ≤ b) (h : b ≤ n) : lsd b n = (n % b) :: lsd b (n / b) := by
  rw [lsd, dif_neg (by omega)]
theorem lsd_ne (b n : Nat) : lsd b n ≠ [] := by
  rw [lsd]
  split <;> simp
theorem lsd_small {b : Nat} (hb : 2 ≤ b) : ∀ (n : Nat), ∀ d ∈ lsd b n, d < b := fun n => by
  induction n using Nat.strongRecOn with
  | _ n ih =>
    intro d hd
    by_cases h : n < b
    · rw [lsd_lt h] at hd
      rw [List.mem_singleton.mp hd]
      exact h
    · rw [lsd_ge hb (by omega)] at hd
      rcases List.mem_cons.mp hd with rfl | hd
      · exact Nat.mod_lt _ (by omega)
      · exact ih (n / b) (Nat.div_lt_self (by omega) (by omega)) d hd
theorem lsd_len {b : Nat} (hb : 2 ≤ b) : ∀ (e n : Nat), n < 2 ^ e → 0 < e → (lsd b n).length ≤ e := fun e => by
  induction e with
  | zero => intro n h h0; omega
  | succ e ih =>
    intro n h h0
    by_cases hn : n < b
    · rw [lsd_lt hn]
      simp
    · rw [lsd_ge hb (by omega), List.length_cons]
      have h1 : n / b ≤ n / 2 := Nat.div_le_div_left hb (by decide)
      have h2 : n / 2 < 2 ^ e := by rw [Nat.pow_succ] at h; omega
      by_cases he : 0 < e
      · have := ih (n / b) (by omega) he
        omega
      · have e0 : e = 0 := by omega
        subst e0
        have : n / b = 0 := by omega
        rw [this, lsd_lt (by omega)]
        simp at h2 ⊢
        have hz : n / b = 0 := by omega
        have := (Nat.div_eq_zero_iff).mp hz
        omega
theorem lsd_val {b : Nat} (hb : 2 ≤ b) : ∀ n : Nat, (lsd b n).foldr (fun d a => a * b + d) 0 = n := fun n => by
  induction n using Nat.strongRecOn with
  | _ n ih =>
    by_cases h : n < b
    · rw [lsd_lt h]
      simp
    · rw [lsd_ge hb (by omega), List.foldr_cons, ih (n / b) (Nat.div_lt_self (by omega) (by omega))]
      have := Nat.div_add_mod n b
      rw [Nat.mul_comm] at this
      exact this
def sg (d : Nat) : Str := ⟨#[dg d]⟩
def txt (ds : List Nat) : Str := ⟨(ds.map dg).toArray⟩
/-- a whole number by a base -/
def numT (b : Nat) (i : Int) : Str := if i < 0 then ("-" : Str) ++ txt (lsd b i.natAbs).reverse else txt (lsd b i.natAbs).reverse
theorem str_ext {x y : Str} (h : x.cps.toList = y.cps.toList) : x = y := by
  cases x
  cases y
  congr
  exact Array.toList_inj.mp h
theorem app_cps (x y : Str) : (x ++ y).cps.toList = x.cps.toList ++ y.cps.toList := by
  show (x.cps ++ y.cps).toList = _
  simp
theorem txt_cps (ds : List Nat) : (txt ds).cps.toList = ds.map dg := rfl
theorem txt_len (ds : List Nat) : (txt ds).length = ds.length := by
  show ((ds.map dg).toArray).size = _
  simp
theorem dash_cps : ("-" : Str).cps.toList = [45] := by decide +kernel
theorem sg_txt (d : Nat) (ds : List Nat) : sg d ++ txt ds = txt (d :: ds) := str_ext (by
  rw [app_cps]
  rfl)
theorem nil_txt : ("" : Str) = txt [] := str_ext (by decide +kernel)
theorem dg_ne {d : Nat} (h : d < 16) : dg d ≠ 45 := by
  unfold dg
  split <;> omega
def FIG : Str := "0123456789abcdef"
theorem fig_len : FIG.length = 16 := by decide +kernel
theorem fig_at {d : Nat} (h : d < 16) : atI FIG.cps.toList (d : Int) = some (dg d) := by
  have : ∀ d : Fin 16, atI FIG.cps.toList ((d.val : Nat) : Int) = some (dg d.val) := by decide +kernel
  exact this ⟨d, h⟩
theorem fig_find {d : Nat} (h : d < 16) : Txt.find FIG (sg d) = (d : Int) := by
  have : ∀ d : Fin 16, Txt.find FIG (sg d.val) = ((d.val : Nat) : Int) := by decide +kernel
  exact this ⟨d, h⟩
theorem glued_nil : ∀ (ps : List Str) (acc : Array Nat), (ps.foldl (fun acc p => acc ++ ("" : Str).cps ++ p.cps) acc).toList = acc.toList ++ (ps.map fun p => p.cps.toList).flatten
  | [], acc => by simp
  | p :: ps, acc => by
    rw [List.foldl_cons, glued_nil ps]
    have e : ("" : Str).cps = #[] := by decide +kernel
    rw [e]
    simp
theorem join_nil (ps : List Str) : (Txt.join ("" : Str) ps).cps.toList = (ps.map fun p => p.cps.toList).flatten := by
  show (((ps.drop 1).foldl (fun acc p => acc ++ ("" : Str).cps ++ p.cps) (ps.headD Str.empty).cps)).toList = _
  cases ps with
  | nil => rfl
  | cons p ps =>
    show ((ps.foldl (fun acc p => acc ++ ("" : Str).cps ++ p.cps) p.cps)).toList = _
    rw [glued_nil]
    simp
theorem flat_sg : ∀ ds : List Nat, ((ds.map sg).map fun p => p.cps.toList).flatten = ds.map dg
  | [] => rfl
  | d :: ds => by
    rw [List.map_cons, List.map_cons, List.flatten_cons, flat_sg ds]
    rfl
theorem join_sg (ds : List Nat) : Txt.join ("" : Str) ((ds.map sg).reverse) = txt ds.reverse := str_ext (by
  rw [join_nil, ← List.map_reverse, flat_sg]
  rfl)
theorem join_dash (ds : List Nat) : Txt.join ("" : Str) ((ds.map sg ++ [("-" : Str)]).reverse) = ("-" : Str) ++ txt ds.reverse := str_ext (by
  rw [join_nil, List.reverse_append, ← List.map_reverse, List.map_append, List.flatten_append, flat_sg, app_cps]
  rfl)
theorem sub_iff (x y : Str) : Builtin.Str.subAt x y 0 = true ↔ x.cps.toList.take y.length = y.cps.toList := by
  unfold Builtin.Str.subAt
  rw [beq_iff_eq, ← Array.toList_inj]
  simp
theorem dash_len : ("-" : Str).length = 1 := by decide +kernel
theorem not_dash {ds : List Nat} (h0 : ds ≠ []) (h : ∀ d ∈ ds, d < 16) : Builtin.Str.subAt (txt ds) ("-" : Str) 0 = false := by
  cases hb : Builtin.Str.subAt (txt ds) ("-" : Str) 0 with
  | false => rfl
  | true =>
    have := (sub_iff _ _).mp hb
    rw [dash_len, dash_cps, txt_cps] at this
    cases ds with
    | nil => exact absurd rfl h0
    | cons d ds =>
      have e : dg d = 45 := by simpa using this
      exact absurd e (dg_ne (h d (by simp)))
theorem is_dash (ds : List Nat) : Builtin.Str.subAt (("-" : Str) ++ txt ds) ("-" : Str) 0 = true := by
  rw [sub_iff, dash_len, app_cps, dash_cps]
  rfl
theorem dash_txt_len (ds : List Nat) : (("-" : Str) ++ txt ds).length = ds.length + 1 := by
  show (("-" : Str).cps ++ (txt ds).cps).size = _
  rw [Array.size_append]
  show ("-" : Str).length + (txt ds).length = _
  rw [dash_len, txt_len]
  omega
theorem rp_txt {ds : List Nat} (h0 : ds ≠ []) (h : ∀ d ∈ ds, d < 16) : Txt.removeprefix (txt ds) ("-" : Str) = txt ds := by
  unfold Txt.removeprefix
  rw [not_dash h0 h]
  rfl
theorem rp_dash (ds : List Nat) : Txt.removeprefix (("-" : Str) ++ txt ds) ("-" : Str) = txt ds := by
  unfold Txt.removeprefix
  rw [is_dash, dash_len, dash_txt_len]
  show (if (ds.length + 1 - 1 == (("-" : Str) ++ txt ds).length) = true then _ else _) = _
  rw [dash_txt_len, if_neg (by simp)]
  refine str_ext ?_
  show ((("-" : Str) ++ txt ds).cps.extract 1 (ds.length + 1)).toList = _
  have e : (("-" : Str) ++ txt ds).cps.toList = 45 :: ds.map dg := by rw [app_cps, dash_cps]; rfl
  rw [Array.toList_extract, e, txt_cps]
  simp
  exact List.take_of_length_le (by simp)
theorem sw_txt {ds : List Nat} (h0 : ds ≠ []) (h : ∀ d ∈ ds, d < 16) : Txt.startswith (txt ds) ("-" : Str) = false := by
  unfold Txt.startswith
  rw [not_dash h0 h, Bool.and_false]
theorem sw_dash (ds : List Nat) : Txt.startswith (("-" : Str) ++ txt ds) ("-" : Str) = true := by
  unfold Txt.startswith
  rw [is_dash, dash_txt_len, dash_len]
  simp
/-! ### a text once or not at all -/
theorem op_mulS {X : Cx} : OpR X (binaryOp .Mult) (fun x y H Q => ∃ (z : Str) (b : Bool), x = .str z ∧ y = .int (if b = true then 1 else 0) ∧ Q (.str (if b = true then z else Str.empty)) H) := by
  intro pins s σ H x y v u Q I rx ry h
  obtain ⟨z, b, rfl, rfl, q⟩ := h
  obtain ⟨t, rfl⟩ := rx
  obtain ⟨t', rfl⟩ := ry
  cases b with
  | false => exact P.mul_str_none (by decide) (by decide) ⟨.str Str.empty, H, I.tok _, ⟨_, rfl⟩, q⟩
  | true =>
    refine P.mul_str (by decide) (fun _ e => by simp at e) (fun _ e => by simp at e) ?_
    rw [if_neg (by decide), if_pos (by simp)]
    exact ⟨.str z, H, I, ⟨_, rfl⟩, q⟩
end MM
namespace MM
open PySem PySem.Spec PyProof.Rows L2
/-- the text by places -/
def top (i : Nat) : Stmt := PySem.Challenge.pw_meanmoon_k71_figures.main.body.getD i (.Pass ⟨0, 0, 0, 0⟩)
abbrev s_NoText_init : Stmt := inClass (top 1) 0
theorem c_NoText_init : FnScope ["self", "at"] ["self", "at"] (defScope s_NoText_init) := ⟨rfl, rfl, rfl, by decide +kernel, rfl, by decide +kernel, by decide +kernel⟩
theorem b_NoText_init : Bd "__init__" "NoText.__init__" s_NoText_init ["self", "at"] := fun _ _ _ _ _ _ us hl => match us, hl with | [_, _], _ => rfl
abbrev s_numeral : Stmt := top 4
theorem c_numeral : FnScope ["number", "base", "rest", "signs"] ["number", "base"] (defScope s_numeral) := ⟨rfl, rfl, rfl, by decide +kernel, rfl, by decide +kernel, by decide +kernel⟩
abbrev s_figures : Stmt := top 6
theorem c_figures : FnScope ["number", "base"] ["number", "base"] (defScope s_figures) := ⟨rfl, rfl, rfl, by decide +kernel, rfl, by decide +kernel, by decide +kernel⟩
abbrev s_number_in : Stmt := top 7
theorem c_number_in : FnScope ["text", "base", "number", "sign"] ["text", "base"] (defScope s_number_in) := ⟨rfl, rfl, rfl, by decide +kernel, rfl, by decide +kernel, by decide +kernel⟩
abbrev s_read_figures : Stmt := top 8
theorem c_read_figures : FnScope ["text", "base", "number"] ["text", "base"] (defScope s_read_figures) := ⟨rfl, rfl, rfl, by decide +kernel, rfl, by decide +kernel, by decide +kernel⟩
abbrev s_l_draws : Stmt := top 10
theorem c_l_draws : FnScope ["_law_cell", "_law_cut", "_law_k"] ["_law_cell"] (defScope s_l_draws) := ⟨rfl, rfl, rfl, by decide +kernel, rfl, by decide +kernel, by decide +kernel⟩
theorem b_l_draws : Bd "_law_draws" "_law_draws" s_l_draws ["_law_cell"] := fun _ _ _ _ _ _ us hl => match us, hl with | [_], _ => rfl
abbrev s_l_next : Stmt := top 11
theorem c_l_next : FnScope ["_law_draws_here", "_law_k", "_law_a_number"] ["_law_draws_here"] (defScope s_l_next) := ⟨rfl, rfl, rfl, by decide +kernel, rfl, by decide +kernel, by decide +kernel⟩
theorem b_l_next : Bd "_law_next" "_law_next" s_l_next ["_law_draws_here"] := fun _ _ _ _ _ _ us hl => match us, hl with | [_], _ => rfl
abbrev s_l_whole : Stmt := top 12
theorem c_l_whole : FnScope ["_law_told"] ["_law_told"] (defScope s_l_whole) := ⟨rfl, rfl, rfl, by decide +kernel, rfl, by decide +kernel, by decide +kernel⟩
theorem b_l_whole : Bd "_law_whole" "_law_whole" s_l_whole ["_law_told"] := fun _ _ _ _ _ _ us hl => match us, hl with | [_], _ => rfl
abbrev s_l_text : Stmt := top 13
theorem c_l_text : FnScope ["_law_a_number", "_law_a_base", "_law_left", "_law_told"] ["_law_a_number", "_law_a_base"] (defScope s_l_text) := ⟨rfl, rfl, rfl, by decide +kernel, rfl, by decide +kernel, by decide +kernel⟩
theorem b_l_text : Bd "_law_text" "_law_text" s_l_text ["_law_a_number", "_law_a_base"] := fun _ _ _ _ _ _ us hl => match us, hl with | [_, _], _ => rfl
abbrev s_l_number : Stmt := top 14
theorem c_l_number : FnScope ["_law_draws_here", "_law_a_base", "_law_pick", "_law_a_number", "_law_power", "_law_k", "_law_some"] ["_law_draws_here", "_law_a_base"] (defScope s_l_number) := ⟨rfl, rfl, rfl, by decide +kernel, rfl, by decide +kernel, by decide +kernel⟩
theorem b_l_number : Bd "_law_number" "_law_number" s_l_number ["_law_draws_here", "_law_a_base"] := fun _ _ _ _ _ _ us hl => match us, hl with | [_, _], _ => rfl
abbrev s_l_right : Stmt := top 15
theorem c_l_right : FnScope ["_law_draws_here", "_law_a_base", "_law_k", "_law_a_number", "_law_due", "_law_told", "_law_back", "_law_plain"] ["_law_draws_here"] (defScope s_l_right) := ⟨rfl, rfl, rfl, by decide +kernel, rfl, by decide +kernel, by decide +kernel⟩
theorem b_l_right : Bd "_law_right" "_law_right" s_l_right ["_law_draws_here"] := fun _ _ _ _ _ _ us hl => match us, hl with | [_], _ => rfl
abbrev s_law : Stmt := top 16
theorem c_law : FnScope ["_law_script", "_law_cell"] ["_law_script"] (defScope s_law) := ⟨rfl, rfl, rfl, by decide +kernel, rfl, by decide +kernel, by decide +kernel⟩
theorem b_law : Bd "law" "law" s_law ["_law_script"] := fun _ _ _ _ _ _ us hl => match us, hl with | [_], _ => rfl
def mu2 (i : Nat) : L2.St → Hp → Nat := fun σ _ => match σ[i]? with
  | some (some (.int b)) => b.natAbs
  | _ => 0
/-! ### the law's draws -/
theorem md {j : Int} (h : 0 < j := by decide) : 0 < j := h
/-- at l stand draws, of which at most n were taken -/
def Dr (H : Hp) (l : Addr) (n : Nat) : Prop := ∃ (d k : Int) (f : Bool), H l = some (.lst [.int d, .int k, .bl f]) ∧ 0 ≤ k ∧ k ≤ n
/-- all but what stands at l is as it was -/
def But (l : Addr) (H H' : Hp) : Prop := ∀ b o, b ≠ l → H b = some o → H' b = some o
theorem But.refl {l : Addr} {H : Hp} : But l H H := fun _ _ _ h => h
theorem But.trans {l : Addr} {H H1 H2 : Hp} (a : But l H H1) (b : But l H1 H2) : But l H H2 := fun c o hc h => b c o hc (a c o hc h)
theorem But.same {l : Addr} {H H1 : Hp} (a : Same H H1) : But l H H1 := fun c o _ h => a c o h
theorem But.upd {l : Addr} {H H1 : Hp} {p : Addr} {o : HO} (a : But l H H1) (h : H1 p = none) : But l H (upd H1 p o) := fun c u hc e => by
  rw [upd_ne (ne_of_none (a c u hc e) h)]
  exact a c u hc e
theorem But.tup {l p : Addr} {H H1 : Hp} {n : Nat} {xs : List V} (a : But l H H1) (d : Dr H l n) (h : H p = some (.tup xs)) : H1 p = some (.tup xs) := by
  obtain ⟨_, _, _, hl, _⟩ := d
  exact a _ _ (ne_of h hl (by intro z; cases z)) h
theorem But.ins {l p C dx : Addr} {H H1 : Hp} {n : Nat} {fs : List (Str × V)} (a : But l H H1) (d : Dr H l n) (h : H p = some (.ins C dx fs)) : H1 p = some (.ins C dx fs) := by
  obtain ⟨_, _, _, hl, _⟩ := d
  exact a _ _ (ne_of h hl (by intro z; cases z)) h
theorem Same.upd {H H1 : Hp} {p : Addr} {o : HO} (a : Same H H1) (h : H1 p = none) : Same H (upd H1 p o) := fun c u e => by
  rw [upd_ne (ne_of_none (a c u e) h)]
  exact a c u e
theorem Same.new {H : Hp} {p : Addr} {o : HO} (h : H p = none) : Same H (L2.upd H p o) := Same.upd (Same.refl H) h
theorem Dr.same {H H1 : Hp} {l : Addr} {n m : Nat} (d : Dr H l n) (s : Same H H1) (h : n ≤ m) : Dr H1 l m := by
  obtain ⟨d, k, f, hl, h1, h2⟩ := d
  exact ⟨d, k, f, s _ _ hl, h1, by omega⟩
theorem Dr.mono {H : Hp} {l : Addr} {n m : Nat} (d : Dr H l n) (h : n ≤ m) : Dr H l m := d.same (Same.refl H) h
theorem Dr.new {H : Hp} {l p : Addr} {n : Nat} {o : HO} (d : Dr H l n) (h : H p = none) : Dr (L2.upd H p o) l n := d.same (Same.new h) (Nat.le_refl _)
def spDraws : Sp := fun vs H Q _ => ∃ c : Int, vs = [.int c] ∧ ∀ p H', H p = none → Same H H' → Dr H' p 0 → Q (.ref p) H'
def spNext : Sp := fun vs H Q _ => ∃ (l : Addr) (n : Nat), vs = [.ref l] ∧ Dr H l n ∧ n ≤ 1000000 ∧ ∀ v H', 0 ≤ v → v < 306783369 → But l H H' → Dr H' l (n + 1) → Q (.int v) H'
section
variable {P : Program} {w : World} {K : PySem.W.Frag} {mg : Str → Option Value} {base : Heap}
theorem ok_draws (D : Df K mg "_law_draws" s_l_draws []) (hra : mg "range" = none) : Ca P w K mg base CX0 1 "_law_draws" s_l_draws [] ["_law_cell"] spDraws := by
  refine ca0 (k := 0) D c_l_draws (fun vs H Q E h => ?_) fun f cdv A outer s H vs Q E hr h => ?_
  · obtain ⟨c, rfl, _⟩ := h
    rfl
  · obtain ⟨c, rfl, q⟩ := h
    refine ⟨_, pss_cons (ps_set (i := 1) c_l_draws.nd rfl (.inl rfl) (pe_op op_pow pe_int pe_int))
      (pss_cons (ps_for PassesOwn.never rfl (pi_range1 rfl hra (pa_cons pe_int pa_nil)) (pg_name (i := 2) c_l_draws.nd rfl (.inl rfl)) (pss_one (ps_set (i := 1) c_l_draws.nd rfl (.inl rfl) (pe_op op_mulA (pv 1) (pv 1)))))
      (pss_one (ps_ret (pe_lst (pa_cons (pe_op op_mod (pv 0) (pv 1)) (pa_cons pe_int (pa_cons (pe_cmpR op_ge (pv 0) (pe_op op_pow pe_int pe_int) (nomark _)) pa_nil))))))), ?_⟩
    refine ⟨_, _, rfl, rfl, ⟨by decide, by decide, by decide⟩, 7, rfl, by decide, by decide, ?_⟩
    refine for_range (n := 7) (fun i σ H' => ∃ (z : Int) (v : Option V), σ = [some (.int c), some (.int z), v] ∧ 0 < z ∧ Sz (200 * 2 ^ i) z ∧ H' = H) ⟨_, _, rfl, by decide, (by show (10 ^ 60 : Int).natAbs < 2 ^ (200 * 2 ^ 0); decide), rfl⟩ ?_ ?_
    · rintro i σ H' hi ⟨z, v, rfl, h0, hz, rfl⟩
      have l1 : 2 ^ i ≤ 2 ^ 6 := Nat.pow_le_pow_right (by decide) (by omega)
      have hz' : Sz 100000 z := hz.mono (Nat.le_trans (Nat.mul_le_mul_left 200 l1) (by decide))
      refine ⟨_, rfl, _, rfl, _, _, rfl, rfl, ⟨hz', hz'⟩, ⟨z * z, _, rfl, Int.mul_pos h0 h0, ?_, rfl⟩⟩
      exact (hz.mul hz).mono (by rw [Nat.pow_succ]; omega)
    · rintro σ H' ⟨z, v, rfl, h0, hz, rfl⟩
      refine ⟨_, rfl, _, rfl, _, _, rfl, rfl, h0, _, rfl, _, _, rfl, rfl, ⟨by decide, by decide, by decide⟩, _, _, rfl, rfl, (by show 3 ≤ sizeLine; decide), fun p hp => ?_⟩
      exact q p _ hp (Same.new hp) ⟨_, _, _, upd_same, by decide, by decide⟩
end
section
variable {P : Program} {w : World} {K : PySem.W.Frag} {mg : Str → Option Value} {base : Heap}
theorem ok_next (D : Df K mg "_law_next" s_l_next []) : Ca P w K mg base CX0 1 "_law_next" s_l_next [] ["_law_draws_here"] spNext := by
  refine ca0 (k := 0) D c_l_next (fun vs H Q E h => ?_) fun f cdv A outer s H vs Q E hr h => ?_
  · obtain ⟨l, n, rfl, _⟩ := h
    rfl
  · obtain ⟨l, n, rfl, ⟨d, k, fl, hl, k0, k1⟩, hn, q⟩ := h
    refine ⟨_, pss_cons (ps_asg (pe_op op_add (pe_ix ix_list (pv 0) pe_int (fun _ _ => rfl)) pe_int) (pg_sub (pv 0) pe_int set_list))
      (pss_cons (ps_set (i := 1) c_l_next.nd rfl (.inl rfl) (pe_ix ix_list (pv 0) pe_int (fun _ _ => rfl)))
      (pss_cons (ps_if (pt_val (pe_ix ix_list (pv 0) pe_int (fun _ _ => rfl)))
        (pss_cons (ps_set (i := 2) c_l_next.nd rfl (.inl rfl) (pe_op op_mod (pe_ix ix_list (pv 0) pe_int (fun _ _ => rfl)) (pe_op op_pow pe_int pe_int)))
        (pss_cons (ps_asg (pe_op op_fdiv (pe_ix ix_list (pv 0) pe_int (fun _ _ => rfl)) (pe_op op_pow pe_int pe_int)) (pg_sub (pv 0) pe_int set_list))
        (pss_one (ps_ret (pv 2))))) pss_nil)
      (pss_cons (ps_set (i := 2) c_l_next.nd rfl (.inl rfl) (pe_op op_mod (pe_op op_mul (pe_op op_add (pe_op op_add (pe_op op_mod (pe_ix ix_list (pv 0) pe_int (fun _ _ => rfl)) pe_int) (pe_op op_mul (pe_op op_mul (pv 1) (pv 1)) pe_int)) (pv 1)) pe_int) pe_int))
      (pss_cons (ps_set (i := 2) c_l_next.nd rfl (.inl rfl) (pe_op op_mod (pe_op op_mul (pv 2) (pv 2)) pe_int))
      (pss_one (ps_ret (pe_op op_fdiv (pe_op op_mod (pe_op op_mul (pv 2) (pe_op op_add (pv 2) pe_int)) pe_int) pe_int))))))), ?_⟩
    refine ⟨_, rfl, l, _, _, _, rfl, rfl, SqL.of hl, rfl, _, _, rfl, rfl, _, rfl, l, _, _, _, rfl, rfl, hl, rfl, ?_⟩
    refine ⟨_, rfl, l, _, _, _, rfl, rfl, SqL.of upd_same, rfl, ?_⟩
    refine ⟨_, rfl, l, _, _, _, rfl, rfl, SqL.of upd_same, rfl, _, rfl, ?_⟩
    cases fl with
    | true =>
      refine iteT ?_
      refine ⟨_, rfl, l, _, _, _, rfl, rfl, SqL.of upd_same, rfl, _, _, rfl, rfl, ⟨by decide, by decide, by decide⟩, _, _, rfl, rfl, md, ?_⟩
      refine ⟨_, rfl, l, _, _, _, rfl, rfl, SqL.of upd_same, rfl, _, _, rfl, rfl, ⟨by decide, by decide, by decide⟩, _, _, rfl, rfl, ⟨by decide, by decide⟩, _, rfl, l, _, _, _, rfl, rfl, upd_same, rfl, ?_⟩
      refine ⟨_, rfl, ?_⟩
      have h1 := Int.emod_nonneg d (show (1000000 : Int) ≠ 0 by decide)
      have h2 := Int.emod_lt_of_pos d (show (0 : Int) < 1000000 by decide)
      refine q (d % 1000000) _ h1 (by omega) (fun b o hb e => ?_) ⟨_, _, _, upd_same, by omega, by omega⟩
      rw [upd_ne hb, upd_ne hb]
      exact e
    | false =>
      refine iteF ?_
      have g1 := Int.emod_nonneg ((d % 1000003 + (k + 1) * (k + 1) * 7919 + (k + 1)) * 48271) (show (2147483629 : Int) ≠ 0 by decide)
      have g2 := Int.emod_lt_of_pos ((d % 1000003 + (k + 1) * (k + 1) * 7919 + (k + 1)) * 48271) (show (0 : Int) < 2147483629 by decide)
      refine ⟨_, rfl, l, _, _, _, rfl, rfl, SqL.of upd_same, rfl, _, _, rfl, rfl, md, _, rfl, _, rfl, _, _, rfl, rfl, .inl ⟨by omega, by omega⟩, _, _, rfl, rfl, .inr ⟨by decide, by decide⟩, _, _, rfl, rfl, _, rfl, _, _, rfl, rfl, _, _, rfl, rfl, .inr ⟨by decide, by decide⟩, _, _, rfl, rfl, md, ?_⟩
      refine ⟨_, rfl, _, rfl, _, _, rfl, rfl, .inl ⟨Int.lt_of_lt_of_le (by decide) g1, Int.lt_trans g2 (by decide)⟩, _, _, rfl, rfl, md, ?_⟩
      generalize hz : ((d % 1000003 + (k + 1) * (k + 1) * 7919 + (k + 1)) * 48271 % 2147483629) * ((d % 1000003 + (k + 1) * (k + 1) * 7919 + (k + 1)) * 48271 % 2147483629) = z
      have i1 := Int.emod_nonneg z (show (2147483587 : Int) ≠ 0 by decide)
      have i2 := Int.emod_lt_of_pos z (show (0 : Int) < 2147483587 by decide)
      refine ⟨_, rfl, _, rfl, _, _, rfl, rfl, _, _, rfl, rfl, .inl ⟨Int.lt_of_lt_of_le (by decide) i1, Int.lt_trans i2 (by decide)⟩, _, _, rfl, rfl, md, _, _, rfl, rfl, ⟨by decide, by decide⟩, ?_⟩
      have j1 := Int.emod_nonneg (z % 2147483587 * (z % 2147483587 + 2)) (show (2147483579 : Int) ≠ 0 by decide)
      have j2 := Int.emod_lt_of_pos (z % 2147483587 * (z % 2147483587 + 2)) (show (0 : Int) < 2147483579 by decide)
      refine q (z % 2147483587 * (z % 2147483587 + 2) % 2147483579 / 7) _ (by omega) (by omega) (fun b o hb e => ?_) ⟨_, _, _, upd_same, by omega, by omega⟩
      rw [upd_ne hb]
      exact e
end
/-! ### figures of numbers -/
def spNum : Sp := fun vs H Q _ => ∃ (i : Int) (b : Nat), vs = [.int i, .int (b : Int)] ∧ 2 ≤ b ∧ b ≤ 16 ∧ Sz 200 i ∧ ∀ H', Same H H' → Q (.str (numT b i)) H'
theorem numT_len {b : Nat} {i : Int} (hb : 2 ≤ b) (h : Sz 200 i) : (numT b i).length ≤ 201 := by
  have h1 := lsd_len hb 200 i.natAbs h (by decide)
  unfold numT
  split
  · rw [dash_txt_len, List.length_reverse]
    omega
  · rw [txt_len, List.length_reverse]
    omega
theorem abs_nat (i : Int) : (if i < 0 then -i else i) = ((i.natAbs : Nat) : Int) := by
  split <;> omega
theorem sum_one : ∀ ds : List Nat, ((ds.map sg).map (·.length)).sum = ds.length
  | [] => rfl
  | d :: ds => by
    rw [List.map_cons, List.map_cons, List.sum_cons, sum_one ds, List.length_cons]
    show 1 + _ = _
    omega
theorem len_sg {ds : List Nat} (h : ds.length ≤ 200) : ((ds.map sg).reverse.map (·.length)).sum + (ds.map sg).reverse.length * ("" : Str).length ≤ 16777216 := by
  have e : ("" : Str).length = 0 := by decide +kernel
  rw [e, Nat.mul_zero, ← List.map_reverse, sum_one, List.length_reverse]
  omega
theorem len_dash {ds : List Nat} (h : ds.length ≤ 200) : ((ds.map sg ++ [("-" : Str)]).reverse.map (·.length)).sum + (ds.map sg ++ [("-" : Str)]).reverse.length * ("" : Str).length ≤ 16777216 := by
  have e : ("" : Str).length = 0 := by decide +kernel
  rw [e, Nat.mul_zero, List.reverse_append, List.map_append, List.sum_append, ← List.map_reverse, sum_one, List.length_reverse]
  have e2 : (List.map (fun x : Str => x.length) [("-" : Str)].reverse).sum = 1 := by decide +kernel
  rw [e2]
  omega
theorem szb {b n : Nat} (h : b ≤ 16) (hn : 5 ≤ n) : Sz n ((b : Nat) : Int) := Nat.lt_of_lt_of_le (show ((b : Nat) : Int).natAbs < 2 ^ 5 by omega) (Nat.pow_le_pow_right (by decide) hn)
section
variable {P : Program} {w : World} {K : PySem.W.Frag} {mg : Str → Option Value} {base : Heap}
theorem ok_num (D : Df K mg "numeral" s_numeral [.int 10]) {tk : Tok} (h_FIGURES : mg "FIGURES" = some (.str FIG tk)) (g_abs : mg "abs" = none) (g_reversed : mg "reversed" = none) : Ca P w K mg base CX0 1 "numeral" s_numeral [.int 10] ["number", "base"] spNum := by
  refine ca0 (k := 0) D c_numeral (fun vs H Q E h => ?_) fun f cdv A outer s H vs Q E hr h => ?_
  · obtain ⟨i, b, rfl, _⟩ := h
    rfl
  · obtain ⟨i, b, rfl, h2, h16, zi, q⟩ := h
    refine ⟨_, (pss_cons (ps_set (i := 2) c_numeral.nd rfl (.inl rfl) (pe_callB call_abs rfl g_abs (by decide +kernel) (pa_cons (pv 0) pa_nil)))
      (pss_cons (ps_set (i := 3) c_numeral.nd rfl (.inl rfl) (pe_lst (pa_cons (pe_ix ix_str (pe_glob (v := .str FIG) rfl h_FIGURES ⟨_, rfl⟩) (pe_op op_mod (pv 2) (pv 1)) (fun _ _ => rfl)) pa_nil)))
      (pss_cons (ps_while PassesOwn.never (pt_cmpR op_ge (pv 2) (pv 1) (nomark _)) (pss_cons (ps_set (i := 2) c_numeral.nd rfl (.inl rfl) (pe_op op_fdivA (pv 2) (pv 1)))
      (pss_one (ps_expr (pe_bm PySem.F.plainAttrs_list PySem.F.slot_list_append PySem.F.type_list_append mt_append (pv 3) (pa_cons (pe_ix ix_str (pe_glob (v := .str FIG) rfl h_FIGURES ⟨_, rfl⟩) (pe_op op_mod (pv 2) (pv 1)) (fun _ _ => rfl)) pa_nil))))))
      (pss_cons (ps_if (pt_cmpR op_lt (pv 0) pe_int (nomark _)) (pss_one (ps_expr (pe_bm PySem.F.plainAttrs_list PySem.F.slot_list_append PySem.F.type_list_append mt_append (pv 3) (pa_cons pe_str pa_nil)))) pss_nil)
      (pss_one (ps_ret (pe_joinRev rfl pe_str rfl g_reversed (pv 3)))))))), ?_⟩
    have hl := lsd_len h2 200 i.natAbs zi (by decide)
    have hb0 : (0 : Int) < (b : Int) := by omega
    have md' : ∀ r : Nat, ((r : Nat) : Int) % (b : Int) = ((r % b : Nat) : Int) := fun r => (Int.natCast_emod r b).symm
    have dv' : ∀ r : Nat, ((r : Nat) : Int).fdiv (b : Int) = ((r / b : Nat) : Int) := fun r => by
      rw [Int.fdiv_eq_ediv_of_nonneg _ (by omega)]
      exact (Int.natCast_ediv r b).symm
    have lt16 : ∀ r : Nat, r % b < 16 := fun r => Nat.lt_of_lt_of_le (Nat.mod_lt _ (by omega)) h16
    have fa : ∀ r : Nat, atI FIG.cps.toList (((r : Nat) : Int) % (b : Int)) = some (dg (r % b)) := fun r => by
      rw [md']
      exact fig_at (lt16 r)
    have fl : FIG.length ≤ sizeLine := by rw [fig_len]; decide
    refine ⟨_, rfl, i, rfl, ?_⟩
    rw [abs_nat]
    refine ⟨_, rfl, _, rfl, _, _, rfl, rfl, hb0, FIG, _, dg (i.natAbs % b), rfl, rfl, fl, fa _, (by show 1 ≤ sizeLine; decide), fun l nl => ?_⟩
    have e0 : ([V.str ⟨#[dg (i.natAbs % b)]⟩] : List V) = ((([] : List Nat) ++ [i.natAbs % b]).map sg).map V.str := rfl
    rw [e0]
    refine while_by (fun σ H' => ∃ (pre : List Nat) (r : Nat), σ = [some (.int i), some (.int (b : Int)), some (.int ((r : Nat) : Int)), some (.ref l)] ∧ pre ++ lsd b r = lsd b i.natAbs ∧ H' = L2.upd H l (.lst (((pre ++ [r % b]).map sg).map V.str))) (mu2 2) ⟨[], i.natAbs, rfl, rfl, rfl⟩ ?_ (fun σ H' R R' hq ⟨v, h1, v2, h12, a, c, h2, h3, k, h4, h5⟩ => ⟨v, h1, v2, h12, a, c, h2, h3, k, h4, hq _ _ h5⟩)
    rintro σ H' ⟨pre, r, rfl, hp, rfl⟩
    refine ⟨_, rfl, _, rfl, _, _, rfl, rfl, _, rfl, ?_⟩
    have plen : (pre ++ [r % b]).length ≤ 200 := by
      have h3 : (pre ++ lsd b r).length ≤ 200 := by rw [hp]; exact hl
      have h4 : 0 < (lsd b r).length := List.length_pos_iff.mpr (lsd_ne b r)
      rw [List.length_append] at h3 ⊢
      simp only [List.length_singleton]
      omega
    by_cases hr' : b ≤ r
    · rw [decide_eq_true (show ((r : Nat) : Int) ≥ (b : Int) by omega)]
      refine iteT ?_
      refine ⟨_, rfl, _, rfl, _, _, rfl, rfl, ⟨by omega, szb h16 (by decide)⟩, ?_⟩
      rw [show (fun i j : Int => V.int (Int.fdiv i j)) ((r : Nat) : Int) (b : Int) = V.int ((r / b : Nat) : Int) from congrArg V.int (dv' r)]
      refine ⟨_, rfl, .inl ⟨rfl, _, SqL.of upd_same⟩, _, rfl, _, rfl, _, _, rfl, rfl, hb0, FIG, _, dg (r / b % b), rfl, rfl, fl, fa _, l, _, _, rfl, rfl, upd_same, ?_, ?_⟩
      · rw [List.length_map, List.length_map]
        exact Nat.lt_of_le_of_lt plen (by decide)
      · refine ⟨⟨pre ++ [r % b], r / b, rfl, ?_, ?_⟩, ?_⟩
        · rw [← hp, lsd_ge h2 hr', List.append_assoc]
          rfl
        · rw [upd_upd]
          congr 1
          rw [List.map_append (l₁ := pre ++ [r % b]), List.map_append (l₁ := (pre ++ [r % b]).map sg)]
          rfl
        · show (((r / b : Nat) : Int)).natAbs < (((r : Nat) : Int)).natAbs
          rw [Int.natAbs_natCast, Int.natAbs_natCast]
          exact Nat.div_lt_self (show 0 < r by omega) (show 1 < b by omega)
    · rw [decide_eq_false (show ¬ ((r : Nat) : Int) ≥ (b : Int) by omega)]
      refine iteF ?_
      have er : pre ++ [r % b] = lsd b i.natAbs := by
        rw [← hp, lsd_lt (by omega), Nat.mod_eq_of_lt (by omega)]
      rw [er]
      refine ⟨_, rfl, _, _, rfl, rfl, _, rfl, ?_⟩
      by_cases hn : i < 0
      · rw [decide_eq_true hn]
        refine iteT ?_
        refine ⟨_, rfl, .inl ⟨rfl, _, SqL.of upd_same⟩, l, _, _, rfl, rfl, upd_same, ?_, ?_⟩
        · rw [List.length_map, List.length_map]
          exact Nat.lt_of_le_of_lt hl (by decide)
        rw [upd_upd]
        have e1 : ((lsd b i.natAbs).map sg).map V.str ++ [V.str ("-" : Str)] = ((lsd b i.natAbs).map sg ++ [("-" : Str)]).map V.str := by
          rw [List.map_append]
          rfl
        rw [e1]
        refine ⟨⟨_, rfl⟩, _, rfl, _, l, _, rfl, rfl, SqL.of upd_same, ?_, ?_⟩
        · exact len_dash hl
        · rw [join_dash]
          have q2 := q _ (Same.new (o := .lst (((lsd b i.natAbs).map sg ++ [("-" : Str)]).map V.str)) nl)
          unfold numT at q2
          rw [if_pos hn] at q2
          exact q2
      · rw [decide_eq_false hn]
        refine iteF ?_
        refine ⟨⟨_, rfl⟩, _, rfl, _, l, _, rfl, rfl, SqL.of upd_same, ?_, ?_⟩
        · exact len_sg hl
        · rw [join_sg]
          have q2 := q _ (Same.new (o := .lst (((lsd b i.natAbs).map sg).map V.str)) nl)
          unfold numT at q2
          rw [if_neg hn] at q2
          exact q2
end
/-! ### numbers out of figures -/
def spNin : Sp := fun vs H Q _ => ∃ (i : Int) (b : Nat), vs = [.str (numT b i), .int (b : Int)] ∧ 2 ≤ b ∧ b ≤ 16 ∧ Sz 200 i ∧ ∀ H', Same H H' → Q (.int i) H'
/-- what the first figures write -/
def valN (b : Nat) (ds : List Nat) : Nat := ds.foldl (fun a d => a * b + d) 0
theorem valN_lsd {b : Nat} (hb : 2 ≤ b) (n : Nat) : valN b (lsd b n).reverse = n := by
  unfold valN
  rw [List.foldl_reverse]
  exact lsd_val hb n
theorem valN_app (b : Nat) (ds : List Nat) (d : Nat) : valN b (ds ++ [d]) = valN b ds * b + d := by
  unfold valN
  rw [List.foldl_append]
  rfl
theorem valN_le {b : Nat} (hb : 1 ≤ b) : ∀ (es ds : List Nat), valN b ds ≤ valN b (ds ++ es)
  | [], ds => by simp
  | e :: es, ds => by
    have h := valN_le hb es (ds ++ [e])
    rw [valN_app, List.append_assoc] at h
    have h2 := Nat.le_mul_of_pos_right (valN b ds) hb
    exact Nat.le_trans (Nat.le_trans h2 (Nat.le_add_right _ _)) h
section
variable {P : Program} {w : World} {K : PySem.W.Frag} {mg : Str → Option Value} {base : Heap}
theorem ok_nin (D : Df K mg "number_in" s_number_in [.int 10]) {tk : Tok} (h_FIGURES : mg "FIGURES" = some (.str FIG tk)) : Ca P w K mg base CX0 1 "number_in" s_number_in [.int 10] ["text", "base"] spNin := by
  refine ca0 (k := 0) D c_number_in (fun vs H Q E h => ?_) fun f cdv A outer s H vs Q E hr h => ?_
  · obtain ⟨i, b, rfl, _⟩ := h
    rfl
  · obtain ⟨i, b, rfl, h2, h16, zi, q⟩ := h
    refine ⟨_, (pss_cons (ps_set (i := 2) c_number_in.nd rfl (.inl rfl) pe_int)
      (pss_cons (ps_for PassesOwn.never rfl (pi_str (pe_m1 PySem.F.slot_str_removeprefix PySem.F.type_str_removeprefix mt_removeprefix (pv 0) pe_str)) (pg_name (i := 3) c_number_in.nd rfl (.inl rfl)) (pss_one (ps_set (i := 2) c_number_in.nd rfl (.inl rfl) (pe_op op_add (pe_op op_mulA (pv 2) (pv 1)) (pe_m1 PySem.F.slot_str_find PySem.F.type_str_find mt_find (pe_glob (v := .str FIG) rfl h_FIGURES ⟨_, rfl⟩) (pv 3))))))
      (pss_one (ps_ret (pe_ifExp (pt_val (pe_m1 PySem.F.slot_str_startswith PySem.F.type_str_startswith mt_startswith (pv 0) pe_str)) (pe_un un_neg (pv 2)) (pv 2)))))), ?_⟩
    have hl := lsd_len h2 200 i.natAbs zi (by decide)
    have sm : ∀ d ∈ (lsd b i.natAbs).reverse, d < 16 := fun d hd => Nat.lt_of_lt_of_le (lsd_small h2 _ d (List.mem_reverse.mp hd)) h16
    have ne0 : (lsd b i.natAbs).reverse ≠ [] := fun z => lsd_ne b i.natAbs (List.reverse_eq_nil_iff.mp z)
    have rp : Txt.removeprefix (numT b i) ("-" : Str) = txt (lsd b i.natAbs).reverse := by
      unfold numT
      split
      · exact rp_dash _
      · exact rp_txt ne0 sm
    have sw : Txt.startswith (numT b i) ("-" : Str) = decide (i < 0) := by
      unfold numT
      split
      · next h => rw [sw_dash, decide_eq_true h]
      · next h => rw [sw_txt ne0 sm, decide_eq_false h]
    have ll : (numT b i).length ≤ sizeLine := Nat.le_trans (numT_len h2 zi) (by decide)
    refine ⟨_, rfl, ⟨_, rfl⟩, numT b i, _, rfl, rfl, ll, _, rfl, ?_⟩
    rw [rp]
    generalize hds : (lsd b i.natAbs).reverse = ds at *
    have vd : valN b ds = i.natAbs := by rw [← hds]; exact valN_lsd h2 _
    refine for_it (walk_str (z := txt ds)) (fun j σ H' => ∃ v3 : Option V, σ = [some (.str (numT b i)), some (.int (b : Int)), some (.int ((valN b (ds.take j) : Nat) : Int)), v3] ∧ H' = H) ⟨_, rfl, rfl⟩ (fun _ _ _ _ _ => trivial) ?_ ?_
    · rintro j x σ H' H2 hj ⟨v3, rfl, rfl⟩ ⟨rfl, c, hc, rfl⟩
      have hj' : j < ds.length := by
        have : (txt ds).cps.size = ds.length := txt_len ds
        omega
      have ec : c = dg ds[j] := by
        have e1 : (txt ds).cps[j]? = some (dg ds[j]) := by
          show ((ds.map dg).toArray)[j]? = _
          simp [hj']
        rw [e1] at hc
        exact (Option.some.inj hc).symm
      subst ec
      have dl : ds[j] < 16 := sm _ (List.getElem_mem hj')
      have vz : Sz 201 ((valN b (ds.take j) : Nat) : Int) := by
        have h3 := valN_le (b := b) (by omega) (ds.drop j) (ds.take j)
        rw [List.take_append_drop, vd] at h3
        exact Nat.lt_of_le_of_lt h3 (Nat.lt_trans zi (Nat.pow_lt_pow_right (by decide) (by decide)))
      refine ⟨_, rfl, _, rfl, _, _, rfl, rfl, ⟨vz.mono (by decide), szb h16 (by decide)⟩, ⟨_, rfl⟩, _, rfl, FIG, sg ds[j], rfl, rfl, _, _, rfl, rfl, ?_⟩
      refine ⟨some (.str ⟨#[dg ds[j]]⟩), ?_, rfl⟩
      rw [fig_find dl]
      show [_, _, some (V.int (((valN b (ds.take j) : Nat) : Int) * (b : Int) + ((ds[j] : Nat) : Int))), _] = _
      rw [← List.take_append_getElem hj', valN_app]
      push_cast
      rfl
    · rintro σ H' ⟨v3, rfl, rfl⟩
      have et : ds.take (txt ds).cps.size = ds := by
        have : (txt ds).cps.size = ds.length := txt_len ds
        rw [this, List.take_length]
      rw [et, vd]
      refine ⟨_, rfl, ⟨_, rfl⟩, numT b i, _, rfl, rfl, _, rfl, ?_⟩
      rw [sw]
      by_cases hn : i < 0
      · rw [decide_eq_true hn]
        refine iteT ⟨_, rfl, _, rfl, ?_⟩
        have e : -((i.natAbs : Nat) : Int) = i := by omega
        show Q (V.int (-((i.natAbs : Nat) : Int))) _
        rw [e]
        exact q _ (Same.refl _)
      · rw [decide_eq_false hn]
        refine iteF ⟨_, rfl, ?_⟩
        have e : ((i.natAbs : Nat) : Int) = i := by omega
        rw [e]
        exact q _ (Same.refl _)
theorem bd_numeral2 : Bd1 "numeral" "numeral" s_numeral ["number", "base"] 2 1 1 := fun _ _ _ _ _ _ _ us its hu hi => match us, hu, its, hi with | [_, _], _, [_], _ => ⟨_, rfl, rfl⟩
theorem bd_number_in2 : Bd1 "number_in" "number_in" s_number_in ["text", "base"] 2 1 1 := fun _ _ _ _ _ _ _ us its hu hi => match us, hu, its, hi with | [_, _], _, [_], _ => ⟨_, rfl, rfl⟩
theorem ok_figs (D : Df K mg "figures" s_figures [.int 10]) (f_numeral : Ca P w K mg base CX0 1 "numeral" s_numeral [.int 10] ["number", "base"] spNum) : Ca P w K mg base CX0 2 "figures" s_figures [.int 10] ["number", "base"] spNum := by
  refine ca0 (k := 1) D c_figures (fun vs H Q E h => ?_) fun f cdv A outer s H vs Q E hr h => ?_
  · obtain ⟨i, b, rfl, _⟩ := h
    rfl
  · obtain ⟨i, b, rfl, h2, h16, zi, q⟩ := h
    refine ⟨_, (pss_one (ps_ret (pe_caD f_numeral bd_numeral2 (by decide) rfl hr (by decide) pass0 rfl (pa_cons (pv 0) (pa_cons (pv 1) pa_nil))))), ?_⟩
    exact ⟨_, rfl, _, rfl, i, b, rfl, h2, h16, zi, q⟩
theorem ok_rfigs (D : Df K mg "read_figures" s_read_figures [.int 10]) (f_numeral : Ca P w K mg base CX0 1 "numeral" s_numeral [.int 10] ["number", "base"] spNum) (f_number_in : Ca P w K mg base CX0 1 "number_in" s_number_in [.int 10] ["text", "base"] spNin) : Ca P w K mg base CX0 2 "read_figures" s_read_figures [.int 10] ["text", "base"] spNin := by
  refine ca0 (k := 1) D c_read_figures (fun vs H Q E h => ?_) fun f cdv A outer s H vs Q E hr h => ?_
  · obtain ⟨i, b, rfl, _⟩ := h
    rfl
  · obtain ⟨i, b, rfl, h2, h16, zi, q⟩ := h
    refine ⟨_, (pss_cons (ps_set (i := 2) c_read_figures.nd rfl (.inl rfl) (pe_caD f_number_in bd_number_in2 (by decide) rfl hr (by decide) pass0 rfl (pa_cons (pv 0) (pa_cons (pv 1) pa_nil))))
      (pss_cons (ps_if (pt_cmpR op_ne (pe_caD f_numeral bd_numeral2 (by decide) rfl hr (by decide) pass0 rfl (pa_cons (pv 2) (pa_cons (pv 1) pa_nil))) (pv 0) (nomark _)) (pss_one ps_never) pss_nil)
      (pss_one (ps_ret (pv 2))))), ?_⟩
    refine ⟨_, rfl, _, rfl, i, b, rfl, h2, h16, zi, fun H1 s1 => ?_⟩
    refine ⟨_, rfl, _, rfl, i, b, rfl, h2, h16, zi, fun H2 s2 => ⟨_, rfl, rfl, _, rfl, no' (by simp) ⟨_, rfl, q H2 (s1.trans s2)⟩⟩⟩
end
/-! ### the law's own figures -/
def spWhole : Sp := fun vs H Q _ => ∃ i : Int, vs = [.int i] ∧ Q (.bl true) H
def muT : L2.St → Hp → Nat := fun σ _ => match σ[2]?, σ[3]? with
  | some (some (V.int r)), some (some (V.str z)) => r.natAbs + (if z.length = 0 then 1 else 0)
  | _, _ => 0
theorem txt_zero {L : List Nat} : (txt L).length = 0 ↔ L = [] := by
  rw [txt_len]
  exact List.length_eq_zero_iff
theorem txt_nil_iff {L : List Nat} : txt L = ("" : Str) ↔ L = [] := by
  constructor
  · intro h
    have h2 : (txt L).length = 0 := by
      rw [h]
      decide +kernel
    exact txt_zero.mp h2
  · intro h
    rw [h]
    exact nil_txt.symm
section
variable {P : Program} {w : World} {K : PySem.W.Frag} {mg : Str → Option Value} {base : Heap}
theorem ok_lwhole (D : Df K mg "_law_whole" s_l_whole []) (g_isinstance : mg "isinstance" = none) (g_int : mg "int" = none) (g_bool : mg "bool" = none) : Ca P w K mg base CX0 1 "_law_whole" s_l_whole [] ["_law_told"] spWhole := by
  refine ca0 (k := 0) D c_l_whole (fun vs H Q E h => ?_) fun f cdv A outer s H vs Q E hr h => ?_
  · obtain ⟨i, rfl, _⟩ := h
    rfl
  · obtain ⟨i, rfl, q⟩ := h
    refine ⟨_, (pss_one (ps_ret (pe_and (pe_callB call_isi rfl g_isinstance (by decide +kernel) (pa_cons (pv 0) (pa_cons (pe_bltn (v := .ty "int") rfl g_int (by decide +kernel) rfl) pa_nil))) (pe_one (pe_not (pe_callB call_isi rfl g_isinstance (by decide +kernel) (pa_cons (pv 0) (pa_cons (pe_bltn (v := .ty "bool") rfl g_bool (by decide +kernel) rfl) pa_nil)))))))), ?_⟩
    refine ⟨_, rfl, _, _, _, _, _, rfl, .ty "int", .base (.int i), kit_ty (r := true) (by decide +kernel), _, rfl, iteT ?_⟩
    refine ⟨_, rfl, _, _, _, _, _, rfl, .ty "bool", .base (.int i), kit_ty (r := false) (by decide +kernel), _, rfl, ?_⟩
    exact q
theorem ok_ltext (D : Df K mg "_law_text" s_l_text []) (g_abs : mg "abs" = none) (g_int : mg "int" = none) : Ca P w K mg base CX0 1 "_law_text" s_l_text [] ["_law_a_number", "_law_a_base"] spNum := by
  refine ca0 (k := 0) D c_l_text (fun vs H Q E h => ?_) fun f cdv A outer s H vs Q E hr h => ?_
  · obtain ⟨i, b, rfl, _⟩ := h
    rfl
  · obtain ⟨i, b, rfl, h2, h16, zi, q⟩ := h
    refine ⟨_, (pss_cons (ps_set (i := 2) c_l_text.nd rfl (.inl rfl) (pe_callB call_abs rfl g_abs (by decide +kernel) (pa_cons (pv 0) pa_nil)))
      (pss_cons (ps_set (i := 3) c_l_text.nd rfl (.inl rfl) pe_str)
      (pss_cons (ps_while PassesOwn.never (PW.pt (pw_or (pt_cmpR op_gt (pv 2) pe_int (nomark _)) (pw_or1 (pt_cmpR op_eq (pv 3) pe_str (nomark _))))) (pss_cons (ps_set (i := 3) c_l_text.nd rfl (.inl rfl) (pe_op op_add_str (pe_ix ix_str pe_str (pe_op op_mod (pv 2) (pv 1)) (fun _ _ => rfl)) (pv 3)))
      (pss_one (ps_set (i := 2) c_l_text.nd rfl (.inl rfl) (pe_op op_fdivA (pv 2) (pv 1))))))
      (pss_one (ps_ret (pe_op op_add_str (pe_op op_mulS pe_str (pe_callTy call_int1 rfl g_int (by decide +kernel) (pa_cons (pe_cmpR op_lt (pv 0) pe_int (nomark _)) pa_nil))) (pv 3))))))), ?_⟩
    have hl := lsd_len h2 200 i.natAbs zi (by decide)
    have hb0 : (0 : Int) < (b : Int) := by omega
    have dv' : ∀ r : Nat, ((r : Nat) : Int).fdiv (b : Int) = ((r / b : Nat) : Int) := fun r => by
      rw [Int.fdiv_eq_ediv_of_nonneg _ (by omega)]
      exact (Int.natCast_ediv r b).symm
    have lt16 : ∀ r : Nat, r % b < 16 := fun r => Nat.lt_of_lt_of_le (Nat.mod_lt _ (by omega)) h16
    have fa : ∀ r : Nat, atI FIG.cps.toList (((r : Nat) : Int) % (b : Int)) = some (dg (r % b)) := fun r => by
      rw [← Int.natCast_emod r b]
      exact fig_at (lt16 r)
    have fl : FIG.length ≤ sizeLine := by rw [fig_len]; decide
    refine ⟨_, rfl, i, rfl, ?_⟩
    rw [abs_nat]
    refine while_by (fun σ H' => ∃ (L : List Nat) (r : Nat), σ = [some (.int i), some (.int (b : Int)), some (.int ((r : Nat) : Int)), some (.str (txt L.reverse))] ∧ L ++ (if 0 < r ∨ L = [] then lsd b r else []) = lsd b i.natAbs ∧ H' = H) muT ⟨[], i.natAbs, ?_, ?_, rfl⟩ ?_ (fun σ H' R R' hq ⟨v, h1, a, c, h2, h3, k, h4, h5⟩ => ⟨v, h1, a, c, h2, h3, k, h4, (by
      cases k with
      | true => exact hq _ _ h5
      | false =>
        obtain ⟨v', a1, a2, k2, a3, a4⟩ := h5
        exact ⟨v', a1, a2, k2, a3, hq _ _ a4⟩)⟩)
    · show [_, _, _, some (V.str ("" : Str))] = _
      rw [nil_txt]
      rfl
    · rw [if_pos (.inr rfl)]
      rfl
    rintro σ H' ⟨L, r, rfl, hp, rfl⟩
    have body : (0 < r ∨ L = []) → (L ++ [r % b]) ++ (if 0 < r / b ∨ L ++ [r % b] = [] then lsd b (r / b) else []) = lsd b i.natAbs := fun hc => by
      rw [if_pos hc] at hp
      by_cases hr' : b ≤ r
      · rw [if_pos (.inl (Nat.div_pos hr' (by omega))), List.append_assoc, ← hp, lsd_ge h2 hr']
        rfl
      · rw [if_neg (by simp; omega), List.append_nil, ← hp, lsd_lt (by omega), Nat.mod_eq_of_lt (by omega)]
    have llen : L.length ≤ 200 := by
      have h3 : (L ++ (if 0 < r ∨ L = [] then lsd b r else [])).length ≤ 200 := by rw [hp]; exact hl
      rw [List.length_append] at h3
      omega
    have dec : ∀ (r : Nat) (L : List Nat), (0 < r ∨ L = []) → (((r / b : Nat) : Int)).natAbs + (if (txt (r % b :: L.reverse)).length = 0 then 1 else 0) < (((r : Nat) : Int)).natAbs + (if (txt L.reverse).length = 0 then 1 else 0) := fun r L hc => by
      rw [Int.natAbs_natCast, Int.natAbs_natCast, if_neg (by rw [txt_len]; simp), txt_len, List.length_reverse]
      rcases Nat.eq_zero_or_pos r with h0 | h0
      · subst h0
        rcases hc with hc | hc
        · omega
        · rw [hc]
          simp
      · have := Nat.div_lt_self h0 (show 1 < b by omega)
        omega
    refine ⟨_, rfl, _, _, rfl, rfl, _, rfl, ?_⟩
    by_cases h0 : 0 < r
    · have hc : 0 < r ∨ L = [] := .inl h0
      rw [decide_eq_true (show ((r : Nat) : Int) > 0 by omega)]
      refine iteT ?_
      refine iteT ?_
      refine ⟨_, rfl, _, rfl, _, _, rfl, rfl, hb0, FIG, _, dg (r % b), rfl, rfl, fl, fa _, _, rfl, sg (r % b), txt L.reverse, rfl, rfl, ?_, ?_⟩
      · rw [txt_len, List.length_reverse]
        exact Nat.le_trans (show (sg (r % b)).length + L.length ≤ 201 by show 1 + L.length ≤ 201; omega) (by decide)
      rw [sg_txt]
      refine ⟨_, rfl, _, rfl, _, _, rfl, rfl, ⟨by omega, szb h16 (by decide)⟩, ⟨L ++ [r % b], r / b, ?_, body hc, rfl⟩, ?_⟩
      · show [_, _, some (V.int (((r : Nat) : Int).fdiv (b : Int))), some (V.str (txt (r % b :: L.reverse)))] = _
        rw [dv', List.reverse_append]
        rfl
      · show muT [_, _, some (V.int (((r : Nat) : Int).fdiv (b : Int))), some (V.str (txt (r % b :: L.reverse)))] _ < muT [_, _, some (V.int ((r : Nat) : Int)), some (V.str (txt L.reverse))] _
        rw [dv']
        exact dec r L hc
    rw [decide_eq_false (show ¬ ((r : Nat) : Int) > 0 by omega)]
    refine iteF ?_
    refine ⟨_, rfl, rfl, _, rfl, ?_⟩
    by_cases hL : L = []
    · have hc : 0 < r ∨ L = [] := .inr hL
      rw [decide_eq_true (show V.str (txt L.reverse) = V.str ("" : Str) by rw [hL]; exact congrArg V.str nil_txt.symm)]
      refine iteT ?_
      refine ⟨_, rfl, _, rfl, _, _, rfl, rfl, hb0, FIG, _, dg (r % b), rfl, rfl, fl, fa _, _, rfl, sg (r % b), txt L.reverse, rfl, rfl, ?_, ?_⟩
      · rw [txt_len, List.length_reverse]
        exact Nat.le_trans (show (sg (r % b)).length + L.length ≤ 201 by show 1 + L.length ≤ 201; omega) (by decide)
      rw [sg_txt]
      refine ⟨_, rfl, _, rfl, _, _, rfl, rfl, ⟨by omega, szb h16 (by decide)⟩, ⟨L ++ [r % b], r / b, ?_, body hc, rfl⟩, ?_⟩
      · show [_, _, some (V.int (((r : Nat) : Int).fdiv (b : Int))), some (V.str (txt (r % b :: L.reverse)))] = _
        rw [dv', List.reverse_append]
        rfl
      · show muT [_, _, some (V.int (((r : Nat) : Int).fdiv (b : Int))), some (V.str (txt (r % b :: L.reverse)))] _ < muT [_, _, some (V.int ((r : Nat) : Int)), some (V.str (txt L.reverse))] _
        rw [dv']
        exact dec r L hc
    · rw [decide_eq_false (show ¬ V.str (txt L.reverse) = V.str ("" : Str) from fun z => hL (List.reverse_eq_nil_iff.mp (txt_nil_iff.mp (V.str.inj z))))]
      refine iteF ?_
      rw [if_neg (by simp [hL]; omega), List.append_nil] at hp
      rw [hp]
      have nl : (numT b i).length ≤ 201 := numT_len h2 zi
      refine ⟨_, rfl, _, _, rfl, rfl, .inr ⟨decide (i < 0), rfl, ("-" : Str), decide (i < 0), rfl, rfl, _, rfl, (if decide (i < 0) = true then ("-" : Str) else Str.empty), txt (lsd b i.natAbs).reverse, rfl, rfl, ?_, ?_⟩⟩
      · rw [txt_len, List.length_reverse]
        have e1 : (if decide (i < 0) = true then ("-" : Str) else Str.empty).length ≤ 1 := by
          split
          · exact Nat.le_of_eq dash_len
          · decide
        exact Nat.le_trans (show _ ≤ 201 by omega) (by decide)
      · have q2 := q _ (Same.refl _)
        unfold numT at q2
        by_cases hn : i < 0
        · rw [if_pos hn] at q2
          rw [if_pos (decide_eq_true hn)]
          exact q2
        · rw [if_neg hn] at q2
          rw [if_neg (by simpa using hn)]
          have e : Str.empty ++ txt (lsd b i.natAbs).reverse = txt (lsd b i.natAbs).reverse := str_ext (by rw [app_cps]; rfl)
          show Q (V.str (Str.empty ++ txt (lsd b i.natAbs).reverse)) _
          rw [e]
          exact q2
end
/-! ### the law's drawn numbers -/
def spNumber : Sp := fun vs H Q _ => ∃ (l : Addr) (n b : Nat), vs = [.ref l, .int (b : Int)] ∧ 2 ≤ b ∧ b ≤ 16 ∧ Dr H l n ∧ n ≤ 100000 ∧ ∀ v H', Sz 100 v → But l H H' → Dr H' l (n + 3) → Q (.int v) H'
theorem ne_of_none' {H : Hp} {l p : Addr} {n : Nat} (d : Dr H l n) (e : H p = none) : p ≠ l := by
  obtain ⟨_, _, _, h, _⟩ := d
  exact (ne_of_none h e).symm
section
variable {P : Program} {w : World} {K : PySem.W.Frag} {mg : Str → Option Value} {base : Heap}
theorem ok_lnumber (D : Df K mg "_law_number" s_l_number []) (f_l_next : Ca P w K mg base CX0 1 "_law_next" s_l_next [] ["_law_draws_here"] spNext) (g_range : mg "range" = none) : Ca P w K mg base CX0 2 "_law_number" s_l_number [] ["_law_draws_here", "_law_a_base"] spNumber := by
  refine ca0 (k := 1) D c_l_number (fun vs H Q E h => ?_) fun f cdv A outer s H vs Q E hr h => ?_
  · obtain ⟨l, n, b, rfl, _⟩ := h
    rfl
  · obtain ⟨l, n, b, rfl, h2, h16, d, hn, q⟩ := h
    refine ⟨_, (pss_cons (ps_set (i := 2) c_l_number.nd rfl (.inl rfl) (pe_ca f_l_next b_l_next hr (by decide) pass0 rfl (pa_cons (pv 0) pa_nil)))
      (pss_cons (ps_set (i := 3) c_l_number.nd rfl (.inl rfl) (pe_op op_add (pe_op op_mulA (pe_ca f_l_next b_l_next hr (by decide) pass0 rfl (pa_cons (pv 0) pa_nil)) (pe_op op_pow pe_int pe_int)) (pe_op op_mulA (pe_ca f_l_next b_l_next hr (by decide) pass0 rfl (pa_cons (pv 0) pa_nil)) (pe_op op_pow pe_int pe_int))))
      (pss_cons (ps_set (i := 4) c_l_number.nd rfl (.inl rfl) pe_int)
      (pss_cons (ps_for PassesOwn.never rfl (pi_range1 rfl g_range (pa_cons (pe_op op_mod (pe_op op_fdiv (pv 2) pe_int) pe_int) pa_nil)) (pg_name (i := 5) c_l_number.nd rfl (.inl rfl)) (pss_one (ps_set (i := 4) c_l_number.nd rfl (.inl rfl) (pe_op op_mulA (pv 4) (pv 1)))))
      (pss_cons (ps_while PassesOwn.never (pt_cmpR op_ge (pv 4) (pe_op op_sub (pe_op op_pow pe_int pe_int) pe_int) (nomark _)) (pss_one (ps_set (i := 4) c_l_number.nd rfl (.inl rfl) (pe_op op_fdivA (pv 4) (pv 1)))))
      (pss_cons (ps_set (i := 6) c_l_number.nd rfl (.inl rfl) (pe_lst (pa_cons (pe_op op_mod (pv 3) (pe_op op_pow pe_int pe_int)) (pa_cons (pe_op op_mod (pv 2) pe_int) (pa_cons (pv 4) (pa_cons (pe_op op_sub (pv 4) pe_int) (pa_cons (pe_op op_add (pv 4) pe_int) (pa_cons pe_int (pa_cons (pe_op op_sub (pe_op op_sub (pe_op op_pow pe_int pe_int) pe_int) (pv 2)) (pa_cons (pv 1) pa_nil))))))))))
      (pss_one (ps_ret (pe_op op_mulA (pe_ix ix_list (pv 6) (pe_op op_mod (pe_op op_fdiv (pv 2) pe_int) pe_int) (fun _ _ => rfl)) (pe_ix ix_list (pe_lst (pa_cons pe_int (pa_cons (pe_op op_sub pe_int pe_int) pa_nil))) (pe_op op_mod (pv 2) pe_int) (fun _ _ => rfl))))))))))), ?_⟩
    refine ⟨_, rfl, l, n, rfl, d, by omega, fun v H1 v0 v1 b1 d1 => ?_⟩
    refine ⟨_, rfl, l, _, rfl, d1, by omega, fun u H2 u0 u1 b2 d2 => ?_⟩
    have zz : ∀ {x : Int} (c : Nat), 0 ≤ x → x < 306783369 → 30 ≤ c → Sz c x := fun c h0 h1 hc => Nat.lt_of_lt_of_le (show _ < 2 ^ 30 by omega) (Nat.pow_le_pow_right (by decide) hc)
    have e12 : (10 : Int) ^ (12 : Int).toNat = 1000000000000 := by decide
    have e4 : (10 : Int) ^ (4 : Int).toNat = 10000 := by decide
    have e20 : (10 : Int) ^ (20 : Int).toNat = 100000000000000000000 := by decide
    have p90 : (2 : Int) ^ 90 = 1237940039285380274899124224 := by decide
    refine ⟨_, _, rfl, rfl, ⟨by decide, by decide, by decide⟩, _, _, rfl, rfl, ⟨zz _ u0 u1 (by decide), by rw [e12]; exact (Sz.of (n := 50) (by decide) (by decide)).mono (by decide)⟩, _, rfl, l, _, rfl, d2, by omega, fun x H3 x0 x1 b3 d3 => ?_⟩
    refine ⟨_, _, rfl, rfl, ⟨by decide, by decide, by decide⟩, _, _, rfl, rfl, ⟨zz _ x0 x1 (by decide), by rw [e4]; exact (Sz.of (n := 50) (by decide) (by decide)).mono (by decide)⟩, _, _, rfl, rfl, ?_⟩
    have b03 : But l H H3 := (b1.trans b2).trans b3
    have m0 := Int.emod_nonneg (v / 8) (show (20 : Int) ≠ 0 by decide)
    have m1 := Int.emod_lt_of_pos (v / 8) (show (0 : Int) < 20 by decide)
    refine ⟨_, rfl, _, _, rfl, rfl, ⟨by decide, by decide⟩, _, _, rfl, rfl, md, v / 8 % 20, rfl, by omega, by omega, ?_⟩
    have pb : ∀ j : Nat, j ≤ 20 → ((b : Int)) ^ j ≤ 2 ^ 80 ∧ 0 < ((b : Int)) ^ j := fun j hj => by
      have h3 : b ^ j ≤ 2 ^ 80 := by
        refine Nat.le_trans (Nat.pow_le_pow_left h16 j) ?_
        refine Nat.le_trans (Nat.pow_le_pow_right (by decide) hj) (by decide)
      have h4 : 0 < b ^ j := Nat.pow_pos (by omega)
      constructor
      · have : ((b ^ j : Nat) : Int) ≤ ((2 ^ 80 : Nat) : Int) := by exact_mod_cast h3
        rw [Int.natCast_pow] at this
        exact this
      · have : (0 : Int) < ((b ^ j : Nat) : Int) := by exact_mod_cast h4
        rw [Int.natCast_pow] at this
        exact this
    have p80 : (2 : Int) ^ 80 = 1208925819614629174706176 := by decide
    have zp : ∀ x : Int, 0 ≤ x → x ≤ 2 ^ 80 → Sz 90 x := fun x h0 h1 => Sz.of (by omega) (by omega)
    refine for_range (n := (v / 8 % 20).toNat) (fun j σ H' => ∃ v5 : Option V, σ = [some (.ref l), some (.int (b : Int)), some (.int v), some (.int (u * 10 ^ (12 : Int).toNat + x * 10 ^ (4 : Int).toNat)), some (.int ((b : Int) ^ j)), v5, none] ∧ H' = H3) ⟨none, ?_, rfl⟩ ?_ ?_
    · rw [Int.pow_zero]
      rfl
    · rintro j σ H' hj ⟨v5, rfl, rfl⟩
      have hj20 : j < 20 := by omega
      refine ⟨_, rfl, _, rfl, _, _, rfl, rfl, ⟨(zp _ (Int.le_of_lt (pb j (by omega)).2) (pb j (by omega)).1).mono (by decide), szb h16 (by decide)⟩, ⟨some (.int (0 + (j : Int))), ?_, rfl⟩⟩
      rw [Int.pow_succ]
      rfl
    rintro σ H' ⟨v5, rfl, rfl⟩
    obtain ⟨hp1, hp0⟩ := pb (v / 8 % 20).toNat (by omega)
    refine while_by (fun σ H2 => ∃ p : Int, σ = [some (.ref l), some (.int (b : Int)), some (.int v), some (.int (u * 10 ^ (12 : Int).toNat + x * 10 ^ (4 : Int).toNat)), some (.int p), v5, none] ∧ 0 < p ∧ p ≤ 2 ^ 80 ∧ H2 = H') (mu2 4) ⟨_, rfl, hp0, hp1, rfl⟩ ?_ (fun σ H' R R' hq ⟨v, h1, a, c, h2, h3, h4, a2, c2, h5, h6, a3, c3, h7, h8, k, h9, h10⟩ => ⟨v, h1, a, c, h2, h3, h4, a2, c2, h5, h6, a3, c3, h7, h8, k, h9, hq _ _ h10⟩)
    rintro σ H2 ⟨p, rfl, p0, p1, rfl⟩
    refine ⟨_, rfl, _, _, rfl, rfl, ⟨by decide, by decide, by decide⟩, _, _, rfl, rfl, p, (10 : Int) ^ (20 : Int).toNat - 2, rfl, rfl, decide (p ≥ (10 : Int) ^ (20 : Int).toNat - 2), rfl, ?_⟩
    rw [e20]
    by_cases hge : p ≥ 100000000000000000000 - 2
    · rw [decide_eq_true hge]
      refine iteT ?_
      have dv : p.fdiv (b : Int) = p / (b : Int) := Int.fdiv_eq_ediv_of_nonneg _ (by omega)
      have b0 : (0 : Int) < (b : Int) := by omega
      have l1 : (1 : Int) ≤ p / (b : Int) := Int.le_ediv_of_mul_le b0 (by omega)
      have l2 : p / (b : Int) < p := Int.ediv_lt_of_lt_mul b0 (by
        have := Int.mul_le_mul_of_nonneg_left (show (2 : Int) ≤ (b : Int) by omega) (show 0 ≤ p by omega)
        omega)
      refine ⟨_, rfl, _, rfl, _, _, rfl, rfl, ⟨by omega, szb h16 (by decide)⟩, ⟨p / (b : Int), ?_, by omega, by omega, rfl⟩, ?_⟩
      · show [_, _, _, _, some (V.int (p.fdiv (b : Int))), _, _] = _
        rw [dv]
      · show (p.fdiv (b : Int)).natAbs < p.natAbs
        rw [dv]
        omega
    · rw [decide_eq_false hge]
      refine iteF ?_
      have zp' := zp p (by omega) p1
      have hA0 : 0 ≤ u * 10 ^ (12 : Int).toNat + x * 10 ^ (4 : Int).toNat := by rw [e12, e4]; omega
      generalize u * 10 ^ (12 : Int).toNat + x * 10 ^ (4 : Int).toNat = A0 at *
      have a0 := Int.emod_nonneg A0 (show (100000000000000000000 : Int) ≠ 0 by decide)
      have a1 := Int.emod_lt_of_pos A0 (show (0 : Int) < 100000000000000000000 by decide)
      have c0 := Int.emod_nonneg v (show (40 : Int) ≠ 0 by decide)
      have c1 := Int.emod_lt_of_pos v (show (0 : Int) < 40 by decide)
      have md20 : (0 : Int) < (10 : Int) ^ (20 : Int).toNat := by rw [e20]; decide
      refine ⟨_, rfl, _, _, rfl, rfl, ⟨by decide, by decide, by decide⟩, _, _, rfl, rfl, md20, _, rfl, _, _, rfl, rfl, md, _, rfl, _, rfl, _, _, rfl, rfl, _, rfl, _, _, rfl, rfl, _, _, rfl, rfl, ⟨by decide, by decide, by decide⟩, _, _, rfl, rfl, _, rfl, _, _, rfl, rfl, _, rfl, (by show 8 ≤ sizeLine; decide), fun ps np => ?_⟩
      have k0 := Int.emod_nonneg (v / 512) (show (8 : Int) ≠ 0 by decide)
      have k1 := Int.emod_lt_of_pos (v / 512) (show (0 : Int) < 8 by decide)
      obtain ⟨y, hy, w1, rfl, zw⟩ := pick (P := fun x => ∃ i : Int, x = V.int i ∧ Sz 91 i) (xs := [V.int (A0 % 10 ^ (20 : Int).toNat), V.int (v % 40), V.int p, V.int (p - 1), V.int (p + 1), V.int 0, V.int (10 ^ (20 : Int).toNat - 1 - v), V.int (b : Int)]) k0 k1 (by
        rw [e20]
        have p91 : (2 : Int) ^ 91 = 2475880078570760549798248448 := by decide
        intro x hx
        rcases List.mem_cons.mp hx with rfl | hx
        · exact ⟨_, rfl, Sz.of (by omega) (by omega)⟩
        rcases List.mem_cons.mp hx with rfl | hx
        · exact ⟨_, rfl, Sz.of (by omega) (by omega)⟩
        rcases List.mem_cons.mp hx with rfl | hx
        · exact ⟨_, rfl, zp'.mono (by decide)⟩
        rcases List.mem_cons.mp hx with rfl | hx
        · exact ⟨_, rfl, Sz.of (by omega) (by omega)⟩
        rcases List.mem_cons.mp hx with rfl | hx
        · exact ⟨_, rfl, Sz.of (by omega) (by omega)⟩
        rcases List.mem_cons.mp hx with rfl | hx
        · exact ⟨_, rfl, Sz.of (by omega) (by omega)⟩
        rcases List.mem_cons.mp hx with rfl | hx
        · exact ⟨_, rfl, Sz.of (by omega) (by omega)⟩
        rcases List.mem_cons.mp hx with rfl | hx
        · exact ⟨_, rfl, Sz.of (by omega) (by omega)⟩
        · cases hx)
      have g0 := Int.emod_nonneg v (show (2 : Int) ≠ 0 by decide)
      have g1 := Int.emod_lt_of_pos v (show (0 : Int) < 2 by decide)
      obtain ⟨y2, hy2, w2, rfl, zw2⟩ := pick (P := fun x => ∃ i : Int, x = V.int i ∧ Sz 2 i) (xs := [V.int 1, V.int (0 - 1)]) g0 g1 (by
        intro x hx
        rcases List.mem_cons.mp hx with rfl | hx
        · exact ⟨_, rfl, Sz.of (by decide) (by decide)⟩
        rcases List.mem_cons.mp hx with rfl | hx
        · exact ⟨_, rfl, Sz.of (by decide) (by decide)⟩
        · cases hx)
      refine ⟨_, rfl, _, rfl, _, _, rfl, rfl, ⟨by decide, by decide⟩, _, _, rfl, rfl, md, ps, _, _, _, rfl, rfl, SqL.of upd_same, hy, _, _, rfl, rfl, (by show 2 ≤ sizeLine; decide), fun pq nq => ?_⟩
      refine ⟨_, rfl, _, _, rfl, rfl, md, pq, _, _, _, rfl, rfl, SqL.of upd_same, hy2, _, _, rfl, rfl, ⟨zw.mono (by decide), zw2.mono (by decide)⟩, ?_⟩
      exact q _ _ ((zw.mul zw2).mono (by decide)) ((b03.upd np).upd nq) ((d3.new np).new nq)
end
/-! ### what the law asks of figures -/
def gF2 {α : Type} : List α → List α → List α → List α := fun us _ ws => us ++ (match ws with | [a, b] => [b, a] | _ => [])
def gF1 {α : Type} : List α → List α → List α → List α := fun us ds ws => us ++ ws ++ ds
theorem gF2_rel {vs ds zs : List V} {us its ws : List Value} (h : Vals vs us) (_ : Vals ds its) (k : Vals zs ws) : Vals (gF2 vs ds zs) (gF2 us its ws) := by
  refine h.append ?_
  cases k with
  | nil => exact .nil
  | cons a k => cases k with
    | nil => exact .nil
    | cons b k => cases k with
      | nil => exact .cons b (.cons a .nil)
      | cons c k => exact .nil
theorem gF1_rel {vs ds zs : List V} {us its ws : List Value} (h : Vals vs us) (d : Vals ds its) (k : Vals zs ws) : Vals (gF1 vs ds zs) (gF1 us its ws) := (h.append k).append d
theorem bd_figures2 : Bd1 "figures" "figures" s_figures ["number", "base"] 2 1 1 := fun _ _ _ _ _ _ _ us its hu hi => match us, hu, its, hi with | [_, _], _, [_], _ => ⟨_, rfl, rfl⟩
theorem bd_figures1 : Bd1 "figures" "figures" s_figures ["number", "base"] 1 0 1 := fun _ _ _ _ _ _ _ us its hu hi => match us, hu, its, hi with | [_], _, [_], _ => ⟨_, rfl, rfl⟩
theorem bd_read_figures2 : Bd1 "read_figures" "read_figures" s_read_figures ["text", "base"] 2 1 1 := fun _ _ _ _ _ _ _ us its hu hi => match us, hu, its, hi with | [_, _], _, [_], _ => ⟨_, rfl, rfl⟩
theorem bd_read_figures1 : Bd1 "read_figures" "read_figures" s_read_figures ["text", "base"] 1 0 1 := fun _ _ _ _ _ _ _ us its hu hi => match us, hu, its, hi with | [_], _, [_], _ => ⟨_, rfl, rfl⟩
theorem kb_figures_0_base_number : Kdn "figures" s_figures 1 0 ["base", "number"] ["number", "base"] gF2 :=
  ⟨fun _ _ _ _ _ _ _ us its ws hu hi hw => match us, hu, its, hi, ws, hw with | [], _, [_], _, [_, _], _ => ⟨_, rfl, rfl⟩, gF2_rel⟩
theorem kb_figures_0_number : Kdn "figures" s_figures 1 0 ["number"] ["number", "base"] gF1 :=
  ⟨fun _ _ _ _ _ _ _ us its ws hu hi hw => match us, hu, its, hi, ws, hw with | [], _, [_], _, [_], _ => ⟨_, rfl, rfl⟩, gF1_rel⟩
theorem kb_read_figures_0_base_text : Kdn "read_figures" s_read_figures 1 0 ["base", "text"] ["text", "base"] gF2 :=
  ⟨fun _ _ _ _ _ _ _ us its ws hu hi hw => match us, hu, its, hi, ws, hw with | [], _, [_], _, [_, _], _ => ⟨_, rfl, rfl⟩, gF2_rel⟩
theorem eqv_ss (a b : Str) : PyData.eqv (.list [.str a, .str b]) (.list [.str a, .str b]) = true := by
  simp [PyData.eqv, PyData.eqvAll]
theorem eqv_ii (a b : Int) : PyData.eqv (.list [.int a, .int b]) (.list [.int a, .int b]) = true := by
  simp [PyData.eqv, PyData.eqvAll]
theorem strOk_of {x : Str} (h : ∀ c ∈ x.cps.toList, c < 0x110000) : PyData.strOk x = true := by
  unfold PyData.strOk
  rw [Array.all_eq_true_iff_forall_mem]
  intro c hc
  exact decide_eq_true (h c (by simpa using hc))
theorem numT_ok {b : Nat} {i : Int} (h2 : 2 ≤ b) (h16 : b ≤ 16) : PyData.strOk (numT b i) = true := by
  have key : ∀ c ∈ (txt (lsd b i.natAbs).reverse).cps.toList, c < 0x110000 := fun c hc => by
    rw [txt_cps] at hc
    obtain ⟨d, hd, rfl⟩ := List.mem_map.mp hc
    have := lsd_small h2 _ d (List.mem_reverse.mp hd)
    unfold dg
    split <;> omega
  refine strOk_of fun c hc => ?_
  unfold numT at hc
  split at hc
  · rw [app_cps, dash_cps] at hc
    rcases List.mem_append.mp hc with hc | hc
    · rw [List.mem_singleton.mp hc]
      decide
    · exact key c hc
  · exact key c hc
theorem sh_ss {a b : Str} (ha : PyData.strOk a = true) (hb : PyData.strOk b = true) : SeqAt.shaped (.list [.str a, .str b]) = true := by
  show (PyData.canLay0 (.list [.str a, .str b]) && decide (PyData.depth (.list [.str a, .str b]) ≤ 64)) = true
  rw [Bool.and_eq_true]
  refine ⟨by simp [PyData.canLay0, PyData.canLayAll0, ha, hb], decide_eq_true ?_⟩
  simp [PyData.depth, PyData.depthAll]
def spRight31 : Sp := fun vs H Q _ => ∃ (l : Addr), vs = [.ref l] ∧ Dr H l 0 ∧ ∀ H', But l H H' → Q (.bl true) H'
section
variable {P : Program} {w : World} {K : PySem.W.Frag} {mg : Str → Option Value} {base : Heap}
theorem ok_lright71 (D : Df K mg "_law_right" s_l_right []) (f_l_next : Ca P w K mg base CX0 1 "_law_next" s_l_next [] ["_law_draws_here"] spNext) (g_range : mg "range" = none) (g_isinstance : mg "isinstance" = none) (g_str : mg "str" = none) (f_l_whole : Ca P w K mg base CX0 1 "_law_whole" s_l_whole [] ["_law_told"] spWhole) (f_l_text : Ca P w K mg base CX0 1 "_law_text" s_l_text [] ["_law_a_number", "_law_a_base"] spNum) (f_l_number : Ca P w K mg base CX0 2 "_law_number" s_l_number [] ["_law_draws_here", "_law_a_base"] spNumber)
    (f_figures : Ca P w K mg base CX0 2 "figures" s_figures [.int 10] ["number", "base"] spNum) (f_read_figures : Ca P w K mg base CX0 2 "read_figures" s_read_figures [.int 10] ["text", "base"] spNin) : Ca P w K mg base CX0 3 "_law_right" s_l_right [] ["_law_draws_here"] spRight31 := by
  refine ca0 (k := 2) D c_l_right (fun vs H Q E h => ?_) fun f cdv A outer s H vs Q E hr h => ?_
  · obtain ⟨l, rfl, _⟩ := h
    rfl
  · obtain ⟨l, rfl, d, q⟩ := h
    refine ⟨_, (pss_cons (ps_set (i := 1) c_l_right.nd rfl (.inl rfl) (pe_op op_add pe_int (pe_op op_mod (pe_ca f_l_next b_l_next hr (by decide) pass0 rfl (pa_cons (pv 0) pa_nil)) pe_int)))
      (pss_cons (ps_for PassesOwn.never rfl (pi_range1 rfl g_range (pa_cons pe_int pa_nil)) (pg_name (i := 2) c_l_right.nd rfl (.inl rfl)) (pss_cons (ps_set (i := 3) c_l_right.nd rfl (.inl rfl) (pe_ca f_l_number b_l_number hr (by decide) pass0 rfl (pa_cons (pv 0) (pa_cons (pv 1) pa_nil))))
      (pss_cons (ps_set (i := 4) c_l_right.nd rfl (.inl rfl) (pe_ca f_l_text b_l_text hr (by decide) pass0 rfl (pa_cons (pv 3) (pa_cons (pv 1) pa_nil))))
      (pss_cons (ps_set (i := 5) c_l_right.nd rfl (.inl rfl) (pe_lst (pa_cons (pe_caD f_figures bd_figures2 (by decide) rfl hr (by decide) pass0 rfl (pa_cons (pv 3) (pa_cons (pv 1) pa_nil))) (pa_cons (pe_caDk0 f_figures kb_figures_0_base_number (by decide) hr (by decide) pass0 rfl (pk_cons (pv 1) (pk_cons (pv 3) pk_nil))) pa_nil))))
      (pss_cons (ps_if (PW.pt (pw_or (pt_cmpR (op_neD hr.units) (pv 5) (pe_lst (pa_cons (pv 4) (pa_cons (pv 4) pa_nil))) (nomark _)) (pw_or1 (pt_not (pt_val (pe_callB call_isi rfl g_isinstance (by decide +kernel) (pa_cons (pe_ix ix_list (pv 5) pe_int (fun _ _ => rfl)) (pa_cons (pe_bltn (v := .ty "str") rfl g_str (by decide +kernel) rfl) pa_nil)))))))) (pss_one (ps_ret pe_bl)) pss_nil)
      (pss_cons (ps_set (i := 6) c_l_right.nd rfl (.inl rfl) (pe_lst (pa_cons (pe_caD f_read_figures bd_read_figures2 (by decide) rfl hr (by decide) pass0 rfl (pa_cons (pv 4) (pa_cons (pv 1) pa_nil))) (pa_cons (pe_caDk0 f_read_figures kb_read_figures_0_base_text (by decide) hr (by decide) pass0 rfl (pk_cons (pv 1) (pk_cons (pv 4) pk_nil))) pa_nil))))
      (pss_cons (ps_if (PW.pt (pw_or (pt_cmpR (op_neD hr.units) (pv 6) (pe_lst (pa_cons (pv 3) (pa_cons (pv 3) pa_nil))) (nomark _)) (pw_or1 (pt_not (pt_val (pe_ca f_l_whole b_l_whole hr (by decide) pass0 rfl (pa_cons (pe_ix ix_list (pv 6) pe_int (fun _ _ => rfl)) pa_nil))))))) (pss_one (ps_ret pe_bl)) pss_nil)
      (pss_cons (ps_set (i := 7) c_l_right.nd rfl (.inl rfl) (pe_ca f_l_text b_l_text hr (by decide) pass0 rfl (pa_cons (pv 3) (pa_cons pe_int pa_nil))))
      (pss_one (ps_if (PW.pt (pw_or (pt_cmpR op_ne (pe_caD f_figures bd_figures1 (by decide) rfl hr (by decide) pass0 rfl (pa_cons (pv 3) pa_nil)) (pv 7) (nomark _)) (pw_or (pt_cmpR op_ne (pe_caDk0 f_figures kb_figures_0_number (by decide) hr (by decide) pass0 rfl (pk_cons (pv 3) pk_nil)) (pv 7) (nomark _)) (pw_or1 (pt_cmpR op_ne (pe_caD f_read_figures bd_read_figures1 (by decide) rfl hr (by decide) pass0 rfl (pa_cons (pv 7) pa_nil)) (pv 3) (nomark _)))))) (pss_one (ps_ret pe_bl)) pss_nil))))))))))
      (pss_one (ps_ret pe_bl)))), ?_⟩
    refine ⟨_, rfl, l, 0, rfl, d, by decide, fun v H1 v0 v1 b1 d1 => ?_⟩
    have w1 := Int.emod_nonneg v (show (15 : Int) ≠ 0 by decide)
    have w2 := Int.emod_lt_of_pos v (show (0 : Int) < 15 by decide)
    obtain ⟨b, hb⟩ : ∃ b : Nat, 2 + v % 15 = (b : Int) := ⟨(2 + v % 15).toNat, by omega⟩
    have h2 : 2 ≤ b := by omega
    have h16 : b ≤ 16 := by omega
    refine ⟨_, _, rfl, rfl, md, _, _, rfl, rfl, ?_⟩
    rw [show (fun i j : Int => V.int (i + j)) 2 (v % 15) = V.int (b : Int) from congrArg V.int hb]
    refine ⟨8, rfl, by decide, by decide, ?_⟩
    refine for_range (n := 8) (fun i σ H' => (∃ v2 v3 v4 v5 v6 v7 : Option V, σ = [some (.ref l), some (.int (b : Int)), v2, v3, v4, v5, v6, v7]) ∧ Dr H' l (1 + 3 * i) ∧ But l H H') ⟨⟨_, _, _, _, _, _, rfl⟩, d1.mono (by omega), b1⟩ ?_ (fun σ H' ⟨_, _, b'⟩ => q H' b')
    rintro i σ H2 hi ⟨⟨v2, v3, v4, v5, v6, v7, rfl⟩, d2, b2⟩
    refine ⟨_, rfl, _, rfl, l, _, b, rfl, h2, h16, d2, by omega, fun n H3 zn b3 d3 => ?_⟩
    have zn' : Sz 200 n := zn.mono (by decide)
    refine ⟨_, rfl, _, rfl, n, b, rfl, h2, h16, zn', fun H4 s4 => ?_⟩
    refine ⟨_, rfl, _, rfl, n, b, rfl, h2, h16, zn', fun H5 s5 => ?_⟩
    refine ⟨_, rfl, _, rfl, rfl, n, b, rfl, h2, h16, zn', fun H6 s6 => ?_⟩
    refine ⟨(by show 2 ≤ sizeLine; decide), fun p7 n7 => ?_⟩
    have s7 := Same.new (o := .lst [.str (numT b n), .str (numT b n)]) n7
    refine ⟨_, rfl, _, rfl, _, rfl, (by show 2 ≤ sizeLine; decide), fun p8 n8 => ?_⟩
    have s8 := Same.new (o := .lst [.str (numT b n), .str (numT b n)]) n8
    refine ⟨.list [.str (numT b n), .str (numT b n)], .list [.str (numT b n), .str (numT b n)], .lst (SqL.of (s8 _ _ upd_same)) (.cons (.str _) (.cons (.str _) .nil)), .lst (SqL.of upd_same) (.cons (.str _) (.cons (.str _) .nil)), sh_ss (numT_ok h2 h16) (numT_ok h2 h16), sh_ss (numT_ok h2 h16) (numT_ok h2 h16), _, rfl, no' (by rw [eqv_ss]; rfl) ?_⟩
    refine ⟨_, rfl, p7, _, _, _, rfl, rfl, SqL.of (s8 _ _ upd_same), rfl, _, _, _, _, _, rfl, .ty "str", .base (.str (numT b n)), kit_ty (r := true) (by decide +kernel), _, rfl, no' rfl ?_⟩
    have s38 : Same H3 _ := s4.trans (s5.trans (s6.trans (s7.trans s8)))
    refine ⟨_, rfl, _, rfl, n, b, rfl, h2, h16, zn', fun H9 s9 => ?_⟩
    refine ⟨_, rfl, _, rfl, rfl, n, b, rfl, h2, h16, zn', fun H10 s10 => ?_⟩
    refine ⟨(by show 2 ≤ sizeLine; decide), fun p11 n11 => ?_⟩
    have s11 := Same.new (o := .lst [.int n, .int n]) n11
    refine ⟨_, rfl, _, rfl, _, rfl, (by show 2 ≤ sizeLine; decide), fun p12 n12 => ?_⟩
    have s12 := Same.new (o := .lst [.int n, .int n]) n12
    refine ⟨.list [.int n, .int n], .list [.int n, .int n], .lst (SqL.of (s12 _ _ upd_same)) (.cons (.int _) (.cons (.int _) .nil)), .lst (SqL.of upd_same) (.cons (.int _) (.cons (.int _) .nil)), rfl, rfl, _, rfl, no' (by rw [eqv_ii]; rfl) ?_⟩
    refine ⟨_, rfl, p11, _, _, _, rfl, rfl, SqL.of (s12 _ _ upd_same), rfl, n, rfl, _, rfl, no' rfl ?_⟩
    have s312 := s38.trans (s9.trans (s10.trans (s11.trans s12)))
    refine ⟨_, rfl, n, 10, rfl, by decide, by decide, zn', fun H13 s13 => ?_⟩
    refine ⟨_, rfl, n, 10, rfl, by decide, by decide, zn', fun H14 s14 => ⟨_, rfl, rfl, _, rfl, no' (by simp) ?_⟩⟩
    refine ⟨_, rfl, rfl, n, 10, rfl, by decide, by decide, zn', fun H15 s15 => ⟨_, rfl, rfl, _, rfl, no' (by simp) ?_⟩⟩
    refine ⟨_, rfl, n, 10, rfl, by decide, by decide, zn', fun H16 s16 => ⟨_, rfl, rfl, _, rfl, no' (by simp) ?_⟩⟩
    have s316 := s312.trans (s13.trans (s14.trans (s15.trans s16)))
    exact ⟨⟨_, _, _, _, _, _, rfl⟩, d3.same s316 (by omega), (b2.trans b3).trans (But.same s316)⟩
end
/-! ### the law -/
def spLaw (K : PySem.W.Frag) : Sp := fun vs H Q _ => ∃ (a : Addr) (ns : List Int), vs = [.ref a] ∧ SqL K H a (ns.map V.int) ∧ ns.length ≤ 63 ∧ ∀ H', Q (.bl true) H'
theorem cut_ints {ns : List Int} {lo hi : Option Int} {j : Nat} {x : V} (h : (cutV (ns.map V.int) lo hi ++ [V.int 0])[j]? = some x) : ∃ c : Int, x = .int c := by
  have hx : x ∈ cutV (ns.map V.int) lo hi ++ [V.int 0] := List.mem_of_getElem? h
  rcases List.mem_append.mp hx with hx | hx
  · have h1 := List.mem_of_mem_take hx
    have h2 := List.mem_of_mem_drop h1
    obtain ⟨c, _, e⟩ := List.mem_map.mp h2
    exact ⟨c, e.symm⟩
  · exact ⟨0, List.mem_singleton.mp hx⟩
theorem cut_len {ns : List Int} {lo hi : Option Int} (h : ns.length ≤ 63) : (cutV (ns.map V.int) lo hi).length + ([V.int 0] : List V).length ≤ sizeLine := by
  have h1 := cutV_length (ns.map V.int) lo hi
  rw [List.length_map] at h1
  have h2 : ([V.int 0] : List V).length = 1 := rfl
  exact Nat.le_trans (show _ ≤ 64 by omega) (by decide)
/-! ### the law of lengths -/
section
variable {P : Program} {w : World} {K : PySem.W.Frag} {mg : Str → Option Value} {base : Heap}
theorem ok_law (D : Df K mg "law" s_law []) (f_l_draws : Ca P w K mg base CX0 1 "_law_draws" s_l_draws [] ["_law_cell"] spDraws) (f_l_right : Ca P w K mg base CX0 3 "_law_right" s_l_right [] ["_law_draws_here"] spRight31) : Ca P w K mg base CX0 13 "law" s_law [] ["_law_script"] (spLaw K) := by
  refine ca0 (k := 12) D c_law (fun vs H Q E h => ?_) fun f cdv A outer s H vs Q E hr h => ?_
  · obtain ⟨a, ns, rfl, _⟩ := h
    rfl
  · obtain ⟨a, ns, rfl, hS, hlen, q⟩ := h
    refine ⟨_, (pss_cons (ps_for PassesOwn.never rfl (pi_list (pe_op op_cat (pe_slice sl_list (pv 0) po_none (po_some pe_int)) (pe_lst (pa_cons pe_int pa_nil)))) (pg_name (i := 1) c_law.nd rfl (.inl rfl)) (pss_one (ps_if (pt_not (pt_val (pe_ca f_l_right b_l_right hr (by decide) pass0 rfl (pa_cons (pe_ca f_l_draws b_l_draws hr (by decide) pass0 rfl (pa_cons (pv 1) pa_nil)) pa_nil)))) (pss_one (ps_ret pe_bl)) pss_nil)))
      (pss_one (ps_ret pe_bl))), ?_⟩
    refine ⟨_, rfl, _, rfl, a, _, rfl, hS, fun p1 n1 => ?_⟩
    refine ⟨(by show 1 ≤ sizeLine; decide), fun p2 n2 => ?_⟩
    have ne12 : p1 ≠ p2 := ne_of_none upd_same n2
    refine ⟨p1, p2, _, _, rfl, rfl, (by rw [upd_ne ne12]; exact upd_same), upd_same, cut_len hlen, fun l3 n3 => ?_⟩
    generalize hH0 : L2.upd _ l3 (.lst (cutV (ns.map V.int) none (some 6) ++ [V.int 0])) = H0
    have hl3 : H0 l3 = some (.lst (cutV (ns.map V.int) none (some 6) ++ [V.int 0])) := by rw [← hH0]; exact upd_same
    refine ⟨l3, rfl, ⟨_, SqL.of hl3⟩, for_list (K := K) (a := l3) (xs := cutV (ns.map V.int) none (some 6) ++ [V.int 0]) (fun i σ H' => ∃ v1 : Option V, σ = [some (.ref a), v1] ∧ H' l3 = some (.lst (cutV (ns.map V.int) none (some 6) ++ [V.int 0])))
      ⟨_, rfl, hl3⟩ (fun i σ H' _ ⟨_, _, e⟩ => SqL.of e) ?_ (fun σ H' ⟨_, e, _⟩ => by subst e; exact q H')⟩
    rintro i x σ H1 hi ⟨v1, rfl, e3⟩
    obtain ⟨c, rfl⟩ := cut_ints hi
    refine ⟨_, rfl, c, rfl, fun l H2 nl s2 d2 => ?_⟩
    have nel : l3 ≠ l := ne_of_none e3 nl
    exact ⟨l, rfl, d2, fun H3 b3 => ⟨_, rfl, no' rfl ⟨_, rfl, b3 _ _ nel (s2 _ _ e3)⟩⟩⟩
end
theorem df_mkD {K : PySem.W.Frag} {h : Heap} {mg : Str → Option Value} {x : Str} {st : Stmt} {f T : Addr} {oc kV doc pm cdv ct : Value} {od an : Option Addr} {osl : Array (Option Value)} {nT : Nat} {its : List Value} {dvs : List V} (X : K.In h) (G : h.Ns mainGlobals mg) (a : PySem.W.nsIn K mainGlobals x = some (some (.ref f)))
    (l : K.lookup f = some ⟨oc, od, .func (PySem.W.fnOf x x (defArgs st) (defBody st) (defScope st) (.ref T) kV doc pm an cdv ct), osl⟩) (c : PySem.W.codeIn K cdv x = true) (k : PySem.W.keepIn K (.ref f) = true) {oT : Obj} (lT : K.lookup T = some oT) (eT : oT.data = .seq its.toArray nT) (r : Vals dvs its) (ne : dvs ≠ []) : Df K mg x st dvs :=
  ⟨f, _, ⟨⟨oc, od, .ref T, kV, doc, pm, an, cdv, ct, osl, rfl, l, c, .inr ⟨ne, T, _, its, nT, rfl, lT, eT, r⟩, .inl rfl⟩, k⟩, PySem.W.mg_of X G a⟩
/-! ### what the top has written -/
theorem fin {P : Program} {w : World} {K : PySem.W.Frag} {mg : Str → Option Value} {fa : Addr} (hfa : mg "law" = some (.ref fa)) {uF : Value} (aF : mg "FIGURES" = some uF) (rF : RelV (.str FIG) uF)
    (g_abs : mg "abs" = none) (g_range : mg "range" = none) (g_isinstance : mg "isinstance" = none) (g_bool : mg "bool" = none) (g_int : mg "int" = none) (g_str : mg "str" = none) (g_reversed : mg "reversed" = none)
    (d_numeral : Df K mg "numeral" s_numeral [.int 10]) (d_figures : Df K mg "figures" s_figures [.int 10]) (d_number_in : Df K mg "number_in" s_number_in [.int 10]) (d_read_figures : Df K mg "read_figures" s_read_figures [.int 10])
    (d_l_draws : Df K mg "_law_draws" s_l_draws []) (d_l_next : Df K mg "_law_next" s_l_next []) (d_l_whole : Df K mg "_law_whole" s_l_whole []) (d_l_text : Df K mg "_law_text" s_l_text []) (d_l_number : Df K mg "_law_number" s_l_number []) (d_l_right : Df K mg "_law_right" s_l_right []) (d_law : Df K mg "law" s_law []) :
    ∃ fd : FuncData, (∀ (s : Shared) (u : Value), BindsTo s fd ⟨[u], []⟩ [("_law_script", u)]) ∧ ∀ base : Heap, K.In base → base.Ns mainGlobals mg → FnOk P w K mg base CX0 13 fa fd ["_law_script"] (spLaw K) := by
  refine fin_of hfa d_law b_law fun base => ?_
  obtain ⟨tF, eF⟩ := rF
  have hF : mg "FIGURES" = some (.str FIG tF) := by rw [aF, eF]
  have nx := ok_next (P := P) (w := w) (base := base) d_l_next
  have dr := ok_draws (P := P) (w := w) (base := base) d_l_draws g_range
  have nu := ok_num (P := P) (w := w) (base := base) d_numeral hF g_abs g_reversed
  have ni := ok_nin (P := P) (w := w) (base := base) d_number_in hF
  have fg := ok_figs d_figures nu
  have rf := ok_rfigs d_read_figures nu ni
  have wh := ok_lwhole (P := P) (w := w) (base := base) d_l_whole g_isinstance g_int g_bool
  have tx := ok_ltext (P := P) (w := w) (base := base) d_l_text g_abs g_int
  have nm := ok_lnumber d_l_number nx g_range
  have rg := ok_lright71 d_l_right nx g_range g_isinstance g_str wh tx nm fg rf
  exact ok_law d_law dr rg
theorem walk {l : PySem.W.OpenLaw} {q : Program} {loose : List Str} {XP : (Str → Option Value) → Heap → Prop} {YP : World → Heap → Prop} {d : DefRec} {K : Params → PySem.W.Frag} (hn : l.most = some 63) (hdf : d.params.defaults = [])
    (hY : ∀ (w : World) (h : Heap), YP w h → (K w.params).In h)
    (F : ∀ (w : World) (mg : Str → Option Value) (fa : Addr) (h : Heap), (K w.params).In h → h.Ns mainGlobals mg → mg d.name = some (.ref fa) →
      ∃ fd : FuncData, (∀ (s : Shared) (u : Value), BindsTo s fd ⟨[u], []⟩ [("_law_script", u)]) ∧ ∀ base : Heap, (K w.params).In base → base.Ns mainGlobals mg → FnOk l.prog w (K w.params) mg base CX0 13 fa fd ["_law_script"] (spLaw (K w.params))) :
    PySem.W.WalkO q loose XP YP l.row.toRowW d [] (fun f vs => PySem.call f vs) :=
  L2.walk_of (n := 63) (k := 13) (x := "_law_script") (CX := fun _ => CX0) (sp := fun w => spLaw (K w.params)) hn (by decide) hdf ⟨rfl, by decide, by decide⟩ hY F (fun _ _ a ns hl _ hS => ⟨a, ns, rfl, hS, hl, fun _ => rfl⟩) fun _ _ _ _ _ z => z
end MM
open PySem PySem.W PyProof.Rows in
set_option maxRecDepth 100000 in
set_option maxHeartbeats 0 in
theorem PySem.Challenge.cw_meanmoon_k71_figures_holds : PySem.Challenge.rw_meanmoon_k71_figures.Holds := by
  w_on; o_law; k_head; (case hw => w_witness2)
  k_fill
  refine MM.walk (l := PySem.Challenge.rw_meanmoon_k71_figures) rfl rfl (fun w h Y => PySem.W.kIn_of Y) ?F
  case F =>
    intro w mg fa h KX G hmg
    refine' MM.fin hmg
      (PySem.W.mg_of KX G ?gl_FIGURES) ?gr_FIGURES
      (PySem.W.mg_none_of KX G ?z0)
      (PySem.W.mg_none_of KX G ?z1)
      (PySem.W.mg_none_of KX G ?z2)
      (PySem.W.mg_none_of KX G ?z3)
      (PySem.W.mg_none_of KX G ?z4)
      (PySem.W.mg_none_of KX G ?z5)
      (PySem.W.mg_none_of KX G ?z6)
      (MM.df_mkD (its := [_]) KX G ?q1_numeral ?q2_numeral ?q3_numeral ?q4_numeral ?q5_numeral ?q6_numeral ?q7_numeral (by decide))
      (MM.df_mkD (its := [_]) KX G ?q1_figures ?q2_figures ?q3_figures ?q4_figures ?q5_figures ?q6_figures ?q7_figures (by decide))
      (MM.df_mkD (its := [_]) KX G ?q1_number_in ?q2_number_in ?q3_number_in ?q4_number_in ?q5_number_in ?q6_number_in ?q7_number_in (by decide))
      (MM.df_mkD (its := [_]) KX G ?q1_read_figures ?q2_read_figures ?q3_read_figures ?q4_read_figures ?q5_read_figures ?q6_read_figures ?q7_read_figures (by decide))
      (MM.df_mk KX G ?a_l_draws ?l_l_draws ?c_l_draws ?k_l_draws)
      (MM.df_mk KX G ?a_l_next ?l_l_next ?c_l_next ?k_l_next)
      (MM.df_mk KX G ?a_l_whole ?l_l_whole ?c_l_whole ?k_l_whole)
      (MM.df_mk KX G ?a_l_text ?l_l_text ?c_l_text ?k_l_text)
      (MM.df_mk KX G ?a_l_number ?l_l_number ?c_l_number ?k_l_number)
      (MM.df_mk KX G ?a_l_right ?l_l_right ?c_l_right ?k_l_right)
      (MM.df_mk KX G ?a_law ?l_law ?c_law ?k_law)
    (case gl_FIGURES => k_is)
    (case z0 => k_is)
    (case z1 => k_is)
    (case z2 => k_is)
    (case z3 => k_is)
    (case z4 => k_is)
    (case z5 => k_is)
    (case z6 => k_is)
    (case q1_numeral => k_is)
    (case q2_numeral => k_is)
    (case q3_numeral => k_is)
    (case q4_numeral => k_is)
    (case q5_numeral => k_is)
    (case q1_figures => k_is)
    (case q2_figures => k_is)
    (case q3_figures => k_is)
    (case q4_figures => k_is)
    (case q5_figures => k_is)
    (case q1_number_in => k_is)
    (case q2_number_in => k_is)
    (case q3_number_in => k_is)
    (case q4_number_in => k_is)
    (case q5_number_in => k_is)
    (case q1_read_figures => k_is)
    (case q2_read_figures => k_is)
    (case q3_read_figures => k_is)
    (case q4_read_figures => k_is)
    (case q5_read_figures => k_is)
    (case a_l_draws => k_is)
    (case l_l_draws => k_is)
    (case c_l_draws => k_is)
    (case k_l_draws => k_is)
    (case a_l_next => k_is)
    (case l_l_next => k_is)
    (case c_l_next => k_is)
    (case k_l_next => k_is)
    (case a_l_whole => k_is)
    (case l_l_whole => k_is)
    (case c_l_whole => k_is)
    (case k_l_whole => k_is)
    (case a_l_text => k_is)
    (case l_l_text => k_is)
    (case c_l_text => k_is)
    (case k_l_text => k_is)
    (case a_l_number => k_is)
    (case l_l_number => k_is)
    (case c_l_number => k_is)
    (case k_l_number => k_is)
    (case a_l_right => k_is)
    (case l_l_right => k_is)
    (case c_l_right => k_is)
    (case k_l_right => k_is)
    (case a_law => k_is)
    (case l_law => k_is)
    (case c_law => k_is)
    (case k_law => k_is)
    (case gr_FIGURES => exact ⟨_, rfl⟩)
    (case q6_numeral => rfl)
    (case q7_numeral => exact (.cons ⟨_, rfl⟩ .nil))
    (case q6_figures => rfl)
    (case q7_figures => exact (.cons ⟨_, rfl⟩ .nil))
    (case q6_number_in => rfl)
    (case q7_number_in => exact (.cons ⟨_, rfl⟩ .nil))
    (case q6_read_figures => rfl)
    (case q7_read_figures => exact (.cons ⟨_, rfl⟩ .nil))
#print axioms PySem.Challenge.cw_meanmoon_k71_figures_holds
