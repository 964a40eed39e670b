import PyProof.Rows.All
import Wide.All
import OpenK.AllK
import Wide.FinOn
import PyProof.NoPylong
import HandS.ForMost
import HandS.Wide
import HandS.Defaults
import HandS.MakeKw
import HandS.MakeKwOnly
import HandS.Exc
import HandS.WordsExc
import HandS.IsInst
import HandS.FStr
import HandS.Style
import HandS.Codes
import HandS.NoneIn
import PyProof.LongRange
import KE.KCallOwn
import HandS.OwnEq
import HandS.Walk
import HandS.Zip
import PyProof.P3Eq
import PyProof.EqLayable
import PyProof.InstNe
import KE.KTupSum
import HandS.SortInts
import HandS.Deep
import HandS.StrMore
import HandS.Text
import OpenK.KOps
import PyProof.FString2
import HandS.SortRule
import HandS.Conv
import PyProof.FactsLen
import PyProof.InstSpecial
import KE.DataMinKey
import KE.DatumOrd
import HandS.Iter
import HandS.SortKw
import KE.SortData
import PySem.Challenge.RW_meanmoon_k69_whole_feasts_day_by_day
set_option Elab.async false
set_option linter.all false
set_option maxRecDepth 100000
set_option maxHeartbeats 4000000
namespace MM
/-! fractions as Rat: the program's and the law's lowest terms are num and den -/
theorem gcd_fmod (a b : Int) : Int.gcd b (a.fmod b) = Int.gcd a b := by
  have h : a.fmod b = a - b * a.fdiv b := by have := Int.mul_fdiv_add_fmod a b; omega
  rw [h, Int.gcd_comm a b]
  rw [Int.sub_eq_add_neg, ← Int.mul_neg, Int.gcd_add_mul_left_right]
theorem gcd_emod' (a b : Int) : Int.gcd b (a % b) = Int.gcd a b := by
  have h : a % b = a - b * (a / b) := by have := Int.mul_ediv_add_emod a b; omega
  rw [h, Int.gcd_comm a b]
  rw [Int.sub_eq_add_neg, ← Int.mul_neg, Int.gcd_add_mul_left_right]
theorem fmod_lt (a : Int) {b : Int} (h : b ≠ 0) : (a.fmod b).natAbs < b.natAbs := by
  rcases Int.lt_or_gt_of_ne h with hb | hb
  · have e : a.fmod b = -((-a).fmod (-b)) := by rw [Int.neg_fmod_neg, Int.neg_neg]
    have h1 := Int.fmod_nonneg_of_pos (-a) (show (0 : Int) < -b by omega)
    have h2 := Int.fmod_lt_of_pos (-a) (show (0 : Int) < -b by omega)
    rw [e]
    omega
  · have h1 := Int.fmod_nonneg_of_pos a hb
    have h2 := Int.fmod_lt_of_pos a hb
    omega
theorem gcd_pos {t b : Int} (h : b ≠ 0) : 0 < Int.gcd t b := Int.gcd_pos_of_ne_zero_right t h
/-- the divisor that makes lowest terms -/
def gs (t b : Int) : Int := if b < 0 then -(Int.gcd t b : Int) else (Int.gcd t b : Int)
theorem gs_ne {t b : Int} (h : b ≠ 0) : gs t b ≠ 0 := by
  have := gcd_pos (t := t) h
  unfold gs
  split <;> omega
theorem low_num {t b : Int} (h : b ≠ 0) : t.fdiv (gs t b) = (Rat.divInt t b).num := by
  have hg := gcd_pos (t := t) h
  rw [Rat.num_divInt, Int.gcd_comm b t]
  unfold gs
  split
  · rename_i hb
    rw [Int.sign_eq_neg_one_of_neg hb, Int.neg_one_mul]
    rw [← Int.neg_fdiv_neg, Int.neg_neg, Int.fdiv_eq_ediv_of_nonneg _ (by omega)]
  · rw [Int.sign_eq_one_of_pos (by omega), Int.one_mul, Int.fdiv_eq_ediv_of_nonneg _ (by omega)]
theorem low_den {t b : Int} (h : b ≠ 0) : b.fdiv (gs t b) = ((Rat.divInt t b).den : Int) := by
  have hg := gcd_pos (t := t) h
  rw [Rat.den_divInt, if_neg h, Int.gcd_comm b t, Int.natCast_ediv]
  unfold gs
  split
  · rename_i hb
    rw [← Int.neg_fdiv_neg, Int.neg_neg, Int.fdiv_eq_ediv_of_nonneg _ (by omega)]
    congr 1
    omega
  · rw [Int.fdiv_eq_ediv_of_nonneg _ (by omega)]
    congr 1
    omega
theorem den_pos (q : Rat) : (0 : Int) < (q.den : Int) := by
  have := q.den_pos
  omega
/-- sizes -/
def Sz (n : Nat) (i : Int) : Prop := i.natAbs < 2 ^ n
def Rz (n : Nat) (q : Rat) : Prop := Sz n q.num ∧ Sz n q.den
theorem Sz.mono {n m : Nat} {i : Int} (h : Sz n i) (l : n ≤ m) : Sz m i := Nat.lt_of_lt_of_le h (Nat.pow_le_pow_right (by decide) l)
theorem Rz.mono {n m : Nat} {q : Rat} (h : Rz n q) (l : n ≤ m) : Rz m q := ⟨h.1.mono l, h.2.mono l⟩
theorem Sz.mul {n m : Nat} {i j : Int} (h : Sz n i) (k : Sz m j) : Sz (n + m) (i * j) := by
  unfold Sz
  rw [Int.natAbs_mul, Nat.pow_add]
  exact Nat.mul_lt_mul'' h k
theorem Sz.add {n m : Nat} {i j : Int} (h : Sz n i) (k : Sz n j) (l : n < m) : Sz m (i + j) := by
  have h' : i.natAbs < 2 ^ n := h
  have k' : j.natAbs < 2 ^ n := k
  have e : 2 ^ (n + 1) ≤ 2 ^ m := Nat.pow_le_pow_right (by decide) l
  rw [Nat.pow_succ] at e
  have z := Int.natAbs_add_le i j
  unfold Sz
  omega
theorem Sz.neg {n : Nat} {i : Int} (h : Sz n i) : Sz n (-i) := by
  unfold Sz
  rw [Int.natAbs_neg]
  exact h
theorem Sz.sub {n m : Nat} {i j : Int} (h : Sz n i) (k : Sz n j) (l : n < m) : Sz m (i - j) := by
  rw [Int.sub_eq_add_neg]
  exact h.add k.neg l
theorem natAbs_ediv_le (a : Int) {b : Nat} : (a / (b : Int)).natAbs ≤ a.natAbs := Int.natAbs_ediv_le_natAbs _ _
theorem Rz.divInt {n : Nat} {t b : Int} (h : Sz n t) (k : Sz n b) (h0 : 0 < n) : Rz n (Rat.divInt t b) := by
  refine ⟨?_, ?_⟩
  · unfold Sz
    rw [Rat.num_divInt]
    refine Nat.lt_of_le_of_lt (Int.natAbs_ediv_le_natAbs _ _) ?_
    rw [Int.natAbs_mul]
    refine Nat.lt_of_le_of_lt ?_ h
    have : b.sign.natAbs ≤ 1 := by
      rcases Int.lt_trichotomy b 0 with z | z | z
      · rw [Int.sign_eq_neg_one_of_neg z]; decide
      · rw [z]; decide
      · rw [Int.sign_eq_one_of_pos z]; decide
    calc b.sign.natAbs * t.natAbs ≤ 1 * t.natAbs := Nat.mul_le_mul_right _ this
      _ = t.natAbs := Nat.one_mul _
  · unfold Sz
    rw [Rat.den_divInt]
    split
    · show 1 < 2 ^ n
      exact Nat.one_lt_two_pow (by omega)
    · rw [Int.natAbs_natCast]
      exact Nat.lt_of_le_of_lt (Nat.div_le_self _ _) k
theorem add_eq (p q : Rat) : p + q = Rat.divInt (p.num * q.den + q.num * p.den) ((p.den : Int) * q.den) := by
  have := Rat.divInt_add_divInt p.num q.num (d₁ := p.den) (d₂ := q.den) (by have := den_pos p; omega) (by have := den_pos q; omega)
  rw [Rat.num_divInt_den, Rat.num_divInt_den] at this
  exact this
theorem sub_eq (p q : Rat) : p - q = Rat.divInt (p.num * q.den - q.num * p.den) ((p.den : Int) * q.den) := by
  rw [Rat.sub_eq_add_neg, add_eq]
  rw [Rat.neg_num, Rat.neg_den, Int.neg_mul, ← Int.sub_eq_add_neg]
theorem mul_eq (p q : Rat) : p * q = Rat.divInt (p.num * q.num) ((p.den : Int) * q.den) := by
  have := Rat.divInt_mul_divInt p.num q.num (d₁ := p.den) (d₂ := q.den)
  rw [Rat.num_divInt_den, Rat.num_divInt_den] at this
  exact this
theorem div_eq (p q : Rat) (h : q ≠ 0) : p / q = Rat.divInt (p.num * q.den) ((p.den : Int) * q.num) := by
  rw [Rat.div_def, mul_eq]
  have hq : q.num ≠ 0 := fun z => h (Rat.num_eq_zero.mp z)
  have e : q⁻¹ = Rat.divInt q.den q.num := by
    have := Rat.inv_divInt q.num q.den
    rw [Rat.num_divInt_den] at this
    exact this
  rw [← mul_eq, e]
  have := Rat.divInt_mul_divInt p.num q.den (d₁ := p.den) (d₂ := q.num)
  rw [Rat.num_divInt_den] at this
  exact this
theorem lt_iff' (p q : Rat) : p < q ↔ p.num * q.den < q.num * p.den := Rat.lt_iff p q
theorem Rz.add {n l m : Nat} {p q : Rat} (h : Rz n p) (k : Rz l q) (hl : n + l < m) : Rz m (p + q) := by
  rw [add_eq]
  exact Rz.divInt (Sz.add (n := n + l) ((h.1.mul k.2).mono (by omega)) ((k.1.mul h.2).mono (by omega)) hl) ((h.2.mul k.2).mono (by omega)) (by omega)
theorem Rz.sub {n l m : Nat} {p q : Rat} (h : Rz n p) (k : Rz l q) (hl : n + l < m) : Rz m (p - q) := by
  rw [sub_eq]
  exact Rz.divInt (Sz.sub (n := n + l) ((h.1.mul k.2).mono (by omega)) ((k.1.mul h.2).mono (by omega)) hl) ((h.2.mul k.2).mono (by omega)) (by omega)
theorem Rz.mul {n l m : Nat} {p q : Rat} (h : Rz n p) (k : Rz l q) (hl : n + l < m) : Rz m (p * q) := by
  rw [mul_eq]
  exact Rz.divInt ((h.1.mul k.1).mono (by omega)) ((h.2.mul k.2).mono (by omega)) (by omega)
theorem Rz.div {n l m : Nat} {p q : Rat} (h : Rz n p) (k : Rz l q) (z : q ≠ 0) (hl : n + l < m) : Rz m (p / q) := by
  rw [div_eq p q z]
  exact Rz.divInt ((h.1.mul k.2).mono (by omega)) ((h.2.mul k.1).mono (by omega)) (by omega)
theorem Rz.int {n : Nat} {i : Int} (h : Sz n i) (h0 : 0 < n) : Rz n (i : Rat) := ⟨h, (by show 1 < 2 ^ n; exact Nat.one_lt_two_pow (by omega))⟩
theorem Sz.floor {n : Nat} {q : Rat} (h : Rz n q) : Sz n q.floor := by
  unfold Sz
  rw [Rat.floor_def]
  exact Nat.lt_of_le_of_lt (Int.natAbs_ediv_le_natAbs _ _) h.1
theorem neg_div_ceil (q : Rat) : -(-q.num / (q.den : Int)) = q.ceil := by
  have := Rat.ceil_eq_neg_floor_neg q
  rw [this, Rat.floor_def, Rat.neg_num, Rat.neg_den]
theorem Rz.neg {n : Nat} {q : Rat} (h : Rz n q) : Rz n (-q) := ⟨by rw [Rat.neg_num]; exact h.1.neg, by rw [Rat.neg_den]; exact h.2⟩
theorem Sz.ceil {n : Nat} {q : Rat} (h : Rz n q) : Sz n q.ceil := by
  rw [Rat.ceil_eq_neg_floor_neg]
  exact (Sz.floor h.neg).neg
theorem Sz.of {n : Nat} {i : Int} (h1 : -(2 ^ n) < i) (h2 : i < 2 ^ n) : Sz n i := by
  unfold Sz
  have e : ((2 ^ n : Nat) : Int) = (2 : Int) ^ n := by simp
  omega
end MM
namespace MM
/-! the calendar's mathematics: floor, ceil, and the steps of months and marks -/
structure Fit (m y : Rat) : Prop where
  one : 1 ≤ m
  between : (m.ceil : Rat) ≤ y / 12
  thirteen : y + 1 ≤ 13 * m
theorem Fit.pos {m y : Rat} (f : Fit m y) : 0 < m := by
  have := f.one
  grind
theorem Fit.ypos {m y : Rat} (f : Fit m y) : 0 < y / 12 := by
  have h1 := f.one
  have h2 := f.between
  have h3 : m ≤ (m.ceil : Rat) := Rat.le_ceil
  grind
def stF (m o : Rat) (k : Int) : Int := (o + k * m).floor
def mdF (y k : Rat) (j : Int) : Int := (k + j * (y / 12)).floor
def maF (m o : Rat) (d : Int) : Int := ((((d + 1 : Int) : Rat) - o) / m).ceil - 1
def jF (y k : Rat) (d : Int) : Int := (((d : Rat) - k) / (y / 12)).ceil
theorem lt_ceil_iff {q : Rat} {i : Int} : i < q.ceil ↔ (i : Rat) < q := by
  have h : q.ceil ≤ i ↔ q ≤ (i : Rat) := Rat.ceil_le_iff
  constructor
  · intro hi
    have : ¬ q.ceil ≤ i := by omega
    rw [h] at this
    exact Rat.not_le.mp this
  · intro hi
    have : ¬ q ≤ (i : Rat) := Rat.not_le.mpr hi
    rw [← h] at this
    omega
theorem floor_le_iff {q : Rat} {i : Int} : q.floor ≤ i ↔ q < ((i + 1 : Int) : Rat) := by
  have h := Rat.floor_lt_iff (a := q) (x := i + 1)
  rw [← h]
  omega
/-- the months up to K begin by the day d -/
theorem st_le {m o : Rat} (hm : 0 < m) {k d : Int} : stF m o k ≤ d ↔ k ≤ maF m o d := by
  unfold stF maF
  rw [floor_le_iff]
  have e : k ≤ ((((d + 1 : Int) : Rat) - o) / m).ceil - 1 ↔ k < ((((d + 1 : Int) : Rat) - o) / m).ceil := by omega
  rw [e, lt_ceil_iff, Rat.lt_div_iff hm]
  constructor <;> intro h <;> grind
theorem ma_of {m o : Rat} (hm : 0 < m) {k d : Int} (h1 : stF m o k ≤ d) (h2 : d < stF m o (k + 1)) : maF m o d = k := by
  have a := (st_le hm).mp h1
  have b : ¬ k + 1 ≤ maF m o d := fun z => by
    have := (st_le hm).mpr z
    omega
  omega
theorem st_ma {m o : Rat} (hm : 0 < m) (d : Int) : stF m o (maF m o d) ≤ d := (st_le hm).mpr (Int.le_refl _)
theorem ma_st {m o : Rat} (hm : 0 < m) (d : Int) : d < stF m o (maF m o d + 1) := by
  have : ¬ stF m o (maF m o d + 1) ≤ d := fun z => by
    have := (st_le hm).mp z
    omega
  omega
theorem cast_add1 (k : Int) : ((k + 1 : Int) : Rat) = (k : Rat) + 1 := by
  rw [Rat.intCast_add]
  rfl
theorem st_step {m o : Rat} (hm : 1 ≤ m) (k : Int) : stF m o k + 1 ≤ stF m o (k + 1) := by
  unfold stF
  rw [Rat.le_floor_iff, cast_add1, cast_add1]
  have h := Rat.floor_le (o + (k : Rat) * m)
  grind
theorem md_lt {y k : Rat} (hy : 0 < y / 12) {j d : Int} : mdF y k j < d ↔ j < jF y k d := by
  unfold mdF jF
  rw [Rat.floor_lt_iff, lt_ceil_iff, Rat.lt_div_iff hy]
  constructor <;> intro h <;> grind
theorem md_ge {y k : Rat} (hy : 0 < y / 12) (d : Int) : d ≤ mdF y k (jF y k d) := by
  have : ¬ mdF y k (jF y k d) < d := fun z => by
    have := (md_lt hy).mp z
    omega
  omega
/-- of two months in a row one has a mark -/
theorem two_months {m y o k : Rat} (f : Fit m y) (i : Int) : mdF y k (jF y k (stF m o (i - 1))) < stF m o (i + 1) := by
  have hy := f.ypos
  have h1 : mdF y k (jF y k (stF m o (i - 1)) - 1) < stF m o (i - 1) := (md_lt hy).mpr (by omega)
  unfold mdF at h1 ⊢
  rw [Rat.floor_lt_iff] at h1 ⊢
  have e1 : ((jF y k (stF m o (i - 1)) - 1 : Int) : Rat) = (jF y k (stF m o (i - 1)) : Rat) - 1 := by rw [Rat.intCast_sub]; rfl
  rw [e1] at h1
  have h2 : ((stF m o (i - 1) : Int) : Rat) ≤ o + ((i - 1 : Int) : Rat) * m := Rat.floor_le _
  have h3 : o + ((i + 1 : Int) : Rat) * m - 1 < ((stF m o (i + 1) : Int) : Rat) := Rat.lt_floor
  have e2 : ((i - 1 : Int) : Rat) = (i : Rat) - 1 := by rw [Rat.intCast_sub]; rfl
  rw [e2] at h2
  rw [cast_add1] at h3
  have a := f.one
  have b := f.thirteen
  have c : y / 12 ≤ 2 * m - 1 := by grind
  grind
theorem k0_le {m o : Rat} (hm : 0 < m) (d : Int) : (((d : Rat) - o) / m).floor - 1 ≤ maF m o d := by
  have h : ((((d : Rat) - o) / m).floor - 1) < ((((d + 1 : Int) : Rat) - o) / m).ceil := by
    rw [lt_ceil_iff, Rat.intCast_sub]
    have h1 := Rat.floor_le (((d : Rat) - o) / m)
    have h2 : ((d : Rat) - o) / m < (((d + 1 : Int) : Rat) - o) / m := by
      rw [cast_add1, Rat.lt_div_iff hm, Rat.div_mul_cancel (by grind)]
      grind
    have h3 : ((1 : Int) : Rat) = 1 := rfl
    grind
  unfold maF
  omega
theorem j0_le {y k : Rat} (d : Int) : (((d : Rat) - k) / (y / 12)).floor - 1 ≤ jF y k d := by
  have h : (((d : Rat) - k) / (y / 12)).floor ≤ (((d : Rat) - k) / (y / 12)).ceil := Rat.intCast_le_intCast.mp (Rat.le_trans (Rat.floor_le _) Rat.le_ceil)
  unfold jF
  omega
end MM
namespace MM
theorem floor_divInt {t b : Int} (hb : 0 < b) : (Rat.divInt t b).floor = t / b := by
  rw [Rat.floor_def]
  have h := Rat.num_divInt_den (Rat.divInt t b)
  have hd := den_pos (Rat.divInt t b)
  rw [Rat.divInt_eq_divInt_iff (by omega) (by omega)] at h
  have e1 : t / b = (t * ((Rat.divInt t b).den : Int)) / (b * ((Rat.divInt t b).den : Int)) := (Int.mul_ediv_mul_of_pos_left _ _ hd).symm
  rw [e1, ← h, Int.mul_comm b, Int.mul_ediv_mul_of_pos_left _ _ hb]
theorem inv_eq (q : Rat) : q⁻¹ = Rat.divInt q.den q.num := by
  have := Rat.inv_divInt q.num q.den
  rw [Rat.num_divInt_den] at this
  exact this
theorem div12 (x y : Rat) (hy : y ≠ 0) : Rat.divInt (x.num * 12 * y.den) ((x.den : Int) * y.num) = x / (y / 12) := by
  have e : x / (y / 12) = x * 12 * y⁻¹ := by grind
  rw [e, inv_eq]
  have h1 : x * 12 = Rat.divInt (x.num * 12) ((x.den : Int) * 1) := by
    have h := Rat.divInt_mul_divInt x.num 12 (d₁ := x.den) (d₂ := 1)
    rw [Rat.num_divInt_den] at h
    exact h
  rw [h1, Rat.divInt_mul_divInt, Int.mul_one]
theorem Sz.between {n : Nat} {a x b : Int} (ha : Sz n a) (hb : Sz n b) (h1 : a ≤ x) (h2 : x ≤ b) : Sz n x := by
  unfold Sz at *
  omega
theorem Fit.ypos' {m y : Rat} (f : Fit m y) : 0 < y := by
  have := f.ypos
  grind
theorem num_pos {q : Rat} (h : 0 < q) : 0 < q.num := by
  have := (lt_iff' 0 q).mp h
  rw [show (0 : Rat).num = 0 from rfl, show (0 : Rat).den = 1 from rfl] at this
  omega
end MM
namespace MM
theorem unit_divInt {t b : Int} (h0 : 0 ≤ t) (h1 : t ≤ b) (hb : 0 < b) : 0 ≤ Rat.divInt t b ∧ Rat.divInt t b ≤ 1 := by
  have hb' : (0 : Rat) < (b : Rat) := Rat.intCast_lt_intCast.mpr hb
  have h0' : (0 : Rat) ≤ (t : Rat) := Rat.intCast_le_intCast.mpr h0
  have h1' : (t : Rat) ≤ (b : Rat) := Rat.intCast_le_intCast.mpr h1
  rw [Rat.divInt_eq_div]
  have e : (t : Rat) / (b : Rat) * (b : Rat) = t := Rat.div_mul_cancel (by grind)
  refine ⟨?_, ?_⟩
  · apply Rat.not_lt.mp
    intro z
    have := Rat.mul_lt_mul_of_pos_right z hb'
    grind
  · apply Rat.not_lt.mp
    intro z
    have := Rat.mul_lt_mul_of_pos_right z hb'
    grind
theorem cast_sub1 (w : Int) : ((w - 1 : Int) : Rat) = (w : Rat) - 1 := by
  rw [Rat.intCast_sub]
  rfl
theorem cast_12 (w : Int) : ((12 * w : Int) : Rat) = 12 * (w : Rat) := by
  rw [Rat.intCast_mul]
  rfl
/-- the law's drawn month and year make a calendar -/
theorem fit_drawn {w : Int} (hw : 1 ≤ w) {s r : Rat} (s0 : 0 ≤ s) (s1 : s ≤ 1) (r0 : 0 ≤ r) (r1 : r ≤ 1) :
    Fit ((((12 * w + 1 : Int) : Rat) + s * ((w - 1 : Int) : Rat)) * Rat.divInt 1 13) (((12 * w : Int) : Rat) + r * s * ((w - 1 : Int) : Rat)) := by
  have hW : (1 : Rat) ≤ (w : Rat) := Rat.intCast_le_intCast.mpr hw
  rw [cast_add1, cast_12, cast_sub1, Rat.divInt_eq_div]
  have a0 : 0 ≤ s * ((w : Rat) - 1) := Rat.mul_nonneg s0 (by grind)
  have a1 : s * ((w : Rat) - 1) ≤ 1 * ((w : Rat) - 1) := Rat.mul_le_mul_of_nonneg_right s1 (by grind)
  have b0 : 0 ≤ r * (s * ((w : Rat) - 1)) := Rat.mul_nonneg r0 a0
  have b1 : r * (s * ((w : Rat) - 1)) ≤ 1 * (s * ((w : Rat) - 1)) := Rat.mul_le_mul_of_nonneg_right r1 a0
  have e : r * s * ((w : Rat) - 1) = r * (s * ((w : Rat) - 1)) := Rat.mul_assoc _ _ _
  rw [e]
  have c1 : ((1 : Int) : Rat) = 1 := rfl
  have c13 : ((13 : Int) : Rat) = 13 := rfl
  rw [c1, c13]
  generalize s * ((w : Rat) - 1) = z at *
  generalize r * z = u at *
  refine ⟨by grind, ?_, by grind⟩
  have h : ((12 * (w : Rat) + 1 + z) * (1 / 13)).ceil ≤ w := Rat.ceil_le_iff.mpr (by grind)
  have h' : (((12 * (w : Rat) + 1 + z) * (1 / 13)).ceil : Rat) ≤ (w : Rat) := Rat.intCast_le_intCast.mpr h
  grind
end MM
namespace MM
open PySem PySem.Spec PyProof.Rows L2
/-! ### defs and their calls -/
/-- a def of the module under its name, with its defaults -/
structure Df (K : PySem.W.Frag) (mg : Str → Option Value) (x : Str) (st : Stmt) (dvs : List V) : Prop where
  ex : ∃ (f : Addr) (fd : FuncData), FunD K x x (defArgs st) (defBody st) (defScope st) dvs [] f fd ∧ mg x = some (.ref f)
/-- what is known of a def that is called: its promise, how it is bound -/
structure Ca (P : Program) (w : World) (K : PySem.W.Frag) (mg : Str → Option Value) (base : Heap) (CX : CXT) (k : Nat) (x : Str) (st : Stmt) (dvs : List V) (ps : List Str) (sp : Sp) : Prop where
  ex : ∃ (f : Addr) (fd : FuncData), FunD K x x (defArgs st) (defBody st) (defScope st) dvs [] f fd ∧ mg x = some (.ref f) ∧ FnOk P w K mg base CX k f fd ps sp
/-- the parameters of a def, all given by place -/
def Bd (x qual : Str) (st : Stmt) (ps : List Str) : Prop := ∀ (kV doc pm : Value) (an : Option Addr) (cdv ct : Value) (us : List Value), us.length = ps.length →
  bindArgs (PySem.W.fnOf x qual (defArgs st) (defBody st) (defScope st) .none kV doc pm an cdv ct) ⟨us, []⟩ = pure (ps.zip us)
section
variable {P : Program} {w : World} {K : PySem.W.Frag} {mg : Str → Option Value} {base : Heap} {x : Str} {st : Stmt} {dvs : List V} {N ps : List Str} {k : Nat} {sp : Sp}
theorem ca0 (D : Df K mg x st dvs) (S : FnScope N ps (defScope st)) (len : ∀ vs H Q E, sp vs H Q E → vs.length = ps.length)
    (body : ∀ (f : Addr) (cdv : Value) (A : Around) (outer : List Env) (s : Shared) (H : Hp) (vs : List V) (Q : VK) (E : XK), Room k (A.deeper (envOfC x (defScope st) s.heap.objs.size f cdv)) → sp vs H Q E →
      ∃ t, PSs (cxOf CX0 P w K mg base N x (defScope st) f cdv A outer s H E).nox (defBody st) t ∧ t { nx := fun _ H' => Q .non H', rt := Q } (start N vs) H) : Ca P w K mg base CX0 (k + 1) x st dvs ps sp := by
  obtain ⟨f, fd, F, hm⟩ := D.ex
  refine ⟨f, fd, F, hm, F.ok S len fun cdv A outer s H vs Q E hr h => ?_⟩
  obtain ⟨t, h1, h2⟩ := body f cdv A outer s H vs Q E hr h
  exact ⟨t, h1.nox, h2⟩
theorem caX (D : Df K mg x st dvs) (S : FnScope N ps (defScope st)) (len : ∀ vs H Q E, sp vs H Q E → vs.length = ps.length)
    (body : ∀ (f : Addr) (cdv : Value) (A : Around) (outer : List Env) (s : Shared) (H : Hp) (vs : List V) (Q : VK) (E : XK), Room k (A.deeper (envOfC x (defScope st) s.heap.objs.size f cdv)) → sp vs H Q E →
      ∃ t, PSs (cxOf (L2.CX P w) P w K mg base N x (defScope st) f cdv A outer s H E) (defBody st) t ∧ t { nx := fun _ H' => Q .non H', rt := Q } (start N vs) H) : Ca P w K mg base (L2.CX P w) (k + 1) x st dvs ps sp := by
  obtain ⟨f, fd, F, hm⟩ := D.ex
  exact ⟨f, fd, F, hm, F.ok S len fun cdv A outer s H vs Q E hr h => body f cdv A outer s H vs Q E hr h⟩
theorem FunD.none {qual : Str} {params : Arguments} {bodyS : List Stmt} {scope : Scope} {f : Addr} {fd : FuncData} (F : FunD K x qual params bodyS scope [] [] f fd) :
    ∃ (kV doc pm : Value) (an : Option Addr) (cdv ct : Value), fd = PySem.W.fnOf x qual params bodyS scope .none kV doc pm an cdv ct := by
  obtain ⟨oc, od, dV, kV, doc, pm, an, cdv, ct, osl, rfl, lk, hcd, hD, hK⟩ := F.ex
  rcases hD with ⟨_, rfl⟩ | ⟨e, _⟩
  · exact ⟨kV, doc, pm, an, cdv, ct, rfl⟩
  · exact absurd rfl e
end
section
variable {X : Cx} {CX : CXT} {k j n : Nat} {C : Addr} {x m : Str} {st : Stmt} {sp : Sp} {ps ks : List Str} {dvs : List V} {E : XK} {p pos apos : Pos} {e o : Expr} {es : List Expr} {kws : List Keyword} {ta : TE} {t tk : TA}
/-- f(e, ..), all parameters by place -/
theorem pe_ca (c : Ca X.prog X.w X.K X.mg X.base CX k x st [] ps sp) (b : Bd x x st ps) (hr : Room j X.A) (hk : k ≤ j) (hx : Passes CX X E) (hg : Gl X x) (ha : PA X (e :: es) t)
    (hdb : (x == ("__debug__" : Str)) = false := by decide) (he : starEach (e :: es) X.env = (false, eval e X.env) :: starEach es X.env := by rfl) (hpl : (backTo pos (starEach es X.env)).any (·.1) = false := by rfl) :
    PE X (.Call (.Name x p) (e :: es) [] pos) (tCall sp [] E t) := by
  obtain ⟨f, fd, F, hm, G⟩ := c.ex
  exact pe_call G (hr.mono hk) hg hm F.kp (F.bindsN b) .nil hx ha hdb he hpl
/-- how keywords bind where there is no default: g puts the places' values and the keywords' in order -/
structure Kb (x : Str) (st : Stmt) (n : Nat) (ks ps : List Str) (g : {α : Type} → List α → List α → List α) : Prop where
  bind : ∀ (kV doc pm : Value) (an : Option Addr) (cdv ct : Value) (us ws : List Value), us.length = n → ws.length = ks.length →
    bindArgs (PySem.W.fnOf x x (defArgs st) (defBody st) (defScope st) .none kV doc pm an cdv ct) ⟨us, ks.zip ws⟩ = pure (ps.zip (g us ws))
  rel : ∀ {vs zs : List V} {us ws : List Value}, vs.length = n → zs.length = ks.length → Vals vs us → Vals zs ws → Vals (g vs zs) (g us ws)
/-- f(k = v, ..) of a def without defaults -/
theorem pe_caK {g : {α : Type} → List α → List α → List α} (c : Ca X.prog X.w X.K X.mg X.base CX k x st [] ps sp) (b : Kb x st 0 ks ps g) (hr : Room j X.A) (hk : k ≤ j) (hx : Passes CX X E) (hg : Gl X x) (hkw : PK X kws tk)
    (hall : (backToKw pos (keywordEach kws X.env)).all (·.1.isSome) = true := by rfl) (hks : (backToKw pos (keywordEach kws X.env)).filterMap (·.1) = ks := by rfl) (hdb : (x == ("__debug__" : Str)) = false := by decide)
    (hpl : ((backTo pos (starEach [] X.env)).any (·.1) || (backToKw pos (keywordEach kws X.env)).any (·.1.isNone)) = false := by rfl) :
    PE X (.Call (.Name x p) [] kws pos) (fun σ H Q => tk σ H fun zs H2 => zs.length = ks.length ∧ sp (g [] zs) H2 Q E) := by
  obtain ⟨f, fd, F, hm, G⟩ := c.ex
  obtain ⟨kV, doc, pm, an, cdv, ct, rfl⟩ := FunD.none F
  refine ⟨fun pins s σ H Q I h => ?_⟩
  refine wpAny_Call_Name_kw (ld_glob I hg hm ?_ hdb)
  refine PySem.W.callWith_KW0 (h₀ := X.base) I.ok.mod.kin F.kp hall ?_ hpl
  refine thn (hkw.run pos pins s σ H _ I h) fun ws s2 ⟨zs, H2, I2, rz, l2, q2⟩ => ⟨I2.kIn, ?_⟩
  rw [hks]
  have r2 : Vals (g [] zs) (g [] ws) := b.rel rfl l2 .nil rz
  refine wpAny_call (codeAny_mono (G.run X.A X.stack s2 H2 ⟨[], ks.zip ws⟩ (g [] ws) (g [] zs) Q E (hr.mono hk) I2.env0 (.of_eq (b.bind kV doc pm an cdv ct [] ws rfl (rz.length.symm.trans l2))) r2 q2) fun r s' hq => ?_)
  match r, hq with
  | .error e, hq => exact hx pins σ H2 s2 e s' I2 hq
  | .ok (.ret u), hq => exact I2.after hq
  | .ok .next, hq => exact False.elim hq
  | .ok .brk, hq => exact False.elim hq
  | .ok .cont, hq => exact False.elim hq
end
/-! ### whole numbers -/
section
variable {X : Cx}
/-- // by any divisor but 0 -/
def CDivA (_ j : Int) : Prop := j ≠ 0 ∧ Sz 8900 j
theorem op_fdivA : OpR X (binaryOp .FloorDiv) (rI CDivA fun i j => .int (i.fdiv j)) := opI fun i j _ _ _ _ _ hc q =>
  PyProof.Rows.floordiv_int hc.1 q (.inl (PyProof.noPylong_of_log2 (Nat.lt_of_lt_of_le (PySem.Flt.log2_lt_of (by decide) hc.2) (by decide))))
/-- * of two numbers of some thousand bits -/
def CMulA (i j : Int) : Prop := Sz 100000 i ∧ Sz 100000 j
theorem op_mulA : OpR X (binaryOp .Mult) (rI CMulA fun i j => .int (i * j)) := opI fun i j _ _ _ _ _ hc q =>
  PyProof.Rows.mul_int q (CMulW.ok (wide_mul hc.1 hc.2 (by decide) (by decide) (by decide)))
end
/-! ### a pick out of a written list -/
theorem pick {α : Type} {xs : List α} {z : Int} {P : α → Prop} (h0 : 0 ≤ z) (h1 : z < xs.length) (h : ∀ x ∈ xs, P x) : ∃ v, atI xs z = some v ∧ P v := by
  have hl : z.toNat < xs.length := by omega
  refine ⟨xs[z.toNat], ?_, h _ (List.getElem_mem hl)⟩
  unfold atI ixN
  rw [if_pos h0, if_pos h1]
  exact List.getElem?_eq_getElem hl
end MM
namespace MM
open PySem PySem.Spec PyProof.Rows L2
/-- what binds where some parameters have defaults: n given by place, the defaults from the j-th on fill up -/
def Bd1 (x qual : Str) (st : Stmt) (ps : List Str) (n j m : Nat) : Prop := ∀ (T : Addr) (kV doc pm : Value) (an : Option Addr) (cdv ct : Value) (us its : List Value), us.length = n → its.length = m →
  ∃ k, bindArgs (PySem.W.fnOf x qual (defArgs st) (defBody st) (defScope st) (.ref T) kV doc pm an cdv ct) ⟨us, []⟩ = seqItems? (.ref T) >>= k ∧ k (some its.toArray) = pure (ps.zip (us ++ its.drop j))
/-- the __init__ of a class -/
structure Di (K : PySem.W.Frag) (mg : Str → Option Value) (x : Str) (C : Addr) (qual : Str) (st : Stmt) (dvs : List V) : Prop where
  ex : ∃ (f : Addr) (fd : FuncData), FunD K "__init__" qual (defArgs st) (defBody st) (defScope st) dvs [] f fd ∧ Mk K C f ∧ mg x = some (.ref C)
structure Ci (P : Program) (w : World) (K : PySem.W.Frag) (mg : Str → Option Value) (base : Heap) (CX : CXT) (k : Nat) (x : Str) (C : Addr) (qual : Str) (st : Stmt) (dvs : List V) (ps : List Str) (sp : Sp) : Prop where
  ex : ∃ (f : Addr) (fd : FuncData), FunD K "__init__" qual (defArgs st) (defBody st) (defScope st) dvs [] f fd ∧ Mk K C f ∧ mg x = some (.ref C) ∧ FnOk P w K mg base CX k f fd ps sp
/-- a method of a class -/
structure Dm (K : PySem.W.Frag) (C : Addr) (m qual : Str) (st : Stmt) : Prop where
  ex : ∃ (f : Addr) (fd : FuncData), FunD K m qual (defArgs st) (defBody st) (defScope st) [] [] f fd ∧ Meth K C m f ∧ Cls K C
structure Cm (P : Program) (w : World) (K : PySem.W.Frag) (mg : Str → Option Value) (base : Heap) (CX : CXT) (k : Nat) (C : Addr) (m qual : Str) (st : Stmt) (ps : List Str) (sp : Sp) : Prop where
  ex : ∃ (f : Addr) (fd : FuncData), FunD K m qual (defArgs st) (defBody st) (defScope st) [] [] f fd ∧ Meth K C m f ∧ Cls K C ∧ FnOk P w K mg base CX k f fd ps sp
section
variable {P : Program} {w : World} {K : PySem.W.Frag} {mg : Str → Option Value} {base : Heap} {x m qual : Str} {C : Addr} {st : Stmt} {dvs : List V} {N ps : List Str} {k : Nat} {sp : Sp}
theorem ci0 (D : Di K mg x C qual st dvs) (S : FnScope N ps (defScope st)) (len : ∀ vs H Q E, sp vs H Q E → vs.length = ps.length)
    (body : ∀ (f : Addr) (cdv : Value) (A : Around) (outer : List Env) (s : Shared) (H : Hp) (vs : List V) (Q : VK) (E : XK), Room k (A.deeper (envOfC qual (defScope st) s.heap.objs.size f cdv)) → sp vs H Q E →
      ∃ t, PSs (cxOf CX0 P w K mg base N qual (defScope st) f cdv A outer s H E).nox (defBody st) t ∧ t { nx := fun _ H' => Q .non H', rt := Q } (start N vs) H) : Ci P w K mg base CX0 (k + 1) x C qual st dvs ps sp := by
  obtain ⟨f, fd, F, M, hm⟩ := D.ex
  refine ⟨f, fd, F, M, hm, F.ok S len fun cdv A outer s H vs Q E hr h => ?_⟩
  obtain ⟨t, h1, h2⟩ := body f cdv A outer s H vs Q E hr h
  exact ⟨t, h1.nox, h2⟩
theorem ciX (D : Di K mg x C qual st dvs) (S : FnScope N ps (defScope st)) (len : ∀ vs H Q E, sp vs H Q E → vs.length = ps.length)
    (body : ∀ (f : Addr) (cdv : Value) (A : Around) (outer : List Env) (s : Shared) (H : Hp) (vs : List V) (Q : VK) (E : XK), Room k (A.deeper (envOfC qual (defScope st) s.heap.objs.size f cdv)) → sp vs H Q E →
      ∃ t, PSs (cxOf (L2.CX P w) P w K mg base N qual (defScope st) f cdv A outer s H E) (defBody st) t ∧ t { nx := fun _ H' => Q .non H', rt := Q } (start N vs) H) : Ci P w K mg base (L2.CX P w) (k + 1) x C qual st dvs ps sp := by
  obtain ⟨f, fd, F, M, hm⟩ := D.ex
  exact ⟨f, fd, F, M, hm, F.ok S len fun cdv A outer s H vs Q E hr h => body f cdv A outer s H vs Q E hr h⟩
theorem cm0 (D : Dm K C m qual st) (S : FnScope N ps (defScope st)) (len : ∀ vs H Q E, sp vs H Q E → vs.length = ps.length)
    (body : ∀ (f : Addr) (cdv : Value) (A : Around) (outer : List Env) (s : Shared) (H : Hp) (vs : List V) (Q : VK) (E : XK), Room k (A.deeper (envOfC qual (defScope st) s.heap.objs.size f cdv)) → sp vs H Q E →
      ∃ t, PSs (cxOf CX0 P w K mg base N qual (defScope st) f cdv A outer s H E).nox (defBody st) t ∧ t { nx := fun _ H' => Q .non H', rt := Q } (start N vs) H) : Cm P w K mg base CX0 (k + 1) C m qual st ps sp := by
  obtain ⟨f, fd, F, M, hc⟩ := D.ex
  refine ⟨f, fd, F, M, hc, F.ok S len fun cdv A outer s H vs Q E hr h => ?_⟩
  obtain ⟨t, h1, h2⟩ := body f cdv A outer s H vs Q E hr h
  exact ⟨t, h1.nox, h2⟩
end
section
variable {X : Cx} {CX : CXT} {k j n d : Nat} {C : Addr} {x m qual : Str} {st : Stmt} {sp : Sp} {ps ks : List Str} {dvs : List V} {E : XK} {p pos apos : Pos} {e o : Expr} {es : List Expr} {kws : List Keyword} {ta : TE} {t tk : TA}
/-- C(e, ..): n values, then the defaults from the d-th on; n counts self too -/
theorem pe_ci (c : Ci X.prog X.w X.K X.mg X.base CX k x C qual st dvs ps sp) (b : Bd1 "__init__" qual st ps n d dvs.length) (hd : dvs ≠ []) (hn : n + (dvs.length - d) = ps.length) (hr : Room j X.A) (hk : k + 1 ≤ j) (hx : Passes CX X E) (hg : Gl X x) (ha : PA X (e :: es) t)
    (hdb : (x == ("__debug__" : Str)) = false := by decide) (he : starEach (e :: es) X.env = (false, eval e X.env) :: starEach es X.env := by rfl) (hpl : (backTo pos (starEach es X.env)).any (·.1) = false := by rfl) :
    PE X (.Call (.Name x p) (e :: es) [] pos) (tMake C sp (dvs.drop d) E t) := by
  obtain ⟨f, fd, F, M, hm, G⟩ := c.ex
  obtain ⟨ds, r, bb⟩ := F.binds1 n d hd hn b
  exact pe_make M G (hr.mono hk) hg hm bb r hx ha hdb he hpl
/-- o.m(e, ..) -/
theorem pe_cm {pl : Sem Bool} (c : Cm X.prog X.w X.K X.mg X.base CX k C m qual st ps sp) (b : Bd m qual st ps) (hr : Room j X.A) (hk : k ≤ j) (hx : Passes CX X E) (he : PE X o ta) (ha : PA X (e :: es) t)
    (hst : starEach (e :: es) X.env = (false, eval e X.env) :: starEach es X.env := by rfl) (hpl : (backTo pos (starEach es X.env)).any (·.1) = false := by rfl)
    (ht : eval (.Call (.Attribute o m apos) (e :: es) [] pos) X.env = (eval o X.env >>= fun ov => standAt apos.atName >>= fun _ => holding [ov] (getMethod ov m pl) >>= fun q => callWith pos q.1 q.2 (backTo pos (starEach (e :: es) X.env)) (backToKw pos (keywordEach [] X.env))) := by rfl) :
    PE X (.Call (.Attribute o m apos) (e :: es) [] pos) (tMeth C m sp [] E ta t) := by
  obtain ⟨f, fd, F, M, hc, G⟩ := c.ex
  exact pe_meth (pl := pl) he hc M G (hr.mono hk) (F.bindsN b) .nil hx ha hst hpl ht
/-- how keywords bind in a method, or a def, without defaults -/
structure Kbm (x qual : Str) (st : Stmt) (n : Nat) (ks ps : List Str) (g : {α : Type} → List α → List α → List α) : Prop where
  bind : ∀ (kV doc pm : Value) (an : Option Addr) (cdv ct : Value) (us ws : List Value), us.length = n → ws.length = ks.length →
    bindArgs (PySem.W.fnOf x qual (defArgs st) (defBody st) (defScope st) .none kV doc pm an cdv ct) ⟨us, ks.zip ws⟩ = pure (ps.zip (g us ws))
  rel : ∀ {vs zs : List V} {us ws : List Value}, vs.length = n → zs.length = ks.length → Vals vs us → Vals zs ws → Vals (g vs zs) (g us ws)
/-- o.m(k = v, ..) -/
theorem pe_cmK {pl : Sem Bool} {g : {α : Type} → List α → List α → List α} (c : Cm X.prog X.w X.K X.mg X.base CX k C m qual st ps sp) (b : Kbm m qual st 1 ks ps g) (hr : Room j X.A) (hk : k ≤ j) (hx : Passes CX X E) (he : PE X o ta) (hkw : PK X kws tk)
    (hall : (backToKw pos (keywordEach kws X.env)).all (·.1.isSome) = true := by rfl) (hks : (backToKw pos (keywordEach kws X.env)).filterMap (·.1) = ks := by rfl)
    (hpl : ((backTo pos (starEach [] X.env)).any (·.1) || (backToKw pos (keywordEach kws X.env)).any (·.1.isNone)) = false := by rfl)
    (ht : eval (.Call (.Attribute o m apos) [] kws pos) X.env = (eval o X.env >>= fun ov => standAt apos.atName >>= fun _ => holding [ov] (getMethod ov m pl) >>= fun q => callWith pos q.1 q.2 (backTo pos (starEach [] X.env)) (backToKw pos (keywordEach kws X.env))) := by rfl) :
    PE X (.Call (.Attribute o m apos) [] kws pos) (fun σ H Q => ta σ H fun x H1 => ∃ a dx fs, x = .ref a ∧ H1 a = some (.ins C dx fs) ∧ fs.lookup m = none ∧ tk σ H1 fun zs H2 => zs.length = ks.length ∧ sp (g [.ref a] zs) H2 Q E) := by
  obtain ⟨f, fd, F, M, hc, G⟩ := c.ex
  obtain ⟨kV, doc, pm, an, cdv, ct, rfl⟩ := FunD.none F
  refine ⟨fun pins s σ H Q I h => ?_⟩
  refine PySem.W.methodCall_KW (pl := pl) (thn (he.run pins s σ H _ I h) fun u s1 ⟨y, H1, I1, ry, a, dx, fs, ey, ea, l, q⟩ => ?_) ht
  subst ey
  obtain rfl : u = Value.ref a := ry
  refine getmeth_ok I1 ea hc M l ?_
  refine PySem.W.callWith_KW0 (first := [.ref a]) (h₀ := X.base) I.ok.mod.kin M.kp hall ?_ hpl
  refine thn (hkw.run pos pins s1 σ H1 _ I1 q) fun ws s2 ⟨zs, H2, I2, rz, l2, q2⟩ => ⟨I2.kIn, ?_⟩
  rw [hks]
  have r2 : Vals (g [V.ref a] zs) (g [Value.ref a] ws) := b.rel rfl l2 (.cons rfl .nil) rz
  refine wpAny_call (codeAny_mono (G.run X.A X.stack s2 H2 ⟨[.ref a], ks.zip ws⟩ (g [.ref a] ws) (g [.ref a] zs) Q E (hr.mono hk) I2.env0 (.of_eq (b.bind kV doc pm an cdv ct [.ref a] ws rfl (rz.length.symm.trans l2))) r2 q2) fun r s' hq => ?_)
  match r, hq with
  | .error e, hq => exact hx pins σ H2 s2 e s' I2 hq
  | .ok (.ret u), hq => exact I2.after hq
  | .ok .next, hq => exact False.elim hq
  | .ok .brk, hq => exact False.elim hq
  | .ok .cont, hq => exact False.elim hq
end
/-- the keywords take their places: one self, the keywords in the parameters' order -/
def g1 {α : Type} : List α → List α → List α := fun us ws => us ++ ws
theorem g1_rel {n m : Nat} {vs zs : List V} {us ws : List Value} (_ : vs.length = n) (_ : zs.length = m) (h : Vals vs us) (k : Vals zs ws) : Vals (g1 vs zs) (g1 us ws) := h.append k
/-- how C(.., k = v, ..) binds where __init__ has defaults -/
structure Kd (qual : Str) (st : Stmt) (dn n : Nat) (ks ps : List Str) (g : {α : Type} → List α → List α → List α → List α) : Prop where
  bind : ∀ (T : Addr) (kV doc pm : Value) (an : Option Addr) (cdv ct : Value) (us its ws : List Value), us.length = n → its.length = dn → ws.length = ks.length →
    ∃ k, bindArgs (PySem.W.fnOf "__init__" qual (defArgs st) (defBody st) (defScope st) (.ref T) kV doc pm an cdv ct) ⟨us, ks.zip ws⟩ = seqItems? (.ref T) >>= k ∧ k (some its.toArray) = pure (ps.zip (g us its ws))
  rel : ∀ {vs ds zs : List V} {us its ws : List Value}, Vals vs us → Vals ds its → Vals zs ws → Vals (g vs ds zs) (g us its ws)
section
variable {X : Cx} {CX : CXT} {k j n d : Nat} {C : Addr} {x m qual : Str} {st : Stmt} {sp : Sp} {ps ks : List Str} {dvs : List V} {E : XK} {p pos apos : Pos} {e o : Expr} {es : List Expr} {kws : List Keyword} {ta : TE} {t tk : TA}
theorem pe_ciK0 {g : {α : Type} → List α → List α → List α → List α} (c : Ci X.prog X.w X.K X.mg X.base CX k x C qual st dvs ps sp) (b : Kd qual st dvs.length 1 ks ps g) (hd : dvs ≠ []) (hr : Room j X.A) (hk : k + 1 ≤ j) (hx : Passes CX X E) (hg : Gl X x) (hkw : PK X kws tk)
    (hall : (backToKw pos (keywordEach kws X.env)).all (·.1.isSome) = true := by rfl) (hks : (backToKw pos (keywordEach kws X.env)).filterMap (·.1) = ks := by rfl) (hdb : (x == ("__debug__" : Str)) = false := by decide)
    (hpl : ((backTo pos (starEach [] X.env)).any (·.1) || (backToKw pos (keywordEach kws X.env)).any (·.1.isNone)) = false := by rfl) :
    PE X (.Call (.Name x p) [] kws pos) (tMakeK C 0 ks.length sp (fun vs zs => g vs dvs zs) E tNil tk) := by
  obtain ⟨f, fd, F, M, hm, G⟩ := c.ex
  obtain ⟨its, hb⟩ := F.kbindsD 1 ks g hd b.rel b.bind
  exact pe_makeK0 M G (hr.mono hk) hg hm hb hx hkw hall hks hdb hpl
theorem pe_ciK {g : {α : Type} → List α → List α → List α → List α} (c : Ci X.prog X.w X.K X.mg X.base CX k x C qual st dvs ps sp) (b : Kd qual st dvs.length (n + 1) ks ps g) (hd : dvs ≠ []) (hr : Room j X.A) (hk : k + 1 ≤ j) (hx : Passes CX X E) (hg : Gl X x) (ha : PA X (e :: es) t) (hkw : PK X kws tk)
    (hall : (backToKw pos (keywordEach kws X.env)).all (·.1.isSome) = true := by rfl) (hks : (backToKw pos (keywordEach kws X.env)).filterMap (·.1) = ks := by rfl) (hdb : (x == ("__debug__" : Str)) = false := by decide)
    (he : starEach (e :: es) X.env = (false, eval e X.env) :: starEach es X.env := by rfl) (hpl : ((backTo pos (starEach (e :: es) X.env)).any (·.1) || (backToKw pos (keywordEach kws X.env)).any (·.1.isNone)) = false := by rfl) :
    PE X (.Call (.Name x p) (e :: es) kws pos) (tMakeK C n ks.length sp (fun vs zs => g vs dvs zs) E t tk) := by
  obtain ⟨f, fd, F, M, hm, G⟩ := c.ex
  obtain ⟨its, hb⟩ := F.kbindsD (n + 1) ks g hd b.rel b.bind
  exact pe_makeK M G (hr.mono hk) hg hm hb hx ha hkw hall hks hdb he hpl
end
end MM
namespace MM
open PySem PySem.Spec PyProof.Rows L2
/-! ### range(a, b) of numbers of any size -/
theorem turn_long {P : Program} {w : World} {K : PySem.W.Frag} {tg : Expr} (it : Addr) (lo : Int) (n : Nat) : Turn P w K tg (Itr lo n) [it] it (fun i h => IsLongIter h it (lo + (i : Nat) * 1) ((n : Int) - (i : Nat)) 1) := by
  refine { mem := List.mem_singleton.mpr rfl, obj := fun i h st b hb => ?_, keep := fun i h h' st k => k it (List.mem_singleton.mpr rfl) _ st, item := ?_, done := ?_, self := fun _ _ _ _ _ st h => wpAny_pyIter_longiter st h }
  · cases List.mem_singleton.mp hb
    exact ⟨_, st, fun v z => nomatch (show Data.fields _ = Data.cell v from z)⟩
  · intro X hP hw hK hc i pins s σ H E I hf st hg
    subst hP; subst hw; subst hK
    obtain ⟨f0, f1, f2, f3, f4, f5⟩ := hf it (List.mem_singleton.mpr rfl)
    refine (Walks.longrange (prog := X.prog) (w := X.w) (I.ok.hd hc) it lo 1 n).item i s _ _ hg st fun v h' tk hv st' kk => ?_
    obtain ⟨t, rfl⟩ := hv
    have J : Inv X pins σ H { s with heap := h', toks := tk } := I.turned (fun b o hb e => kk b o (fun z => hb (List.mem_singleton.mp z)) e) f0 f1 f3 f4 f5
    refine ⟨_, rfl, go_of (s := { s with heap := h', toks := tk }) (n := "longrange_iterator") st' rfl rfl (by decide) ⟨.int (lo + i), H, J, ⟨t, ?_⟩, ⟨rfl, rfl⟩, st', fun b hb => (hf b hb).1⟩⟩
    rw [Int.mul_one]
  · intro X hP hw hK hc i pins s σ H E I hf st hg
    subst hP; subst hw; subst hK
    obtain ⟨f0, f1, f2, f3, f4, f5⟩ := hf it (List.mem_singleton.mpr rfl)
    have hl : n ≤ i := hg
    exact wpAny_pyNext_long_end (I.ok.hd hc) st (by omega) fun h' eb => ⟨rfl, I.turned (t' := s.toks) (fun b o hb e => eb b o hb e) f0 f1 f3 f4 f5⟩
section
variable {X : Cx} {tg : Expr}
theorem long_it {pins : List (Addr × Obj)} {σ : L2.St} {H : Hp} {s : Shared} {R : It → Hp → Prop} {E : Value → Shared → Prop} {lo hi : Int} {t u v : Tok} {tk : Nat} (I : Inv X pins σ H s) (q : R (Itr lo (hi - lo).toNat) H) :
    wpAny (model X.prog X.w) X.A (pyIter (.ref s.heap.objs.size)) (PIE X pins σ tg R) E { s with heap := s.heap.push { cls := .type "range", data := .fields #[.int lo t, .int hi u, .int 1 v] }, toks := tk } := by
  have J : Inv X pins σ H { s with heap := s.heap.push { cls := .type "range", data := .fields #[.int lo t, .int hi u, .int 1 v] }, toks := tk } := I.kept fun b o e => Heap.get?_push_of_some _ e
  have e0 : lo + ((0 : Nat) : Int) * 1 = lo := by simp
  have e1 : (((hi - lo).toNat : Nat) : Int) - ((0 : Nat) : Int) = Builtin.Range.rangeSize lo hi 1 := by
    rw [rangeSize_one]
    split <;> omega
  cases hsm : Builtin.Range.small lo hi 1 with
  | true =>
    refine wpAny_pyIter_range (IsRange.new ..) hsm ⟨_, [_], _, _, H, rfl, J.kept (t' := tk) fun b o e => Heap.get?_push_of_some _ e, turn_range _ lo (hi - lo).toNat, ?_, fun b hb => ?_, q⟩
    · show IsRangeIter _ _ (lo + ((0 : Nat) : Int) * 1) ((((hi - lo).toNat : Nat) : Int) - ((0 : Nat) : Int)) 1
      rw [e0, e1]
      exact Heap.get?_push_size _ rfl
    · cases List.mem_singleton.mp hb
      exact J.fpOk (Nat.le_refl _) (J.hok.fresh (Nat.le_refl _))
  | false =>
    refine wpAny_pyIter_longrange (IsRange.new ..) hsm ⟨_, [_], _, _, H, rfl, J.kept (t' := tk) fun b o e => Heap.get?_push_of_some _ e, turn_long _ lo (hi - lo).toNat, ?_, fun b hb => ?_, q⟩
    · show IsLongIter _ _ (lo + ((0 : Nat) : Int) * 1) ((((hi - lo).toNat : Nat) : Int) - ((0 : Nat) : Int)) 1
      rw [e0, e1]
      exact Heap.get?_push_size _ rfl
    · cases List.mem_singleton.mp hb
      exact J.fpOk (Nat.le_refl _) (J.hok.fresh (Nat.le_refl _))
def iRngA (ta : TA) : TI := fun σ H R => ta σ H fun vs H1 => ∃ i j : Int, vs = [.int i, .int j] ∧ R (Itr i (j - i).toNat) H1
theorem pi_rangeA {a b : Expr} {ta : TA} {p pos : Pos} (hg : Gl X "range") (hm : X.mg "range" = none) (ha : PA X [a, b] ta) (hs : starEach [a, b] X.env = [(false, eval a X.env), (false, eval b X.env)] := by rfl) (hs2 : starEach [b] X.env = [(false, eval b X.env)] := by rfl) :
    PI X tg (.Call (.Name "range" p) [a, b] [] pos) (iRngA ta) := by
  refine ⟨fun pins s σ H R I h => Call_ (ld_blt I hg hm boot_range (PyProof.Rows.callWith_type1 (thn (ha.run pos pins s σ H _ I h) fun us s1 ⟨vs, H1, I1, r1, q1⟩ => ?_) (by rw [hs, hs2]) (by rw [hs2]; rfl)))⟩
  obtain ⟨i, j, e, q⟩ := q1
  subst e
  obtain ⟨u1, u2, rfl, ⟨t, rfl⟩, ⟨t', rfl⟩⟩ := vals2 r1
  exact call_range_2 (long_it I1 q)
end
end MM
namespace MM
open PySem PySem.Spec PyProof.Rows L2
section
variable {K : PySem.W.Frag} {h : Heap} {mg : Str → Option Value} {x m qual : Str} {st : Stmt} {f C T : Addr} {oc kV doc pm cdv ct cT : Value} {od an dT : Option Addr} {osl sT : Array (Option Value)} {nT : Nat}
theorem df_mk (X : K.In h) (G : h.Ns mainGlobals mg) (a : PySem.W.nsIn K mainGlobals x = some (some (.ref f))) (l : K.lookup f = some ⟨oc, od, .func (PySem.W.fnOf x x (defArgs st) (defBody st) (defScope st) .none kV doc pm an cdv ct), osl⟩)
    (c : PySem.W.codeIn K cdv x = true) (k : PySem.W.keepIn K (.ref f) = true) : Df K mg x st [] :=
  ⟨f, _, ⟨⟨oc, od, .none, kV, doc, pm, an, cdv, ct, osl, rfl, l, c, .inl ⟨rfl, rfl⟩, .inl rfl⟩, k⟩, PySem.W.mg_of X G a⟩
theorem dm_mk (cl : Cls K C) (a : PySem.W.findIn K (.ref C) m = some (some (.ref f))) (i : PySem.W.isFn K (.ref f) = true) (l : K.lookup f = some ⟨oc, od, .func (PySem.W.fnOf m qual (defArgs st) (defBody st) (defScope st) .none kV doc pm an cdv ct), osl⟩)
    (c : PySem.W.codeIn K cdv qual = true) (k : PySem.W.keepIn K (.ref f) = true) : Dm K C m qual st :=
  ⟨f, _, ⟨⟨oc, od, .none, kV, doc, pm, an, cdv, ct, osl, rfl, l, c, .inl ⟨rfl, rfl⟩, .inl rfl⟩, k⟩, ⟨a, i, k⟩, cl⟩
theorem di_mk {its : List Value} {dvs : List V} (hC : mg x = some (.ref C)) (a : PySem.W.findIn K (.ref C) "__init__" = some (some (.ref f))) (i : PySem.W.isFn K (.ref f) = true)
    (l : K.lookup f = some ⟨oc, od, .func (PySem.W.fnOf "__init__" qual (defArgs st) (defBody st) (defScope st) (.ref T) kV doc pm an cdv ct), osl⟩) (c : PySem.W.codeIn K cdv qual = true) (k : PySem.W.keepIn K (.ref f) = true)
    (mk : PySem.W.makesIn K C = true) (kc : PySem.W.keepIn K (.ref C) = true) {oT : Obj} (lT : K.lookup T = some oT) (eT : oT.data = .seq its.toArray nT) (r : Vals dvs its) (ne : dvs ≠ []) : Di K mg x C qual st dvs :=
  ⟨f, _, ⟨⟨oc, od, .ref T, kV, doc, pm, an, cdv, ct, osl, rfl, l, c, .inr ⟨ne, T, _, its, nT, rfl, lT, eT, r⟩, .inl rfl⟩, k⟩, ⟨mk, a, i, kc⟩, hC⟩
theorem kit_no {t : Value} (iC : PySem.W.isClsIn K C = true) (tC : PySem.W.typeIn K (.ref C) = some (.type "type")) (ht : (t == Value.ref C) = false) (sI : PySem.W.subIn K t (.ref C) = some false) : PySem.W.kitOne K t (.ref C) = some false := by
  unfold PySem.W.kitOne PySem.W.kitCls
  have iC' : (PySem.W.clsIn K C).isSome = true := iC
  rw [ht, if_neg Bool.false_ne_true]
  show (if ((PySem.W.clsIn K C).isSome && PySem.W.typeIn K (.ref C) == some (.type "type")) = true then PySem.W.subIn K t (.ref C) else none) = some false
  rw [iC', tC, if_pos (by simp)]
  exact sI
theorem fund_inj {params : Arguments} {body : List Stmt} {scope : Scope} {dvs : List V} {kws : List (Str × V)} {fd fd' : FuncData} (F : FunD K x qual params body scope dvs kws f fd) (F' : FunD K x qual params body scope dvs kws f fd') : fd = fd' := by
  obtain ⟨oc, od, dV, kV, doc, pm, an, cdv, ct, osl, e, lk, _⟩ := F.ex
  obtain ⟨oc', od', dV', kV', doc', pm', an', cdv', ct', osl', e', lk', _⟩ := F'.ex
  rw [lk] at lk'
  injection lk' with z
  injection z with z1 z2 z3 z4
  injection z3
end
/-- from the law's promise to what the end of the walk asks -/
theorem fin_of {P : Program} {w : World} {K : PySem.W.Frag} {mg : Str → Option Value} {st : Stmt} {k : Nat} {x : Str} {sp : Sp} {fa : Addr} (hfa : mg "law" = some (.ref fa)) (D : Df K mg "law" st []) (b : Bd "law" "law" st [x])
    (h : ∀ base : Heap, Ca P w K mg base CX0 k "law" st [] [x] sp) :
    ∃ fd : FuncData, (∀ (s : Shared) (u : Value), BindsTo s fd ⟨[u], []⟩ [(x, u)]) ∧ ∀ base : Heap, K.In base → base.Ns mainGlobals mg → FnOk P w K mg base CX0 k fa fd [x] sp := by
  obtain ⟨f, fd, F, hm⟩ := D.ex
  have e := hfa.symm.trans hm
  cases e
  refine ⟨fd, fun s u => ?_, fun base _ _ => ?_⟩
  · obtain ⟨kV, doc, pm, an, cdv, ct, rfl⟩ := FunD.none F
    exact .of_eq (b kV doc pm an cdv ct [u] rfl)
  · obtain ⟨f', fd', F', hm', G⟩ := (h base).ex
    have e' := hm.symm.trans hm'
    cases e'
    have e2 := fund_inj F F'
    subst e2
    exact G
end MM
namespace MM
open PySem PySem.Spec PySem.Calls PyProof.Rows L2
/-! ### str(x) of an instance with its own __str__ -/
def rStrO (C : Addr) (sp : Sp) (E : XK) : List V → Hp → VK → Prop := fun xs H Q => ∃ (a dx : Addr) (fs : List (Str × V)), xs = [.ref a] ∧ H a = some (.ins C dx fs) ∧ sp [.ref a] H (fun v H' => ∃ x : Str, v = .str x ∧ Q (.str x) H') E
section
variable {X : Cx} {CX : CXT} {k : Nat} {C f : Addr} {fd : FuncData} {ps : List Str} {sp : Sp} {E : XK}
theorem call_strO (F : FnOk X.prog X.w X.K X.mg X.base CX k f fd ps sp) (hs : PySem.W.findIn X.K (.ref C) "__str__" = some (some (.ref f))) (hf : PySem.W.isFn X.K (.ref f) = true) (hb : Binds X.K fd ps []) (hx : Passes CX X E) (hr : Room (k + 2) X.A) : CallR X (.type "str") (rStrO C sp E) := by
  intro pins s σ H xs us Q I r h
  obtain ⟨a, dx, fs, rfl, ha, hq⟩ := h
  obtain ⟨u, rfl, r1⟩ := vals1 r
  cases (show u = Value.ref a from r1)
  obtain ⟨mA, J, _⟩ := ins_get I.hok ha
  obtain ⟨od, J, _⟩ := J.look
  have hr1 : Room (k + 1) X.A.in1 := hr.in1
  have hr2 : Room k X.A.in1.in1 := hr1.in1
  have hl : ([Value.ref a] ++ []).length = ps.length := (show ([V.ref a] : List V).length = _ from F.len _ _ _ _ hq)
  refine PySem.W.kso_call hr2.units0 I.kIn J hs hf (wpAny_call (codeAny_mono (F.run X.A.in1.in1 X.stack s H ⟨[.ref a], []⟩ [.ref a] [.ref a] _ E hr2 I.env0.in1.in1 (hb s [.ref a] I.kIn hl) (.cons rfl .nil) hq) fun res s' hres => ?_))
  match res, hres with
  | .error er, hres => exact hx pins σ H s er s' I hres
  | .ok .next, hres => exact hres.elim
  | .ok .brk, hres => exact hres.elim
  | .ok .cont, hres => exact hres.elim
  | .ok (.ret u), hres =>
    obtain ⟨z, H', I', rz, x, rfl, q⟩ := I.after hres
    obtain ⟨t, rfl⟩ := rz
    exact ⟨.str x, H', I', ⟨t, rfl⟩, q⟩
/-- x == y by x's own __eq__, whatever y is -/
def rEqO (K : PySem.W.Frag) (C : Addr) (sp : Sp) (E : XK) : R2 := fun x y H Q => ∃ (a dx : Addr) (fs : List (Str × V)) (t : Value), x = .ref a ∧ H a = some (.ins C dx fs) ∧ TyX K H y t ∧ PySem.W.notFirst K C t = true ∧ sp [.ref a, y] H (fun v H' => ∃ b : Bool, v = .bl b ∧ Q (.bl b) H') E
theorem op_eqO (F : FnOk X.prog X.w X.K X.mg X.base CX k f fd ps sp) (hs : PySem.W.findIn X.K (.ref C) "__eq__" = some (some (.ref f))) (hf : PySem.W.isFn X.K (.ref f) = true) (hb : Binds X.K fd ps []) (hx : Passes CX X E) (hr : Room k X.A) : OpR X (compareOp .Eq) (rEqO X.K C sp E) := by
  intro pins s σ H x y v u Q I rx ry h
  obtain ⟨a, dx, fs, t, rfl, ha, ty, nf, hq⟩ := h
  cases (show v = Value.ref a from rx)
  obtain ⟨mA, J, _⟩ := ins_get I.hok ha
  obtain ⟨od, J, _⟩ := J.look
  obtain ⟨P, kx, hP, _⟩ := kit_of I ry ty
  obtain ⟨m, fr⟩ := I.fr
  have hl : ([Value.ref a, u] ++ []).length = ps.length := (show ([V.ref a, y] : List V).length = _ from F.len _ _ _ _ hq)
  show wpAny (model X.prog X.w) X.A (richCompare .Eq (.ref a) u) _ _ s
  refine PySem.W.cmp_K (op := .Eq) hr.units0 fr I.ok.mod.kin J (kx.ty _ _ I.kIn hP) nf hs hf (wpAny_call (codeAny_mono (F.run X.A X.stack s H ⟨[.ref a, u], []⟩ [.ref a, u] [.ref a, y] _ E hr I.env0 (hb s [.ref a, u] I.kIn hl) (.cons rfl (.cons ry .nil)) hq) fun res s' hres => ?_))
  match res, hres with
  | .error er, hres => exact hx pins σ H s er s' I hres
  | .ok .next, hres => exact hres.elim
  | .ok .brk, hres => exact hres.elim
  | .ok .cont, hres => exact hres.elim
  | .ok (.ret z0), hres =>
    obtain ⟨z, H', I', rz, b, rfl, q⟩ := I.after hres
    cases (show z0 = Value.bool b from rz)
    exact ⟨.bl b, H', I', rfl, q⟩
end
end MM
namespace MM
open PySem PySem.Spec PySem.Calls PyProof.Rows L2
section
variable {X : Cx} {CX : CXT} {k j : Nat} {C : Addr} {qual : Str} {st : Stmt} {ps : List Str} {sp : Sp} {E : XK}
/-- x == y by the __eq__ of x's class -/
theorem op_eqC (c : Cm X.prog X.w X.K X.mg X.base CX k C "__eq__" qual st ps sp) (b : Bd "__eq__" qual st ps) (hx : Passes CX X E) (hr : Room j X.A) (hk : k ≤ j) : OpR X (compareOp .Eq) (rEqO X.K C sp E) := by
  obtain ⟨f, fd, F, M, hc, G⟩ := c.ex
  exact op_eqO G M.1 M.2 (F.bindsN b) hx (hr.mono hk)
theorem nf_self {K : PySem.W.Frag} {C : Addr} : PySem.W.notFirst K C (.ref C) = true := by
  unfold PySem.W.notFirst
  simp
end
end MM
namespace MM
open PySem PySem.Spec PyProof.Rows L2
theorem no' {A B : Prop} {b : Bool} (hb : b = false) (h : B) : if b = true then A else B := by
  subst hb
  exact iteF h
theorem upd_keep {H H1 : Hp} {D : Addr} {o : HO} (nD : H D = none) (s : Same H H1) : Same H (L2.upd H1 D o) := fun b u e => by
  rw [upd_ne (ne_of_none e nD)]
  exact s b u e
section
variable {J : It} {n : Nat} {G : Hp → Prop} {Y : Nat → Hp → V → Hp → Prop}
/-- a comprehension without a test whose i-th thing has Ps i -/
theorem lc_all (w : Walk J n G Y) (hY : ∀ i H x H', Y i H x H' → Same H H') {g : TG} {te : TE} {vs : List Nat} {σ : L2.St} {H : Hp} {D : Addr} {Qd : Hp → Prop} (nD : H D = none) (hn : n < sizeLine) (Ps : Nat → V → Hp → Prop)
    (hm : ∀ j v H1 H2, Same H1 H2 → Ps j v H1 → Ps j v H2) (hp : ∀ j v H1 acc acc', H1 D = some (.lst acc) → Ps j v H1 → Ps j v (L2.upd H1 D (.lst acc'))) (hG : ∀ H', Same H H' → G H')
    (hs : ∀ i x H1 H2 (R : V → Hp → Prop), i < n → Same H H1 → Y i H1 x H2 → (∀ v H3, Same H2 H3 → Ps i v H3 → R v H3) → g x (wipe σ vs) H2 fun σ2 H3 => wipe σ2 vs = wipe σ vs ∧ te σ2 H3 R)
    (hd : ∀ (us : List V) H', us.length = n → H' D = some (.lst us) → Same H H' → (∀ j v, us[j]? = some v → Ps j v H') → Qd H') :
    ∃ W : Nat → Nat → Hp → Prop, (∃ m, W 0 m (L2.upd H D (.lst []))) ∧ ∀ i m H, W i m H →
      (J.stop i H ∧ Qd H) ∨ (J.go i H ∧ ∃ Nx : Hp → Prop, (∀ H', Nx H' → ∃ m', m' < m ∧ W (i + 1) m' H') ∧ ∀ x H', J.yld i H x H' → g x (wipe σ vs) H' fun σ2 H2 => wipe σ2 vs = wipe σ vs ∧ tYes σ2 H2 fun b H3 =>
        if b = true then te σ2 H3 fun y H4 => ∃ acc, H4 D = some (.lst acc) ∧ acc.length < sizeLine ∧ Nx (L2.upd H4 D (.lst (acc ++ [y]))) else Nx H3) := by
  refine lc_it w (fun i H' => ∃ us : List V, us.length = i ∧ H' D = some (.lst us) ∧ Same H H' ∧ ∀ j v, us[j]? = some v → Ps j v H') ⟨[], rfl, upd_same, upd_keep nD (Same.refl H), fun j v h => by simp at h⟩ (fun i H' _ ⟨_, _, _, s, _⟩ => hG H' s) ?_ (fun H' ⟨us, l, e, s, p⟩ => hd us H' l e s p)
  rintro i x H1 H2 hi ⟨us, hl, e, s, p⟩ y
  refine hs i x H1 H2 _ hi s y fun v H3 s3 pv => ?_
  have s2 := hY _ _ _ _ y
  have e3 := s3 _ _ (s2 _ _ e)
  refine ⟨us, e3, by omega, us ++ [v], by rw [List.length_append, hl]; rfl, upd_same, upd_keep nD (s.trans (s2.trans s3)), fun j u hj => ?_⟩
  by_cases hjl : j < us.length
  · rw [List.getElem?_append_left hjl] at hj
    exact hp _ _ _ _ _ e3 (hm _ _ _ _ (s2.trans s3) (p j u hj))
  · rw [List.getElem?_append_right (by omega)] at hj
    have ej : j = us.length := by
      by_cases hz : j - us.length = 0
      · omega
      · have : ([v] : List V)[j - us.length]? = none := List.getElem?_eq_none_iff.mpr (by simp; omega)
        rw [this] at hj
        cases hj
    subst ej
    rw [Nat.sub_self] at hj
    cases hj
    rw [hl]
    exact hp _ _ _ _ _ e3 pv
/-- a comprehension whose i-th thing is the whole number f i -/
theorem lc_ints (w : Walk J n G Y) (hY : ∀ i H x H', Y i H x H' → Same H H') {g : TG} {te : TE} {vs : List Nat} {σ : L2.St} {H : Hp} {D : Addr} {Qd : Hp → Prop} (nD : H D = none) (hn : n < sizeLine) (f : Nat → Int) (hG : ∀ H', Same H H' → G H')
    (hs : ∀ i x H1 H2 (R : V → Hp → Prop), i < n → Same H H1 → Y i H1 x H2 → (∀ H3, Same H2 H3 → R (.int (f i)) H3) → g x (wipe σ vs) H2 fun σ2 H3 => wipe σ2 vs = wipe σ vs ∧ te σ2 H3 R)
    (hd : ∀ H', H' D = some (.lst (((List.range n).map f).map V.int)) → Same H H' → Qd H') :
    ∃ W : Nat → Nat → Hp → Prop, (∃ m, W 0 m (L2.upd H D (.lst []))) ∧ ∀ i m H, W i m H →
      (J.stop i H ∧ Qd H) ∨ (J.go i H ∧ ∃ Nx : Hp → Prop, (∀ H', Nx H' → ∃ m', m' < m ∧ W (i + 1) m' H') ∧ ∀ x H', J.yld i H x H' → g x (wipe σ vs) H' fun σ2 H2 => wipe σ2 vs = wipe σ vs ∧ tYes σ2 H2 fun b H3 =>
        if b = true then te σ2 H3 fun y H4 => ∃ acc, H4 D = some (.lst acc) ∧ acc.length < sizeLine ∧ Nx (L2.upd H4 D (.lst (acc ++ [y]))) else Nx H3) := by
  refine lc_all w hY nD hn (fun i v _ => v = .int (f i)) (fun _ _ _ _ _ h => h) (fun _ _ _ _ _ _ h => h) hG (fun i x H1 H2 R hi s y k => hs i x H1 H2 R hi s y fun H3 s3 => k _ H3 s3 rfl) fun us H' l e s p => ?_
  have eu : us = ((List.range n).map f).map V.int := by
    refine List.ext_getElem? fun j => ?_
    by_cases hj : j < us.length
    · have h1 := List.getElem?_eq_getElem hj
      rw [h1, p j _ h1]
      rw [List.getElem?_map, List.getElem?_map, List.getElem?_range (by omega)]
      rfl
    · rw [List.getElem?_eq_none_iff.mpr (by omega), List.getElem?_eq_none_iff.mpr (by simp; omega)]
  subst eu
  exact hd H' e s
end
theorem yFn_same {f : Nat → V} : ∀ i H x H', YFn f i H x H' → Same H H' := fun _ _ _ _ h => by rw [h.1]; exact Same.refl _
theorem yAt_same {xs : List V} : ∀ i H x H', YAt xs i H x H' → Same H H' := fun _ _ _ _ h => by rw [h.1]; exact Same.refl _
theorem yPair_same {xs ys : Nat → Option V} : ∀ i H x H', YPair xs ys i H x H' → Same H H' := by
  rintro i H x H' ⟨T, a, b, rfl, nT, rfl, _⟩
  exact upd_keep nT (Same.refl H)
/-! ### lists of whole numbers, compared -/
theorem dps_ints {K : PySem.W.Frag} {H : Hp} : ∀ ns : List Int, DpAll K H (ns.map V.int) (ns.map PyData.int)
  | [] => .nil
  | n :: ns => .cons (.int n) (dps_ints ns)
theorem dp_ints {K : PySem.W.Frag} {H : Hp} {a : Addr} {ns : List Int} (h : H a = some (.lst (ns.map V.int))) : Dp K H (.ref a) (.list (ns.map PyData.int)) := .lst (SqL.of h) (dps_ints ns)
theorem lay_ints : ∀ ns : List Int, PyData.canLayAll0 (ns.map PyData.int) = true
  | [] => rfl
  | n :: ns => by
    rw [List.map_cons, PyData.canLayAll0, lay_ints ns]
    rfl
theorem dep_ints : ∀ ns : List Int, PyData.depthAll (ns.map PyData.int) ≤ 1
  | [] => by simp [PyData.depthAll]
  | n :: ns => by
    have h := dep_ints ns
    simp only [List.map_cons, PyData.depthAll, PyData.depth]
    omega
theorem sh_ints (ns : List Int) : SeqAt.shaped (.list (ns.map PyData.int)) = true := by
  have h := dep_ints ns
  show (PyData.canLay0 (.list (ns.map PyData.int)) && decide (PyData.depth (.list (ns.map PyData.int)) ≤ 64)) = true
  rw [Bool.and_eq_true]
  refine ⟨by simp only [PyData.canLay0]; exact lay_ints ns, decide_eq_true ?_⟩
  simp only [PyData.depth]
  omega
theorem eqv_intL (ns : List Int) : PyData.eqv (.list (ns.map PyData.int)) (.list (ns.map PyData.int)) = true := SeqAt.eqv_refl _ (by simp only [PyData.canLay0]; exact lay_ints ns)
/-! ### steps from each to the next -/
def stp (f : Nat → Int) (n : Nat) : List Int := (List.range n).map fun i => f (i + 1) - f i
theorem stp_sum (f : Nat → Int) : ∀ n, (stp f n).sum = f n - f 0
  | 0 => by simp [stp]
  | n + 1 => by
    have h := stp_sum f n
    unfold stp at *
    rw [List.range_succ, List.map_append, List.sum_append, h]
    simp
    omega
end MM
namespace MM
open PySem PySem.Spec PySem.Calls PyProof.Rows L2
/-! ### x != y where the class has an own __eq__ and no __ne__ -/
section
variable {prog : Program} {w : World} {A : Around} {E : Value → Shared → Prop} {s : Shared} {K : PySem.W.Frag} {x C L f : Addr} {h₀ : Heap} {m : Str → Option Value} {ox : Obj} {od : Option Obj} {name : Str} {b tb : Value}
theorem ifBound_B {M : Model} {id : String} {args : List Value} {Q : Option Value → Shared → Prop} (X : K.In s.heap) (I : PySem.W.InstAt s.heap x ox C od) (hs : PySem.W.findIn K (.ref C) name = some (some (.builtin id))) (S : Slot "object" name id)
    (h : wpAny M A (call (.builtin id) (.ref x :: args)) (fun v => Q (some v)) E s) : wpAny M A (callSpecialIfBound? (.ref x) name args) Q E s := by
  simp only [callSpecialIfBound?, bindSpecialIfBound?]
  refine wpAny_holding (wpAny_bind (wpAny_bind (wpAny_bind (I.type.here ((PySem.W.looks_findIn X hs).here ?_)))))
  simp only [S.bind]
  refine wpAny_bind (wpAny_askSetting (wpAny_ite ?_))
  have fin : wpAny M A (call (.builtin id) ([.ref x] ++ args) >>= fun v => pure (some v)) Q E s := wpAny_bind (wpAny_mono h (fun v s' h' => wpAny_pure h') fun _ _ h' => h')
  split
  · exact wpAny_bind (wpAny_pure (wpAny_pure fin))
  · exact wpAny_tryCatch (wpAny_bind (wpAny_pure (wpAny_pure fin)))
theorem objNe_own {Q : Fin → Shared → Prop} (X : K.In s.heap) (I : PySem.W.InstAt s.heap x ox C od) (hs : PySem.W.findIn K (.ref C) "__eq__" = some (some (.ref f))) (hf : PySem.W.isFn K (.ref f) = true) (hu : A.units < cLine)
    (hcall : wpAny (model prog w) A (call (.ref f) [.ref x, b]) (fun v s' => ∃ r, v = .bool r ∧ Q (.done (.ret (.bool (!r)))) s') E s) :
    wpAny (model prog w) A (Builtin.«object.__ne__» ⟨[.ref x, b], []⟩) Q E s := by
  obtain ⟨h, g, d, t, os⟩ := s
  unfold Builtin.«object.__ne__»
  repeat (first
    | with_reducible refine wpAny_cRoomFor hu ?_
    | (refine wpAny_bind (m := callSpecialIfBound? (.ref x) (Str.ofString "__eq__") [b])
        (PySem.W.ifBound_K X I hs hf (wpAny_mono hcall (fun r s' hr => by
          obtain ⟨b, rfl, hq⟩ := hr
          repeat (first | exact hq | exact wpAny_pure hq | exact wpAny_truthy_bool hq | (refine wpAny_bind (m := truthy (.bool _)) (wpAny_truthy_bool ?_)) | wp_step)) fun _ _ e => e)))
    | wp_step)
/-- what the written part says of such a class -/
structure NeT (K : PySem.W.Frag) (C : Addr) : Prop where
  ne : PySem.W.findIn K (.ref C) "__ne__" = some (some (.builtin "object.__ne__"))
  cls : ∃ nm q N bs hd sn sub ab col dd k0 k1 k2 k3 k5 nw, K.lookup C = some (excClassObj nm q C N bs [.type "object"] hd sn sub ab col dd k0 k1 k2 k3 k5 nw)
theorem ne_K {Q : Value → Shared → Prop} (T : NeT K C) (hu : A.units + 1 < cLine) (F : Fr h₀ L s.heap m) (X₀ : K.In h₀) (I : PySem.W.InstAt s.heap x ox C od) (hb : PySem.W.Looks (model prog w) s.heap (typeOf b) tb) (hn : PySem.W.notFirst K C tb = true)
    (hs : PySem.W.findIn K (.ref C) "__eq__" = some (some (.ref f))) (hf : PySem.W.isFn K (.ref f) = true)
    (h : wpAny (model prog w) A.in1 (call (.ref f) [.ref x, b]) (fun v s' => ∃ r, v = .bool r ∧ Q (.bool (!r)) s') E s) : wpAny (model prog w) A (richCompare .NotEq (.ref x) b) Q E s := by
  have X := X₀.keeps F.keep
  obtain ⟨nm, q, N, bs, hd, sn, sub, ab, col, dd, k0, k1, k2, k3, k5, nw, hC⟩ := T.cls
  have one : wpAny (model prog w) A (tryCompare (.ref x) "__ne__" b) (fun r s' => ∃ v, r = some v ∧ Q v s') E s := by
    unfold tryCompare
    obtain ⟨hp, g, d, t, os⟩ := s
    refine wpAny_bind (ifBound_B X I T.ne PySem.F.cmp_object.ne (wpAny_call (codeAny_call_builtin PySem.F.cmp_object.ne.plain PySem.F.cmpEntry_ne (wpAny_check_slot_inst PySem.F.cmpKind_ne PySem.F.cmpSplit_ne (PySem.F.cmpArgs_ne _ _) PySem.F.cmp_object.hasObject I.at_ I.cls (X _ _ hC) (objNe_own (A := A.in1) X I hs hf hu (wpAny_mono h (fun v s' hv => ?_) fun _ _ e => e))))))
    obtain ⟨r, rfl, hq⟩ := hv
    first | exact ⟨r, rfl, wpAny_pure ⟨_, rfl, hq⟩⟩ | exact ⟨r, rfl, wpAny_pure (wpAny_pure ⟨_, rfl, hq⟩)⟩ | exact ⟨r, rfl, ⟨_, rfl, hq⟩⟩
  unfold richCompare
  simp only [oneThing_ref]
  refine wpAny_holding (wpAny_bind (wpAny_cRoomFor (Nat.lt_of_succ_lt hu) ?_))
  refine wpAny_bind (I.type.here (wpAny_bind (hb.here ?_)))
  split
  · rename_i q
    have e : PySem.W.subIn K tb (.ref C) = some false := by
      rcases Bool.or_eq_true_iff.mp hn with e | e
      · rw [beq_iff_eq.mp e] at q
        simp at q
      · exact beq_iff_eq.mp e
    refine wpAny_bind ((PySem.W.looks_subIn X e).here ?_)
    simp only [Bool.false_eq_true, if_false]
    refine wpAny_bind (wpAny_mono one (fun r s' z => ?_) fun _ _ e => e)
    obtain ⟨v, rfl, hq⟩ := z
    exact wpAny_pure hq
  · refine wpAny_bind (wpAny_pure ?_)
    simp only [Bool.false_eq_true, if_false]
    refine wpAny_bind (wpAny_mono one (fun r s' z => ?_) fun _ _ e => e)
    obtain ⟨v, rfl, hq⟩ := z
    exact wpAny_pure hq
end
section
variable {X : Cx} {CX : CXT} {k j : Nat} {C f : Addr} {fd : FuncData} {qual : Str} {st : Stmt} {ps : List Str} {sp : Sp} {E : XK}
def rNeO (K : PySem.W.Frag) (C : Addr) (sp : Sp) (E : XK) : R2 := fun x y H Q => ∃ (a dx : Addr) (fs : List (Str × V)) (t : Value), x = .ref a ∧ H a = some (.ins C dx fs) ∧ TyX K H y t ∧ PySem.W.notFirst K C t = true ∧ sp [.ref a, y] H (fun v H' => ∃ b : Bool, v = .bl b ∧ Q (.bl (!b)) H') E
theorem op_neO (T : NeT X.K C) (F : FnOk X.prog X.w X.K X.mg X.base CX k f fd ps sp) (hs : PySem.W.findIn X.K (.ref C) "__eq__" = some (some (.ref f))) (hf : PySem.W.isFn X.K (.ref f) = true) (hb : Binds X.K fd ps []) (hx : Passes CX X E) (hr : Room (k + 1) X.A) : OpR X (compareOp .NotEq) (rNeO X.K C sp E) := by
  intro pins s σ H x y v u Q I rx ry h
  obtain ⟨a, dx, fs, t, rfl, ha, ty, nf, hq⟩ := h
  cases (show v = Value.ref a from rx)
  obtain ⟨mA, J, _⟩ := ins_get I.hok ha
  obtain ⟨od, J, _⟩ := J.look
  obtain ⟨P, kx, hP, _⟩ := kit_of I ry ty
  obtain ⟨m, fr⟩ := I.fr
  have hl : ([Value.ref a, u] ++ []).length = ps.length := (show ([V.ref a, y] : List V).length = _ from F.len _ _ _ _ hq)
  have hr1 : Room k X.A.in1 := hr.in1
  have hun : X.A.units + 1 < cLine := by
    have := hr.un
    omega
  show wpAny (model X.prog X.w) X.A (richCompare .NotEq (.ref a) u) _ _ s
  refine ne_K T hun fr I.ok.mod.kin J (kx.ty _ _ I.kIn hP) nf hs hf (wpAny_call (codeAny_mono (F.run X.A.in1 X.stack s H ⟨[.ref a, u], []⟩ [.ref a, u] [.ref a, y] _ E hr1 I.env0.in1 (hb s [.ref a, u] I.kIn hl) (.cons rfl (.cons ry .nil)) hq) fun res s' hres => ?_))
  match res, hres with
  | .error er, hres => exact hx pins σ H s er s' I hres
  | .ok .next, hres => exact hres.elim
  | .ok .brk, hres => exact hres.elim
  | .ok .cont, hres => exact hres.elim
  | .ok (.ret z0), hres =>
    obtain ⟨z, H', I', rz, b, rfl, q⟩ := I.after hres
    cases (show z0 = Value.bool b from rz)
    exact ⟨b, rfl, .bl (!b), H', I', rfl, q⟩
theorem op_neC (T : NeT X.K C) (c : Cm X.prog X.w X.K X.mg X.base CX k C "__eq__" qual st ps sp) (b : Bd "__eq__" qual st ps) (hx : Passes CX X E) (hr : Room j X.A) (hk : k + 1 ≤ j) : OpR X (compareOp .NotEq) (rNeO X.K C sp E) := by
  obtain ⟨f, fd, F, M, hc, G⟩ := c.ex
  exact op_neO T G M.at_ M.fn (F.bindsN b) hx (hr.mono hk)
end
end MM
namespace MM
open PySem PySem.Spec PyProof.Rows L2
theorem hu65 {k : Nat} {A : Around} (r : Room k A) : A.units + 65 < cLine := by
  have := r.un
  omega
section
variable {X : Cx}
/-- sum(t) of a tuple of whole numbers -/
def rSumT (K : PySem.W.Frag) : List V → Hp → VK → Prop := fun vs H Q => ∃ (a : Addr) (ns : List Int), vs = [V.ref a] ∧ SqT K H a (ns.map V.int) ∧ Q (.int ns.sum) H
theorem cr_sumT (hc : X.calm = true) : CallR X (.builtin "sum") (rSumT X.K) := by
  intro pins s σ H vs us Q I r h
  obtain ⟨a, ns, rfl, hs, q⟩ := h
  obtain ⟨its, rv, hl, _⟩ := I.tuple hs
  rw [Vals.ref1 r]
  have hi := rv.ints
  obtain ⟨xs, hx⟩ := hi.allInts.items
  have hn : numsOf its.toArray.toList = ns := by rw [show its.toArray.toList = its from rfl, hi.numsOf]
  have hl : s.heap.IsTuple a its.toArray := hl
  rw [hx] at hl hn
  rw [nums_intItems] at hn
  refine PySem.W.ktm_sumG (I.ok.hd hc) hl fun h' tk t' hk => ⟨.int _, H, I.kept hk, ⟨_, rfl⟩, ?_⟩
  rw [preSum_eq, List.take_of_length_le (by simp), hn]
  exact q
end
/-! ### data of rows of whole numbers -/
def tupD (ns : List Int) : PyData := .tuple (ns.map PyData.int)
theorem dp_tup {K : PySem.W.Frag} {H : Hp} {a : Addr} {ns : List Int} (h : H a = some (.tup (ns.map V.int))) : Dp K H (.ref a) (tupD ns) := .tup (SqT.of h) (dps_ints ns)
theorem lay_tups : ∀ zs : List (List Int), PyData.canLayAll0 (zs.map tupD) = true
  | [] => rfl
  | z :: zs => by
    rw [List.map_cons, PyData.canLayAll0, lay_tups zs, tupD, PyData.canLay0, lay_ints]
    rfl
theorem dep_tups : ∀ zs : List (List Int), PyData.depthAll (zs.map tupD) ≤ 3
  | [] => by simp [PyData.depthAll]
  | z :: zs => by
    have h := dep_tups zs
    have h2 := dep_ints z
    simp only [List.map_cons, PyData.depthAll, tupD, PyData.depth]

    omega
theorem sh_tups (zs : List (List Int)) : SeqAt.shaped (.list (zs.map tupD)) = true := by
  have h := dep_tups zs
  show (PyData.canLay0 (.list (zs.map tupD)) && decide (PyData.depth (.list (zs.map tupD)) ≤ 64)) = true
  rw [Bool.and_eq_true]
  refine ⟨by simp only [PyData.canLay0]; exact lay_tups zs, decide_eq_true ?_⟩
  simp only [PyData.depth]
  omega
theorem sh_tup (ns : List Int) : SeqAt.shaped (tupD ns) = true := by
  have h := dep_ints ns
  show (PyData.canLay0 (tupD ns) && decide (PyData.depth (tupD ns) ≤ 64)) = true
  rw [Bool.and_eq_true]
  refine ⟨by simp only [tupD, PyData.canLay0]; exact lay_ints ns, decide_eq_true ?_⟩
  simp only [tupD, PyData.depth]
  omega
theorem eqv_tup (ns : List Int) : PyData.eqv (tupD ns) (tupD ns) = true := SeqAt.eqv_refl _ (by simp only [tupD, PyData.canLay0]; exact lay_ints ns)
/-- a list whose things are the rows zs -/
def Rows (H : Hp) (us : List V) (zs : List (List Int)) : Prop := us.length = zs.length ∧ ∀ (j : Nat) (u : V), us[j]? = some u → ∃ (q : Addr) (z : List Int), u = .ref q ∧ zs[j]? = some z ∧ H q = some (.tup (z.map V.int))
theorem Rows.same {H H1 : Hp} {us : List V} {zs : List (List Int)} (h : Rows H us zs) (s : Same H H1) : Rows H1 us zs := ⟨h.1, fun j u hu => by
  obtain ⟨q, z, e1, e2, e3⟩ := h.2 j u hu
  exact ⟨q, z, e1, e2, s _ _ e3⟩⟩
theorem Rows.dps {K : PySem.W.Frag} {H : Hp} : ∀ {us : List V} {zs : List (List Int)}, Rows H us zs → DpAll K H us (zs.map tupD)
  | [], [], _ => .nil
  | [], _ :: _, h => by have := h.1; simp at this
  | _ :: _, [], h => by have := h.1; simp at this
  | u :: us, z :: zs, h => by
    obtain ⟨q, z', rfl, e2, e3⟩ := h.2 0 u rfl
    cases e2
    refine .cons (dp_tup e3) (Rows.dps ⟨by have := h.1; simpa using this, fun j v hv => h.2 (j + 1) v (by simpa using hv)⟩)
theorem Rows.dp {K : PySem.W.Frag} {H : Hp} {a : Addr} {us : List V} {zs : List (List Int)} (h : Rows H us zs) (e : H a = some (.lst us)) : Dp K H (.ref a) (.list (zs.map tupD)) := .lst (SqL.of e) h.dps
theorem any_row {zs : List (List Int)} {z : List Int} (h : z ∈ zs) : ((zs.map tupD).any fun d => PyData.eqv d (tupD z)) = true := List.any_eq_true.mpr ⟨tupD z, List.mem_map.mpr ⟨z, h, rfl⟩, eqv_tup z⟩
end MM
namespace MM
/-! ### stretches of months, as whole numbers -/
/-- so many whole months lie, from a part of a day on -/
def rowF (a b p : Int) (n : Nat) : Int := (p + n * a) / b
theorem same_div {a b p q : Int} (hb : 0 < b) (n : Nat) (h0 : 0 ≤ q) (h1 : q ≤ p) (h2 : p < b) (hno : ¬ (q < (-(n : Int) * a) % b ∧ (-(n : Int) * a) % b ≤ p)) : rowF a b q n = rowF a b p n := by
  unfold rowF
  have e1 := Int.mul_ediv_add_emod (p + n * a) b
  have e2 := Int.emod_nonneg (p + n * a) (Int.ne_of_gt hb)
  have e3 := Int.emod_lt_of_pos (p + n * a) hb
  have en : -(n : Int) * a = -((n : Int) * a) := Int.neg_mul _ _
  rw [en] at hno
  generalize (n : Int) * a = z at *
  generalize hc : (p + z) / b = c at *
  refine Int.le_antisymm (by rw [← hc]; exact Int.ediv_le_ediv hb (by omega)) ?_
  refine Int.le_ediv_of_mul_le hb ?_
  rw [Int.mul_comm]
  apply Int.not_lt.mp
  intro hlt
  apply hno
  have et : (-z) % b = b * c - z := by
    have : -z = (b * c - z) + b * (-c) := by rw [Int.mul_neg]; omega
    rw [this, Int.add_mul_emod_self_left]
    exact Int.emod_eq_of_lt (by omega) (by omega)
  rw [et]
  omega
theorem max_le {p : Int} : ∀ L : List Int, (∃ t ∈ L, t ≤ p) → ∃ t ∈ L, t ≤ p ∧ ∀ u ∈ L, u ≤ p → u ≤ t
  | [], h => by
    obtain ⟨t, ht, _⟩ := h
    cases ht
  | x :: L, h => by
    by_cases hL : ∃ t ∈ L, t ≤ p
    · obtain ⟨t, ht, htp, hm⟩ := max_le L hL
      by_cases hx : x ≤ p ∧ t < x
      · refine ⟨x, List.mem_cons_self, hx.1, fun u hu hup => ?_⟩
        rcases List.mem_cons.mp hu with rfl | hu
        · exact Int.le_refl _
        · have := hm u hu hup
          omega
      · refine ⟨t, List.mem_cons_of_mem _ ht, htp, fun u hu hup => ?_⟩
        rcases List.mem_cons.mp hu with rfl | hu
        · omega
        · exact hm u hu hup
    · obtain ⟨t, ht, htp⟩ := h
      rcases List.mem_cons.mp ht with rfl | ht
      · refine ⟨t, List.mem_cons_self, htp, fun u hu hup => ?_⟩
        rcases List.mem_cons.mp hu with rfl | hu
        · exact Int.le_refl _
        · exact absurd ⟨u, hu, hup⟩ hL
      · exact absurd ⟨t, ht, htp⟩ hL
/-- the parts at which stretches of n months begin to be other ones -/
def parts (a b : Int) (n : Nat) : List Int := (List.range (min (n + 1) b.toNat)).map fun (i : Nat) => (-(i : Int) * a) % b
theorem parts_mem {a b : Int} (hb : 0 < b) {n i : Nat} (hi : i ≤ n) : (-(i : Int) * a) % b ∈ parts a b n := by
  refine List.mem_map.mpr ⟨i % b.toNat, List.mem_range.mpr ?_, ?_⟩
  · have h1 : i % b.toNat < b.toNat := Nat.mod_lt _ (by omega)
    have h2 : i % b.toNat ≤ i := Nat.mod_le _ _
    omega
  · have e : (i : Int) = ((i % b.toNat : Nat) : Int) + b * ((i / b.toNat : Nat) : Int) := by
      have h := Nat.mod_add_div i b.toNat
      have hbt : ((b.toNat : Nat) : Int) = b := by omega
      have h' : ((i % b.toNat + b.toNat * (i / b.toNat) : Nat) : Int) = (i : Int) := by rw [h]
      rw [← h', Int.natCast_add, Int.natCast_mul, hbt]
    have e2 : -(i : Int) * a = -((i % b.toNat : Nat) : Int) * a + b * (-((i / b.toNat : Nat) : Int) * a) := by
      rw [e]
      generalize ((i % b.toNat : Nat) : Int) = u
      generalize ((i / b.toNat : Nat) : Int) = v
      grind
    rw [e2, Int.add_mul_emod_self_left]
theorem parts_bd {a b : Int} (hb : 0 < b) {n : Nat} {t : Int} (ht : t ∈ parts a b n) : 0 ≤ t ∧ t < b := by
  obtain ⟨i, _, rfl⟩ := List.mem_map.mp ht
  exact ⟨Int.emod_nonneg _ (Int.ne_of_gt hb), Int.emod_lt_of_pos _ hb⟩
/-- each stretch is one that begins at one of the parts -/
theorem part_of {a b : Int} (hb : 0 < b) (n : Nat) {p : Int} (h0 : 0 ≤ p) (h1 : p < b) : ∃ t ∈ parts a b n, ∀ i : Nat, i ≤ n → rowF a b t i = rowF a b p i := by
  have z0 : (0 : Int) ∈ parts a b n := by
    have h := parts_mem (a := a) hb (n := n) (Nat.zero_le n)
    simpa using h
  obtain ⟨t, ht, htp, hm⟩ := max_le (p := p) (parts a b n) ⟨0, z0, h0⟩
  refine ⟨t, ht, fun i hi => same_div hb i (parts_bd hb ht).1 htp h1 fun ⟨k1, k2⟩ => ?_⟩
  have := hm _ (parts_mem hb hi) k2
  omega
theorem row_zero {a b p : Int} (h0 : 0 ≤ p) (h1 : p < b) : rowF a b p 0 = 0 := by
  unfold rowF
  rw [show p + ((0 : Nat) : Int) * a = p by simp]
  exact Int.ediv_eq_zero_of_lt h0 h1
theorem row_two {a b p : Int} (hb : 0 < b) (h0 : 0 ≤ p) (h1 : p < b) (n : Nat) : (n * a) / b ≤ rowF a b p n ∧ rowF a b p n ≤ (n * a) / b + 1 := by
  unfold rowF
  refine ⟨Int.ediv_le_ediv hb (by omega), ?_⟩
  have e1 := Int.mul_ediv_add_emod ((n : Int) * a) b
  have e3 := Int.emod_lt_of_pos ((n : Int) * a) hb
  refine Int.le_of_lt_add_one (Int.ediv_lt_of_lt_mul hb ?_)
  generalize (n : Int) * a / b = c at *
  have : (c + 1 + 1) * b = b * c + b + b := by grind
  rw [this]
  omega
/-- the part of a day at which moon k comes, in parts by the month's bottom -/
def prt (m o : Rat) (k : Int) : Int := ((o + k * m - ((stF m o k : Int) : Rat)) * (m.den : Rat)).floor
theorem den_posR (m : Rat) : (0 : Rat) < (m.den : Rat) := by
  have := m.den_pos
  exact_mod_cast this
theorem frac_bd (x : Rat) : 0 ≤ x - (x.floor : Rat) ∧ x - (x.floor : Rat) < 1 := by
  have h1 : (x.floor : Rat) ≤ x := Rat.floor_le x
  have h2 : x < (x.floor : Rat) + 1 := by rw [← cast_add1]; exact Rat.lt_floor_add_one x
  constructor <;> grind
theorem prt_bd (m o : Rat) (k : Int) : 0 ≤ prt m o k ∧ prt m o k < (m.den : Int) := by
  unfold prt stF
  obtain ⟨h1, h2⟩ := frac_bd (o + k * m)
  have hd := den_posR m
  generalize o + k * m - ((o + k * m).floor : Rat) = f at *
  constructor
  · refine Rat.le_floor_iff.mpr ?_
    show ((0 : Int) : Rat) ≤ f * (m.den : Rat)
    have := Rat.mul_nonneg h1 (Rat.le_of_lt hd)
    simpa using this
  · refine Rat.floor_lt_iff.mpr ?_
    show f * (m.den : Rat) < (((m.den : Nat) : Int) : Rat)
    have : f * (m.den : Rat) < 1 * (m.den : Rat) := Rat.mul_lt_mul_of_pos_right h2 hd
    rw [Rat.one_mul] at this
    exact this
theorem mul_den (m : Rat) : m * (m.den : Rat) = (m.num : Rat) := by
  have hd := den_posR m
  have h : (m.num : Rat) / (m.den : Rat) = m := by
    have e := Rat.num_divInt_den m
    rw [Rat.divInt_eq_div] at e
    exact e
  generalize (m.num : Rat) = a at *
  generalize (m.den : Rat) = b at *
  grind
theorem rr1 (o k n m b S c p : Rat) (h1 : (o + k * m - S) * b < p + 1) (h2 : p + n * (m * b) + 1 ≤ b * c + b) : (o + (k + n) * m) * b < (S + c + 1) * b := by
  have e1 : (o + (k + n) * m) * b = (o + k * m - S) * b + S * b + n * (m * b) := by grind
  have e2 : (S + c + 1) * b = S * b + b * c + b := by grind
  rw [e1, e2]
  generalize (o + k * m - S) * b = u at *
  generalize n * (m * b) = v at *
  generalize S * b = x at *
  generalize b * c = y at *
  grind
theorem rr2 (o k n m b S c p : Rat) (h1 : p ≤ (o + k * m - S) * b) (h2 : b * c ≤ p + n * (m * b)) : (S + c) * b ≤ (o + (k + n) * m) * b := by
  have e1 : (o + (k + n) * m) * b = (o + k * m - S) * b + S * b + n * (m * b) := by grind
  have e2 : (S + c) * b = S * b + b * c := by grind
  rw [e1, e2]
  generalize (o + k * m - S) * b = u at *
  generalize n * (m * b) = v at *
  generalize S * b = x at *
  generalize b * c = y at *
  grind
/-- the days of n months from month k on, by the part at which they begin -/
theorem st_row (m o : Rat) (k : Int) (n : Nat) : stF m o (k + n) - stF m o k = rowF m.num m.den (prt m o k) n := by
  have hd := den_posR m
  have hdI := den_pos m
  obtain ⟨f1, f2⟩ := frac_bd (o + k * m)
  have key : stF m o (k + n) = stF m o k + rowF m.num m.den (prt m o k) n := by
    have hfl : (prt m o k : Rat) ≤ (o + k * m - ((stF m o k : Int) : Rat)) * (m.den : Rat) := Rat.floor_le _
    have hfu : (o + k * m - ((stF m o k : Int) : Rat)) * (m.den : Rat) < ((prt m o k + 1 : Int) : Rat) := Rat.lt_floor_add_one _
    have e1 := Int.mul_ediv_add_emod (prt m o k + n * m.num) m.den
    have e2 := Int.emod_nonneg (prt m o k + n * m.num) (Int.ne_of_gt hdI)
    have e3 := Int.emod_lt_of_pos (prt m o k + n * m.num) hdI
    have hmd := mul_den m
    unfold rowF
    generalize hc : (prt m o k + (n : Int) * m.num) / (m.den : Int) = c at *
    have l1 : (m.den : Int) * c ≤ prt m o k + n * m.num := by omega
    have l2 : prt m o k + n * m.num + 1 ≤ (m.den : Int) * c + m.den := by omega
    have r1 : (m.den : Rat) * (c : Rat) ≤ (prt m o k : Rat) + (n : Rat) * (m.num : Rat) := by exact_mod_cast l1
    have r2 : (prt m o k : Rat) + (n : Rat) * (m.num : Rat) + 1 ≤ (m.den : Rat) * (c : Rat) + (m.den : Rat) := by exact_mod_cast l2
    have hfu' : (o + k * m - ((stF m o k : Int) : Rat)) * (m.den : Rat) < (prt m o k : Rat) + 1 := by rw [← cast_add1]; exact hfu
    have hcast : ((k + n : Int) : Rat) = (k : Rat) + (n : Rat) := by exact_mod_cast rfl
    refine Int.le_antisymm ?_ ?_
    · refine floor_le_iff.mpr ?_
      rw [hcast]
      have e4 : ((stF m o k + c + 1 : Int) : Rat) = ((stF m o k : Int) : Rat) + (c : Rat) + 1 := by exact_mod_cast rfl
      rw [e4]
      rw [← hmd] at r2
      exact Rat.lt_of_mul_lt_mul_right (rr1 _ _ _ _ _ _ _ _ hfu' r2) (Rat.le_of_lt hd)
    · refine Rat.le_floor_iff.mpr ?_
      rw [hcast]
      have e4 : ((stF m o k + c : Int) : Rat) = ((stF m o k : Int) : Rat) + (c : Rat) := by exact_mod_cast rfl
      rw [e4]
      rw [← hmd] at r1
      exact Rat.le_of_mul_le_mul_right (rr2 _ _ _ _ _ _ _ _ hfl r1) hd
  omega
end MM
namespace MM
open PySem PySem.Spec PyProof.Rows L2
/-! ### calls of a def with defaults, which never raises -/
/-- how f(.., k = v, ..) binds where f has defaults -/
structure Kdn (x : Str) (st : Stmt) (dn n : Nat) (ks ps : List Str) (g : {α : Type} → List α → List α → List α → List α) : Prop where
  bind : ∀ (T : Addr) (kV doc pm : Value) (an : Option Addr) (cdv ct : Value) (us its ws : List Value), us.length = n → its.length = dn → ws.length = ks.length →
    ∃ k, bindArgs (PySem.W.fnOf x x (defArgs st) (defBody st) (defScope st) (.ref T) kV doc pm an cdv ct) ⟨us, ks.zip ws⟩ = seqItems? (.ref T) >>= k ∧ k (some its.toArray) = pure (ps.zip (g us its ws))
  rel : ∀ {vs ds zs : List V} {us its ws : List Value}, Vals vs us → Vals ds its → Vals zs ws → Vals (g vs ds zs) (g us its ws)
section
variable {X : Cx} {CX : CXT} {k j n d : Nat} {f : Addr} {fd : FuncData} {ps ks : List Str} {sp : Sp} {dvs : List V} {x : Str} {st : Stmt} {p pos : Pos} {e : Expr} {es : List Expr} {kws : List Keyword} {t tk : TA} {E : XK}
/-- f(e, ..): n values, the defaults from the d-th on -/
theorem pe_caD (c : Ca X.prog X.w X.K X.mg X.base CX k x st dvs ps sp) (b : Bd1 x x st ps n d dvs.length) (hd : dvs ≠ []) (hn : n + (dvs.length - d) = ps.length) (hr : Room j X.A) (hk : k ≤ j) (hx : Passes CX X E) (hg : Gl X x) (ha : PA X (e :: es) t)
    (hdb : (x == ("__debug__" : Str)) = false := by decide) (he : starEach (e :: es) X.env = (false, eval e X.env) :: starEach es X.env := by rfl) (hpl : (backTo pos (starEach es X.env)).any (·.1) = false := by rfl) :
    PE X (.Call (.Name x p) (e :: es) [] pos) (tCall sp (dvs.drop d) E t) := by
  obtain ⟨f, fd, F, hm, G⟩ := c.ex
  obtain ⟨ds, r, bb⟩ := F.binds1 n d hd hn b
  exact pe_call G (hr.mono hk) hg hm F.kp bb r hx ha hdb he hpl
theorem run_fnkP {pins : List (Addr × Obj)} {σ : L2.St} {H : Hp} {s : Shared} {Q : VK} {us ws : List Value} {vs zs : List V} {g : List Value → List Value → List Value} {gV : List V → List V → List V} (F : FnOk X.prog X.w X.K X.mg X.base CX k f fd ps sp) (hr : Room k X.A) (hb : KBn X.K fd ps n ks g gV) (hx : Passes CX X E)
    (I : Inv X pins σ H s) (r : Vals vs us) (rz : Vals zs ws) (l1 : vs.length = n) (l2 : zs.length = ks.length) (h : sp (gV vs zs) H Q E) : wpAny (model X.prog X.w) X.A (call (.ref f) us (ks.zip ws)) (EP X pins σ Q) X.xe s := by
  have r2 := hb.rel r rz
  refine wpAny_call (codeAny_mono (F.run X.A X.stack s H ⟨us, ks.zip ws⟩ (g us ws) (gV vs zs) Q _ hr I.env0 (hb.to s us ws I.kIn (r.length.symm.trans l1) (rz.length.symm.trans l2)) r2 h) fun r s' hq => ?_)
  match r, hq with
  | .error e, hq => exact hx pins σ H s e s' I hq
  | .ok (.ret u), hq => exact I.after hq
  | .ok .next, hq => exact False.elim hq
  | .ok .brk, hq => exact False.elim hq
  | .ok .cont, hq => exact False.elim hq
/-- f(e, .., k = v, ..) -/
theorem pe_caDk {g : {α : Type} → List α → List α → List α → List α} (c : Ca X.prog X.w X.K X.mg X.base CX k x st dvs ps sp) (b : Kdn x st dvs.length n ks ps g) (hd : dvs ≠ []) (hr : Room j X.A) (hk : k ≤ j) (hx : Passes CX X E) (hg : Gl X x) (ha : PA X (e :: es) t) (hkw : PK X kws tk)
    (hall : (backToKw pos (keywordEach kws X.env)).all (·.1.isSome) = true := by rfl) (hks : (backToKw pos (keywordEach kws X.env)).filterMap (·.1) = ks := by rfl) (hdb : (x == ("__debug__" : Str)) = false := by decide)
    (he : starEach (e :: es) X.env = (false, eval e X.env) :: starEach es X.env := by rfl) (hpl : ((backTo pos (starEach (e :: es) X.env)).any (·.1) || (backToKw pos (keywordEach kws X.env)).any (·.1.isNone)) = false := by rfl) :
    PE X (.Call (.Name x p) (e :: es) kws pos) (fun σ H Q => t σ H fun vs H1 => tk σ H1 fun zs H2 => vs.length = n ∧ zs.length = ks.length ∧ sp (g vs dvs zs) H2 Q E) := by
  obtain ⟨f, fd, F, hm, G⟩ := c.ex
  obtain ⟨its, hb⟩ := F.kbindsD n ks g hd b.rel b.bind
  refine ⟨fun pins s σ H Q I h => ?_⟩
  refine wpAny_Call_Name_kw (ld_glob I hg hm ?_ hdb)
  refine PySem.W.callWith_KW (h₀ := X.base) I.ok.mod.kin F.kp hall (thn (ha.run pos pins s σ H _ I h) fun us s1 ⟨vs, H1, I1, r, q⟩ => ?_) hpl he
  refine thn (hkw.run pos pins s1 σ H1 _ I1 q) fun ws s2 ⟨zs, H2, I2, rz, l1, l2, q2⟩ => ⟨I2.kIn, ?_⟩
  rw [hks]
  exact run_fnkP G (hr.mono hk) hb hx I2 r rz l1 l2 q2
/-- f(k = v, ..) -/
theorem pe_caDk0 {g : {α : Type} → List α → List α → List α → List α} (c : Ca X.prog X.w X.K X.mg X.base CX k x st dvs ps sp) (b : Kdn x st dvs.length 0 ks ps g) (hd : dvs ≠ []) (hr : Room j X.A) (hk : k ≤ j) (hx : Passes CX X E) (hg : Gl X x) (hkw : PK X kws tk)
    (hall : (backToKw pos (keywordEach kws X.env)).all (·.1.isSome) = true := by rfl) (hks : (backToKw pos (keywordEach kws X.env)).filterMap (·.1) = ks := by rfl) (hdb : (x == ("__debug__" : Str)) = false := by decide)
    (hpl : ((backTo pos (starEach [] X.env)).any (·.1) || (backToKw pos (keywordEach kws X.env)).any (·.1.isNone)) = false := by rfl) :
    PE X (.Call (.Name x p) [] kws pos) (fun σ H Q => tk σ H fun zs H2 => zs.length = ks.length ∧ sp (g [] dvs zs) H2 Q E) := by
  obtain ⟨f, fd, F, hm, G⟩ := c.ex
  obtain ⟨its, hb⟩ := F.kbindsD 0 ks g hd b.rel b.bind
  refine ⟨fun pins s σ H Q I h => ?_⟩
  refine wpAny_Call_Name_kw (ld_glob I hg hm ?_ hdb)
  refine PySem.W.callWith_KW0 (h₀ := X.base) I.ok.mod.kin F.kp hall ?_ hpl
  refine thn (hkw.run pos pins s σ H _ I h) fun ws s2 ⟨zs, H2, I2, rz, l2, q2⟩ => ⟨I2.kIn, ?_⟩
  rw [hks]
  exact run_fnkP (us := []) (vs := []) G (hr.mono hk) hb hx I2 .nil rz rfl l2 q2
end
end MM
namespace MM
/-! ### rounds: when months and years come together -/
theorem den_mul (x : Rat) : (x.den : Rat) * x = (x.num : Rat) := by
  have h := Rat.num_divInt_den x
  rw [Rat.divInt_eq_div] at h
  have hd : ((x.den : Int) : Rat) ≠ 0 := by
    have := x.den_nz
    intro z
    exact this (by exact_mod_cast z)
  rw [Rat.intCast_natCast] at h hd
  grind
def lcI (a b : Int) : Int := a / (Int.gcd a b : Int) * b
theorem gcd_div_gcd {a b : Int} (ha : 0 < a) : Int.gcd (b / (Int.gcd a b : Int)) (a / (Int.gcd a b : Int)) = 1 := by
  have hg : 0 < Int.gcd a b := Int.gcd_pos_of_ne_zero_left b (by omega)
  have := Int.gcd_ediv_gcd_ediv_gcd (i := a) (j := b) hg
  rw [Int.gcd_comm]
  exact this
theorem lc_facts {a b : Int} (ha : 0 < a) (hb : 0 < b) : 0 < lcI a b ∧ lcI a b % a = 0 ∧ lcI a b % b = 0 ∧ lcI a b / a = b / (Int.gcd a b : Int) ∧ lcI a b / b = a / (Int.gcd a b : Int) ∧ 0 < b / (Int.gcd a b : Int) ∧ 0 < a / (Int.gcd a b : Int) := by
  have hg : 0 < Int.gcd a b := Int.gcd_pos_of_ne_zero_left b (by omega)
  obtain ⟨x, hx⟩ := Int.gcd_dvd_left a b
  obtain ⟨z, hz⟩ := Int.gcd_dvd_right a b
  unfold lcI
  generalize hG : (Int.gcd a b : Int) = G at *
  have hG0 : 0 < G := by omega
  have e1 : a / G = x := by rw [hx, Int.mul_ediv_cancel_left _ (by omega)]
  have e2 : b / G = z := by rw [hz, Int.mul_ediv_cancel_left _ (by omega)]
  have x0 : 0 < x := by
    apply Int.not_le.mp
    intro h
    have := Int.mul_le_mul_of_nonneg_left h (Int.le_of_lt hG0)
    omega
  have z0 : 0 < z := by
    apply Int.not_le.mp
    intro h
    have := Int.mul_le_mul_of_nonneg_left h (Int.le_of_lt hG0)
    omega
  rw [e1, e2]
  have e3 : x * b = a * z := by rw [hx, hz]; ac_rfl
  refine ⟨Int.mul_pos x0 hb, ?_, ?_, ?_, ?_, z0, x0⟩
  · rw [e3]
    exact Int.mul_emod_right _ _
  · exact Int.mul_emod_left _ _
  · rw [e3, Int.mul_ediv_cancel_left _ (by omega)]
  · rw [Int.mul_ediv_cancel _ (by omega)]
def wrD (m y : Rat) : Int := lcI m.num y.num
def wrM (m y : Rat) : Int := wrD m y / m.num * m.den
def wrY (m y : Rat) : Int := wrD m y / y.num * y.den
theorem div_back {a d : Int} (h : d % a = 0) : d / a * a = d := Int.ediv_mul_cancel (Int.dvd_of_emod_eq_zero h)
theorem wr_eqM {m y : Rat} (hm : 0 < m) (hy : 0 < y) : wrD m y * m.den = wrM m y * m.num := by
  have f := lc_facts (num_pos hm) (num_pos hy)
  have := div_back (show wrD m y % m.num = 0 from f.2.1)
  unfold wrM
  rw [Int.mul_right_comm, this]
theorem wr_eqY {m y : Rat} (hm : 0 < m) (hy : 0 < y) : wrD m y * y.den = wrY m y * y.num := by
  have f := lc_facts (num_pos hm) (num_pos hy)
  have := div_back (show wrD m y % y.num = 0 from f.2.2.1)
  unfold wrY
  rw [Int.mul_right_comm, this]
theorem den_ne (x : Rat) : ((x.den : Int) : Rat) ≠ 0 := by
  have := x.den_nz
  intro z
  exact this (by exact_mod_cast z)
theorem of_den {x : Rat} {D M : Int} (h : D * x.den = M * x.num) : (M : Rat) * x = (D : Rat) := by
  have h1 : ((D * x.den : Int) : Rat) = ((M * x.num : Int) : Rat) := by rw [h]
  rw [Rat.intCast_mul, Rat.intCast_mul] at h1
  have h2 := den_mul x
  have h3 := den_ne x
  rw [Rat.intCast_natCast] at h1 h3
  grind
theorem fl_int (x : Rat) (n : Int) : (x + n).floor = x.floor + n := by
  have h1 : ∀ i : Int, (x + n).floor ≤ i ↔ x.floor + n ≤ i := fun i => by
    rw [floor_le_iff]
    have h2 : x.floor + n ≤ i ↔ x.floor ≤ i - n := by omega
    rw [h2, floor_le_iff]
    have e1 : ((i + 1 : Int) : Rat) = (i : Rat) + 1 := cast_add1 i
    have e2 : ((i - n + 1 : Int) : Rat) = (i : Rat) - n + 1 := by rw [cast_add1, Rat.intCast_sub]
    rw [e1, e2]
    grind
  have a := (h1 ((x + n).floor)).mp (Int.le_refl _)
  have b := (h1 (x.floor + n)).mpr (Int.le_refl _)
  omega
theorem st_shift {m o : Rat} {M D : Int} (h : (M : Rat) * m = D) (k t : Int) : stF m o (k + t * M) = stF m o k + t * D := by
  unfold stF
  rw [← fl_int]
  congr 1
  rw [Rat.intCast_add, Rat.intCast_mul, Rat.intCast_mul, ← h]
  grind
theorem ma_shift {m o : Rat} {M D : Int} (hm : 0 < m) (h : (M : Rat) * m = D) (d t : Int) : maF m o (d + t * D) = maF m o d + t * M := by
  refine ma_of hm ?_ ?_
  · rw [st_shift h]
    have := st_ma (o := o) hm d
    omega
  · rw [Int.add_right_comm, st_shift h]
    have := ma_st (o := o) hm d
    omega
theorem md_shift {y k : Rat} {Y D : Int} (h : (Y : Rat) * y = D) (j t : Int) : mdF y k (j + 12 * (t * Y)) = mdF y k j + t * D := by
  unfold mdF
  rw [← fl_int]
  congr 1
  have e : ((12 : Int) : Rat) = 12 := rfl
  rw [Rat.intCast_add, Rat.intCast_mul, Rat.intCast_mul, Rat.intCast_mul, ← h, e]
  grind
theorem j_shift {y k : Rat} {Y D : Int} (hy : 0 < y / 12) (h : (Y : Rat) * y = D) (d t : Int) : jF y k (d + t * D) = jF y k d + 12 * (t * Y) := by
  have key : ∀ j : Int, j < jF y k (d + t * D) ↔ j < jF y k d + 12 * (t * Y) := fun j => by
    rw [← md_lt hy]
    have e : mdF y k j = mdF y k (j - 12 * (t * Y)) + t * D := by
      rw [← md_shift h]
      congr 1
      omega
    rw [e]
    have e2 : j < jF y k d + 12 * (t * Y) ↔ j - 12 * (t * Y) < jF y k d := by omega
    rw [e2, ← md_lt hy]
    omega
  have a := key (jF y k (d + t * D))
  have b := key (jF y k d + 12 * (t * Y))
  omega
end MM
namespace MM
open PySem PySem.Spec PyProof.Rows L2
section
variable {J : It} {n : Nat} {G : Hp → Prop} {Y : Nat → Hp → V → Hp → Prop}
/-- a comprehension with a test, whose i-th thing is the whole number f i, and there where B i -/
theorem lc_filt (w : Walk J n G Y) (hY : ∀ i H x H', Y i H x H' → Same H H') {g : TG} {tt : TT} {te : TE} {vs : List Nat} {σ : L2.St} {H : Hp} {D : Addr} {Qd : Hp → Prop} (nD : H D = none) (hn : n < sizeLine) (f : Nat → Int) (B : Nat → Bool) (hG : ∀ H', Same H H' → G H')
    (hs : ∀ i x H1 H2 (R : V → Hp → Prop) (N : Hp → Prop), i < n → Same H H1 → Y i H1 x H2 → (B i = true → ∀ H3, Same H2 H3 → R (.int (f i)) H3) → (B i = false → ∀ H3, Same H2 H3 → N H3) → g x (wipe σ vs) H2 fun σ2 H3 => wipe σ2 vs = wipe σ vs ∧ tt σ2 H3 fun b H4 => if b = true then te σ2 H4 R else N H4)
    (hd : ∀ H', H' D = some (.lst ((((List.range n).filter B).map f).map V.int)) → Same H H' → Qd H') :
    ∃ W : Nat → Nat → Hp → Prop, (∃ m, W 0 m (L2.upd H D (.lst []))) ∧ ∀ i m H, W i m H →
      (J.stop i H ∧ Qd H) ∨ (J.go i H ∧ ∃ Nx : Hp → Prop, (∀ H', Nx H' → ∃ m', m' < m ∧ W (i + 1) m' H') ∧ ∀ x H', J.yld i H x H' → g x (wipe σ vs) H' fun σ2 H2 => wipe σ2 vs = wipe σ vs ∧ tt σ2 H2 fun b H3 =>
        if b = true then te σ2 H3 fun y H4 => ∃ acc, H4 D = some (.lst acc) ∧ acc.length < sizeLine ∧ Nx (L2.upd H4 D (.lst (acc ++ [y]))) else Nx H3) := by
  refine lc_it w (fun i H' => H' D = some (.lst ((((List.range i).filter B).map f).map V.int)) ∧ Same H H') ⟨upd_same, upd_keep nD (Same.refl H)⟩ (fun i H' _ ⟨_, s⟩ => hG H' s) ?_ (fun H' ⟨e, s⟩ => hd H' e s)
  rintro i x H1 H2 hi ⟨e, s⟩ y
  have s2 := hY _ _ _ _ y
  have el : ((((List.range i).filter B).map f).map V.int).length < sizeLine := by
    rw [List.length_map, List.length_map]
    have := List.length_filter_le B (List.range i)
    rw [List.length_range] at this
    omega
  refine hs i x H1 H2 _ _ hi s y (fun hB H3 s3 => ?_) (fun hB H3 s3 => ?_)
  · refine ⟨_, s3 _ _ (s2 _ _ e), el, ?_, upd_keep nD (s.trans (s2.trans s3))⟩
    rw [upd_same, List.range_succ, List.filter_append, List.map_append, List.map_append]
    simp [hB]
  · refine ⟨?_, s.trans (s2.trans s3)⟩
    rw [s3 _ _ (s2 _ _ e), List.range_succ, List.filter_append]
    simp [hB]
end
/-! ### first days of years -/
def fdF (m y o k : Rat) (a : Int) : Int := stF m o (maF m o (mdF y k (12 * a)))
theorem int_le_floor {i : Int} {x : Rat} : i ≤ x.floor ↔ (i : Rat) ≤ x := by
  have h := floor_le_iff (q := x) (i := i - 1)
  rw [show i - 1 + 1 = i by omega] at h
  constructor
  · intro a
    apply Rat.not_lt.mp
    intro z
    have := h.mpr z
    omega
  · intro a
    apply Int.not_lt.mp
    intro z
    have := h.mp (by omega)
    grind
theorem fl_mono {x z : Rat} (h : x ≤ z) : x.floor ≤ z.floor := by
  rw [int_le_floor]
  have := int_le_floor (i := x.floor) (x := x) |>.mp (Int.le_refl _)
  grind
theorem st_w {m y o : Rat} (f : Fit m y) (i : Int) : stF m o (i + 1) ≤ stF m o i + m.ceil := by
  unfold stF
  rw [← fl_int]
  refine fl_mono ?_
  have h : m ≤ (m.ceil : Rat) := by
    apply Rat.not_lt.mp
    intro z
    have := lt_ceil_iff (q := m) (i := m.ceil) |>.mpr z
    omega
  rw [cast_add1]
  grind
theorem md_w {m y k : Rat} (f : Fit m y) (j : Int) : mdF y k j + m.ceil ≤ mdF y k (j + 1) := by
  unfold mdF
  rw [← fl_int]
  refine fl_mono ?_
  have h := f.between
  rw [cast_add1]
  grind
theorem md_mono {y k : Rat} (hy : 0 < y / 12) {i j : Int} (h : i ≤ j) : mdF y k i ≤ mdF y k j := by
  unfold mdF
  refine fl_mono ?_
  have h1 : (i : Rat) ≤ (j : Rat) := by exact_mod_cast h
  have h2 := Rat.mul_le_mul_of_nonneg_right h1 (Rat.le_of_lt hy)
  grind
/-- in a month falls one mark at most -/
theorem one_mark {m y o k : Rat} (f : Fit m y) {i j : Int} (h1 : stF m o i ≤ mdF y k j) (h2 : mdF y k j < stF m o (i + 1)) : jF y k (stF m o i) = j := by
  have hy := f.ypos
  have a : ¬ j < jF y k (stF m o i) := fun z => by
    have := (md_lt hy).mpr z
    omega
  apply Int.le_antisymm (by omega)
  apply Int.not_lt.mp
  intro z
  have b := md_ge (y := y) (k := k) hy (stF m o i)
  have c := md_w (k := k) f (jF y k (stF m o i))
  have d := md_mono (k := k) hy (show jF y k (stF m o i) + 1 ≤ j by omega)
  have e := st_w (o := o) f i
  omega
theorem ma_st' {m o : Rat} (h1 : 1 ≤ m) (i : Int) : maF m o (stF m o i) = i := by
  have := st_step (o := o) h1 i
  exact ma_of (by grind) (Int.le_refl _) (by omega)
theorem first_jF {m y o k : Rat} (f : Fit m y) (a : Int) : jF y k (stF m o (maF m o (mdF y k (12 * a)))) = 12 * a := one_mark f (st_ma f.pos _) (ma_st f.pos _)
/-- about which year begins on a day -/
theorem first_near {m y o k : Rat} (f : Fit m y) (a : Int) : (((fdF m y o k a - k.floor : Int) : Rat) / y).floor ≤ a ∧ a ≤ (((fdF m y o k a - k.floor : Int) : Rat) / y).floor + 1 := by
  have hp := f.pos
  have hy := f.ypos'
  have y12 : 12 ≤ y := by
    have h1 := f.one
    have h2 := f.between
    have h3 : (1 : Rat) ≤ (m.ceil : Rat) := by
      have : ((1 : Int) : Rat) ≤ (m.ceil : Rat) := by
        have : (1 : Int) ≤ m.ceil := by
          apply Int.not_lt.mp
          intro z
          have hm : m ≤ (m.ceil : Rat) := by
            apply Rat.not_lt.mp
            intro z
            have := lt_ceil_iff (q := m) (i := m.ceil) |>.mpr z
            omega
          have h0 : (m.ceil : Rat) ≤ ((0 : Int) : Rat) := by exact_mod_cast (show m.ceil ≤ 0 by omega)
          have e0 : ((0 : Int) : Rat) = 0 := rfl
          grind
        exact_mod_cast this
      exact this
    grind
  have s1 := st_ma (o := o) hp (mdF y k (12 * a))
  have s2 := ma_st (o := o) hp (mdF y k (12 * a))
  have s3 := st_w (o := o) f (maF m o (mdF y k (12 * a)))
  have bt := f.between
  have kf := int_le_floor (i := k.floor) (x := k) |>.mp (Int.le_refl _)
  have kl := floor_le_iff (q := k) (i := k.floor) |>.mp (Int.le_refl _)
  rw [cast_add1] at kl
  have md1 := int_le_floor (i := mdF y k (12 * a)) (x := k + ((12 * a : Int) : Rat) * (y / 12)) |>.mp (Int.le_refl _)
  have md2 := floor_le_iff (q := k + ((12 * a : Int) : Rat) * (y / 12)) (i := mdF y k (12 * a)) |>.mp (Int.le_refl _)
  rw [cast_add1] at md2
  have e12 : ((12 * a : Int) : Rat) * (y / 12) = (a : Rat) * y := by
    rw [Rat.intCast_mul]
    have : ((12 : Int) : Rat) = 12 := rfl
    rw [this]
    grind
  rw [e12] at md1 md2
  have c1 : ((fdF m y o k a : Int) : Rat) ≤ (mdF y k (12 * a) : Rat) := by exact_mod_cast s1
  have c2 : (mdF y k (12 * a) : Rat) + 1 ≤ (fdF m y o k a : Rat) + (m.ceil : Rat) := by
    have h := Int.lt_of_lt_of_le s2 s3
    have h2 : mdF y k (12 * a) + 1 ≤ fdF m y o k a + m.ceil := h
    have h3 : ((mdF y k (12 * a) + 1 : Int) : Rat) ≤ ((fdF m y o k a + m.ceil : Int) : Rat) := by exact_mod_cast h2
    rw [Rat.intCast_add, Rat.intCast_add] at h3
    exact h3
  have cs : ((fdF m y o k a - k.floor : Int) : Rat) = (fdF m y o k a : Rat) - (k.floor : Rat) := Rat.intCast_sub _ _
  rw [cs]
  generalize (fdF m y o k a : Rat) = A at *
  generalize (k.floor : Rat) = F at *
  generalize (mdF y k (12 * a) : Rat) = Md at *
  generalize (m.ceil : Rat) = Wc at *
  have u1 : A - F < (a : Rat) * y + 1 := by grind
  have u2 : (a : Rat) * y - y / 12 ≤ A - F + 1 := by grind
  constructor
  · rw [floor_le_iff, cast_add1]
    apply (Rat.div_lt_iff hy).mpr
    grind
  · have key : (a - 1 : Int) ≤ ((A - F) / y).floor := by
      rw [int_le_floor, Rat.intCast_sub]
      have : ((1 : Int) : Rat) = 1 := rfl
      rw [this]
      apply Rat.not_lt.mp
      intro z
      have z2 := (Rat.div_lt_iff hy).mp z
      grind
    omega
end MM
namespace MM
open PySem PySem.Spec PyProof.Rows L2
/-! ### figures -/
def dg (d : Nat) : Nat := if d < 10 then 48 + d else 87 + d
/-- the figures, the last one first -/
def lsd (b n : Nat) : List Nat := if h : b < 2 ∨ n < b then [n] else (n % b) :: lsd b (n / b)
termination_by n
decreasing_by exact Nat.div_lt_self (by omega) (by omega)
theorem lsd_lt {b n : Nat} (h : n < b) : lsd b n = [n] := by
  rw [lsd, dif_pos (.inr h)]
theorem lsd_ge {b n : Nat} (hb : 2 ≤ b) (h : b ≤ n) : lsd b n = (n % b) :: lsd b (n / b) := by
  rw [lsd, dif_neg (by omega)]
theorem lsd_ne (b n : Nat) : lsd b n ≠ [] := by
  rw [lsd]
  split <;> simp
theorem lsd_small {b : Nat} (hb : 2 ≤ b) : ∀ (n : Nat), ∀ d ∈ lsd b n, d < b := fun n => by
  induction n using Nat.strongRecOn with
  | _ n ih =>
    intro d hd
    by_cases h : n < b
    · rw [lsd_lt h] at hd
      rw [List.mem_singleton.mp hd]
      exact h
    · rw [lsd_ge hb (by omega)] at hd
      rcases List.mem_cons.mp hd with rfl | hd
      · exact Nat.mod_lt _ (by omega)
      · exact ih (n / b) (Nat.div_lt_self (by omega) (by omega)) d hd
theorem lsd_len {b : Nat} (hb : 2 ≤ b) : ∀ (e n : Nat), n < 2 ^ e → 0 < e → (lsd b n).length ≤ e := fun e => by
  induction e with
  | zero => intro n h h0; omega
  | succ e ih =>
    intro n h h0
    by_cases hn : n < b
    · rw [lsd_lt hn]
      simp
    · rw [lsd_ge hb (by omega), List.length_cons]
      have h1 : n / b ≤ n / 2 := Nat.div_le_div_left hb (by decide)
      have h2 : n / 2 < 2 ^ e := by rw [Nat.pow_succ] at h; omega
      by_cases he : 0 < e
      · have := ih (n / b) (by omega) he
        omega
      · have e0 : e = 0 := by omega
        subst e0
        have : n / b = 0 := by omega
        rw [this, lsd_lt (by omega)]
        simp at h2 ⊢
        have hz : n / b = 0 := by omega
        have := (Nat.div_eq_zero_iff).mp hz
        omega
theorem lsd_val {b : Nat} (hb : 2 ≤ b) : ∀ n : Nat, (lsd b n).foldr (fun d a => a * b + d) 0 = n := fun n => by
  induction n using Nat.strongRecOn with
  | _ n ih =>
    by_cases h : n < b
    · rw [lsd_lt h]
      simp
    · rw [lsd_ge hb (by omega), List.foldr_cons, ih (n / b) (Nat.div_lt_self (by omega) (by omega))]
      have := Nat.div_add_mod n b
      rw [Nat.mul_comm] at this
      exact this
def sg (d : Nat) : Str := ⟨#[dg d]⟩
def txt (ds : List Nat) : Str := ⟨(ds.map dg).toArray⟩
/-- a whole number by a base -/
def numT (b : Nat) (i : Int) : Str := if i < 0 then ("-" : Str) ++ txt (lsd b i.natAbs).reverse else txt (lsd b i.natAbs).reverse
theorem str_ext {x y : Str} (h : x.cps.toList = y.cps.toList) : x = y := by
  cases x
  cases y
  congr
  exact Array.toList_inj.mp h
theorem app_cps (x y : Str) : (x ++ y).cps.toList = x.cps.toList ++ y.cps.toList := by
  show (x.cps ++ y.cps).toList = _
  simp
theorem txt_cps (ds : List Nat) : (txt ds).cps.toList = ds.map dg := rfl
theorem txt_len (ds : List Nat) : (txt ds).length = ds.length := by
  show ((ds.map dg).toArray).size = _
  simp
theorem dash_cps : ("-" : Str).cps.toList = [45] := by decide +kernel
theorem sg_txt (d : Nat) (ds : List Nat) : sg d ++ txt ds = txt (d :: ds) := str_ext (by
  rw [app_cps]
  rfl)
theorem nil_txt : ("" : Str) = txt [] := str_ext (by decide +kernel)
theorem dg_ne {d : Nat} (h : d < 16) : dg d ≠ 45 := by
  unfold dg
  split <;> omega
def FIG : Str := "0123456789abcdef"
theorem fig_len : FIG.length = 16 := by decide +kernel
theorem fig_at {d : Nat} (h : d < 16) : atI FIG.cps.toList (d : Int) = some (dg d) := by
  have : ∀ d : Fin 16, atI FIG.cps.toList ((d.val : Nat) : Int) = some (dg d.val) := by decide +kernel
  exact this ⟨d, h⟩
theorem fig_find {d : Nat} (h : d < 16) : Txt.find FIG (sg d) = (d : Int) := by
  have : ∀ d : Fin 16, Txt.find FIG (sg d.val) = ((d.val : Nat) : Int) := by decide +kernel
  exact this ⟨d, h⟩
theorem glued_nil : ∀ (ps : List Str) (acc : Array Nat), (ps.foldl (fun acc p => acc ++ ("" : Str).cps ++ p.cps) acc).toList = acc.toList ++ (ps.map fun p => p.cps.toList).flatten
  | [], acc => by simp
  | p :: ps, acc => by
    rw [List.foldl_cons, glued_nil ps]
    have e : ("" : Str).cps = #[] := by decide +kernel
    rw [e]
    simp
theorem join_nil (ps : List Str) : (Txt.join ("" : Str) ps).cps.toList = (ps.map fun p => p.cps.toList).flatten := by
  show (((ps.drop 1).foldl (fun acc p => acc ++ ("" : Str).cps ++ p.cps) (ps.headD Str.empty).cps)).toList = _
  cases ps with
  | nil => rfl
  | cons p ps =>
    show ((ps.foldl (fun acc p => acc ++ ("" : Str).cps ++ p.cps) p.cps)).toList = _
    rw [glued_nil]
    simp
theorem flat_sg : ∀ ds : List Nat, ((ds.map sg).map fun p => p.cps.toList).flatten = ds.map dg
  | [] => rfl
  | d :: ds => by
    rw [List.map_cons, List.map_cons, List.flatten_cons, flat_sg ds]
    rfl
theorem join_sg (ds : List Nat) : Txt.join ("" : Str) ((ds.map sg).reverse) = txt ds.reverse := str_ext (by
  rw [join_nil, ← List.map_reverse, flat_sg]
  rfl)
theorem join_dash (ds : List Nat) : Txt.join ("" : Str) ((ds.map sg ++ [("-" : Str)]).reverse) = ("-" : Str) ++ txt ds.reverse := str_ext (by
  rw [join_nil, List.reverse_append, ← List.map_reverse, List.map_append, List.flatten_append, flat_sg, app_cps]
  rfl)
theorem sub_iff (x y : Str) : Builtin.Str.subAt x y 0 = true ↔ x.cps.toList.take y.length = y.cps.toList := by
  unfold Builtin.Str.subAt
  rw [beq_iff_eq, ← Array.toList_inj]
  simp
theorem dash_len : ("-" : Str).length = 1 := by decide +kernel
theorem not_dash {ds : List Nat} (h0 : ds ≠ []) (h : ∀ d ∈ ds, d < 16) : Builtin.Str.subAt (txt ds) ("-" : Str) 0 = false := by
  cases hb : Builtin.Str.subAt (txt ds) ("-" : Str) 0 with
  | false => rfl
  | true =>
    have := (sub_iff _ _).mp hb
    rw [dash_len, dash_cps, txt_cps] at this
    cases ds with
    | nil => exact absurd rfl h0
    | cons d ds =>
      have e : dg d = 45 := by simpa using this
      exact absurd e (dg_ne (h d (by simp)))
theorem is_dash (ds : List Nat) : Builtin.Str.subAt (("-" : Str) ++ txt ds) ("-" : Str) 0 = true := by
  rw [sub_iff, dash_len, app_cps, dash_cps]
  rfl
theorem dash_txt_len (ds : List Nat) : (("-" : Str) ++ txt ds).length = ds.length + 1 := by
  show (("-" : Str).cps ++ (txt ds).cps).size = _
  rw [Array.size_append]
  show ("-" : Str).length + (txt ds).length = _
  rw [dash_len, txt_len]
  omega
theorem rp_txt {ds : List Nat} (h0 : ds ≠ []) (h : ∀ d ∈ ds, d < 16) : Txt.removeprefix (txt ds) ("-" : Str) = txt ds := by
  unfold Txt.removeprefix
  rw [not_dash h0 h]
  rfl
theorem rp_dash (ds : List Nat) : Txt.removeprefix (("-" : Str) ++ txt ds) ("-" : Str) = txt ds := by
  unfold Txt.removeprefix
  rw [is_dash, dash_len, dash_txt_len]
  show (if (ds.length + 1 - 1 == (("-" : Str) ++ txt ds).length) = true then _ else _) = _
  rw [dash_txt_len, if_neg (by simp)]
  refine str_ext ?_
  show ((("-" : Str) ++ txt ds).cps.extract 1 (ds.length + 1)).toList = _
  have e : (("-" : Str) ++ txt ds).cps.toList = 45 :: ds.map dg := by rw [app_cps, dash_cps]; rfl
  rw [Array.toList_extract, e, txt_cps]
  simp
  exact List.take_of_length_le (by simp)
theorem sw_txt {ds : List Nat} (h0 : ds ≠ []) (h : ∀ d ∈ ds, d < 16) : Txt.startswith (txt ds) ("-" : Str) = false := by
  unfold Txt.startswith
  rw [not_dash h0 h, Bool.and_false]
theorem sw_dash (ds : List Nat) : Txt.startswith (("-" : Str) ++ txt ds) ("-" : Str) = true := by
  unfold Txt.startswith
  rw [is_dash, dash_txt_len, dash_len]
  simp
/-! ### a text once or not at all -/
theorem op_mulS {X : Cx} : OpR X (binaryOp .Mult) (fun x y H Q => ∃ (z : Str) (b : Bool), x = .str z ∧ y = .int (if b = true then 1 else 0) ∧ Q (.str (if b = true then z else Str.empty)) H) := by
  intro pins s σ H x y v u Q I rx ry h
  obtain ⟨z, b, rfl, rfl, q⟩ := h
  obtain ⟨t, rfl⟩ := rx
  obtain ⟨t', rfl⟩ := ry
  cases b with
  | false => exact P.mul_str_none (by decide) (by decide) ⟨.str Str.empty, H, I.tok _, ⟨_, rfl⟩, q⟩
  | true =>
    refine P.mul_str (by decide) (fun _ e => by simp at e) (fun _ e => by simp at e) ?_
    rw [if_neg (by decide), if_pos (by simp)]
    exact ⟨.str z, H, I, ⟨_, rfl⟩, q⟩
end MM
namespace MM
open PySem PySem.Spec PySem.Calls PyProof.Rows L2
/-! ### figures by ten are what str tells -/
theorem dg_char {d : Nat} (h : d < 10) : d.digitChar.toNat = dg d := by
  have : ∀ d : Fin 10, d.val.digitChar.toNat = dg d.val := by decide
  exact this ⟨d, h⟩
theorem digits_lsd : ∀ n : Nat, (Nat.toDigits 10 n).map Char.toNat = (lsd 10 n).reverse.map dg := fun n => by
  induction n using Nat.strongRecOn with
  | _ n ih =>
    by_cases h : n < 10
    · rw [Nat.toDigits_of_lt_base h, lsd_lt h]
      show [n.digitChar.toNat] = [dg n]
      rw [dg_char h]
    · rw [Nat.toDigits_of_base_le (by decide) (by omega), lsd_ge (by decide) (by omega), List.map_append, ih (n / 10) (by omega), List.reverse_cons, List.map_append]
      show _ ++ [(n % 10).digitChar.toNat] = _ ++ [dg (n % 10)]
      rw [dg_char (by omega)]
theorem of_cps (s : String) : (Str.ofString s).cps.toList = s.toList.map Char.toNat := by
  show (cpsOfBytes 0 0 s.toByteArray.data.toList).toArray.toList = _
  rw [cpsOfBytes_string]
theorem nat_txt (n : Nat) : Str.ofString n.repr = txt (lsd 10 n).reverse := str_ext (by
  rw [of_cps, txt_cps]
  unfold Nat.repr
  rw [String.toList_ofList]
  exact digits_lsd n)
theorem numT_str (i : Int) : Str.ofString (toString i) = numT 10 i := by
  cases i with
  | ofNat m =>
    show Str.ofString m.repr = _
    unfold numT
    rw [if_neg (show ¬ Int.ofNat m < 0 from Int.not_lt.mpr (Int.natCast_nonneg m)), nat_txt]
    rfl
  | negSucc m =>
    show Str.ofString ("-" ++ m.succ.repr) = _
    unfold numT
    rw [if_pos (by omega)]
    refine str_ext ?_
    rw [of_cps, String.toList_append, List.map_append, app_cps, dash_cps]
    have e : m.succ.repr.toList.map Char.toNat = (txt (lsd 10 m.succ).reverse).cps.toList := by rw [← nat_txt, of_cps]
    rw [e]
    rfl
/-! ### repr(x) of an instance with its own __repr__ -/
def rReprO (C : Addr) (sp : Sp) (E : XK) : List V → Hp → VK → Prop := fun xs H Q => ∃ (a dx : Addr) (fs : List (Str × V)), xs = [.ref a] ∧ H a = some (.ins C dx fs) ∧ sp [.ref a] H (fun v H' => ∃ x : Str, v = .str x ∧ Q (.str x) H') E
theorem call_reprO {X : Cx} {CX : CXT} {k : Nat} {C f : Addr} {fd : FuncData} {ps : List Str} {sp : Sp} {E : XK} (F : FnOk X.prog X.w X.K X.mg X.base CX k f fd ps sp) (hs : PySem.W.findIn X.K (.ref C) "__repr__" = some (some (.ref f))) (hf : PySem.W.isFn X.K (.ref f) = true) (hb : Binds X.K fd ps []) (hx : Passes CX X E) (hr : Room (k + 1) X.A) : CallR X (.builtin "repr") (rReprO C sp E) := by
  intro pins s σ H xs us Q I r h
  obtain ⟨a, dx, fs, rfl, ha, hq⟩ := h
  obtain ⟨u, rfl, r1⟩ := vals1 r
  cases (show u = Value.ref a from r1)
  obtain ⟨mA, J, _⟩ := ins_get I.hok ha
  obtain ⟨od, J, _⟩ := J.look
  obtain ⟨m, fr⟩ := I.fr
  have hr1 : Room k X.A.in1 := hr.in1
  have hl : ([Value.ref a] ++ []).length = ps.length := (show ([V.ref a] : List V).length = _ from F.len _ _ _ _ hq)
  refine PySem.W.repr_K hr1.units0 fr I.ok.mod.kin J hs hf (wpAny_call (codeAny_mono (F.run X.A.in1 X.stack s H ⟨[.ref a], []⟩ [.ref a] [.ref a] _ E hr1 I.env0.in1 (hb s [.ref a] I.kIn hl) (.cons rfl .nil) hq) fun res s' hres => ?_))
  match res, hres with
  | .error er, hres => exact hx pins σ H s er s' I hres
  | .ok .next, hres => exact hres.elim
  | .ok .brk, hres => exact hres.elim
  | .ok .cont, hres => exact hres.elim
  | .ok (.ret u), hres =>
    obtain ⟨z, H', I', rz, x, rfl, q⟩ := I.after hres
    obtain ⟨t, rfl⟩ := rz
    exact ⟨.str x, H', I', ⟨t, rfl⟩, q⟩
end MM
namespace MM
open PySem PySem.Spec PySem.Calls PyProof.Rows L2
/-! ### truths as texts -/
def blS (b : Bool) : Str := if b then "True" else "False"
section
variable {prog : Program} {w : World} {A : Around} {E : Value → Shared → Prop} {s : Shared}
open Builtin Builtin.Str in
theorem strOf_bool {b : Bool} {Q : Value → Shared → Prop} (h : Q (.str (blS b) s.toks) { s with toks := s.toks + 1 }) : wpAny (model prog w) A (PySem.Builtin.Str.strOf (.bool b)) Q E s := by
  unfold PySem.Builtin.Str.strOf
  rw [show isExactStr (.bool b) = false from rfl]
  simp only [cRoomFor, show [Value.bool b].any Value.onHeap = false from rfl, Bool.false_eq_true, if_false, pure_bind]
  refine wpAny_bind (m := callSpecial? _ (PySem.Str.ofString "__str__")) (wpAny_callSpecial?_slot (name := PySem.Str.ofString "__str__") (PySem.typeIs_bool s b) PySem.F.slot_bool_str (call_object_str_gives (PySem.typeIs_bool s b) PySem.F.slot_bool_str PySem.F.slot_bool_repr PySem.F.entry_bool_repr (PySem.F.args_bool_repr_1 _) (gives_bool_repr b) ?_ rfl (by cases b <;> decide)))
  exact wpAny_pure h
theorem str_of_bool {b : Bool} {Q : Value → Shared → Prop} (h : Q (.str (blS b) s.toks) { s with toks := s.toks + 1 }) : wpAny (model prog w) A (call (.type "str") [.bool b]) Q E s := by
  refine callType_codes (T := "str") (Bi := Builtin.«object.__init__») (Q₁ := fun r s₁ => ∃ y u, r = .str y u ∧ Q r s₁) PySem.F.called_str (PySem.F.typeCall_str_1 _) PySem.F.entry_object_init ?_ ?_
  · refine codeAny_of_tree ?_
    show wpAny _ A.in1.in1 (do checkBuiltinCall "str.__new__" ⟨[.type "str", .bool b], []⟩; again (.builtin "str.__new__" ⟨[.type "str", .bool b], []⟩)) _ _ s
    refine wpAny_bind (wpAny_of_eq (PySem.F.newCall_str_1 _) (wpAny_pure ⟨plainId_quiet (by decide +kernel) _, codeAny_builtin PySem.F.entry_str_new ?_⟩))
    rw [Around.under_plainId (by decide +kernel) _]
    rw [str_new_tree]
    refine wpAny_bind (wpAny_pure ?_)
    refine wpAny_bind (wpAny_of_eq isSubtype_str_str ?_)
    exact wpAny_bind (strOf_bool (wpAny_pure ⟨_, _, rfl, h⟩))
  · rintro obj s₁ ⟨y, u, rfl, hq⟩
    exact ⟨typeIs_str _ _ _, PySem.F.args_object_init_2 _ _, object_init_meets PySem.F.called_str.init.lookup PySem.F.called_str.made (by decide) prog w A.in1 _ s₁ ⟨typeIs_str _ _ _, rfl, hq⟩⟩
end
section
variable {X : Cx}
theorem call_str_bool : CallR X (.type "str") (fun xs H Q => ∃ b, xs = [.bl b] ∧ Q (.str (blS b)) H) := by
  intro pins s σ H xs us Q I r h
  obtain ⟨b, rfl, q⟩ := h
  obtain ⟨u, rfl, r1⟩ := vals1 r
  cases (show u = Value.bool b from r1)
  exact str_of_bool ⟨.str _, H, I.tok _, ⟨_, rfl⟩, q⟩
/-- str of a whole number or a truth -/
theorem call_strIB : CallR X (.type "str") (fun xs H Q => (∃ i : Int, xs = [.int i] ∧ i.natAbs.log2 < 1920 ∧ Q (.str (toString i)) H) ∨ ∃ b, xs = [.bl b] ∧ Q (.str (blS b)) H) := CallR.or call_str_int call_str_bool
/-- {x} of a truth -/
def tFmtB (te : TE) : TE := fun σ H Q => te σ H fun x H1 => ∃ b : Bool, x = .bl b ∧ Q (.str (blS b)) H1
theorem pe_fmtB {e : Expr} {te : TE} {pos : Pos} (he : PE X e te) : PE X (.FormattedValue e (-1) none pos) (tFmtB te) := by
  refine ⟨fun pins s σ H Q I h => ?_⟩
  refine wpAny_FormattedValue_plain (thn (he.run pins s σ H _ I h) fun v s1 hv => ?_)
  obtain ⟨x, H1, I1, r1, b, rfl, q⟩ := hv
  cases (show v = Value.bool b from r1)
  exact wpAny_formatField_bool ⟨.str (blS b), H1, I1.tok _, ⟨_, rfl⟩, q⟩
end
/-- str(x) of a whole number, a truth, or an instance with its own __str__ -/
@[irreducible] def rSA (C : Addr) (sp : Sp) (E : XK) : List V → Hp → VK → Prop := fun xs H Q => ((∃ i : Int, xs = [.int i] ∧ i.natAbs.log2 < 1920 ∧ Q (.str (toString i)) H) ∨ ∃ b, xs = [.bl b] ∧ Q (.str (blS b)) H) ∨ rStrO C sp E xs H Q
theorem sa_int {C : Addr} {sp : Sp} {E : XK} {H : Hp} {Q : VK} {i : Int} (h : i.natAbs.log2 < 1920) (q : Q (.str (toString i)) H) : rSA C sp E [.int i] H Q := by
  unfold rSA
  exact .inl (.inl ⟨i, rfl, h, q⟩)
theorem sa_bl {C : Addr} {sp : Sp} {E : XK} {H : Hp} {Q : VK} {b : Bool} (q : Q (.str (blS b)) H) : rSA C sp E [.bl b] H Q := by
  unfold rSA
  exact .inl (.inr ⟨b, rfl, q⟩)
theorem sa_own {C : Addr} {sp : Sp} {E : XK} {H : Hp} {Q : VK} {a dx : Addr} {fs : List (Str × V)} (e : H a = some (.ins C dx fs)) (q : sp [.ref a] H (fun v H' => ∃ x : Str, v = .str x ∧ Q (.str x) H') E) : rSA C sp E [.ref a] H Q := by
  unfold rSA
  exact .inr ⟨a, dx, fs, rfl, e, q⟩
theorem call_str_SA {X : Cx} {CX : CXT} {k : Nat} {C : Addr} {qual : Str} {st : Stmt} {ps : List Str} {sp : Sp} {E : XK} (c : Cm X.prog X.w X.K X.mg X.base CX k C "__str__" qual st ps sp) (b : Bd "__str__" qual st ps) (hr : Room (k + 2) X.A) (hx : Passes CX X E) :
    CallR X (.type "str") (rSA C sp E) := by
  obtain ⟨f, fd, F, M, hc, G⟩ := c.ex
  unfold rSA
  exact CallR.or call_strIB (call_strO G M.1 M.2 (F.bindsN b) hx hr)
theorem call_reprC {X : Cx} {CX : CXT} {k : Nat} {C : Addr} {qual : Str} {st : Stmt} {ps : List Str} {sp : Sp} {E : XK} (c : Cm X.prog X.w X.K X.mg X.base CX k C "__repr__" qual st ps sp) (b : Bd "__repr__" qual st ps) (hr : Room (k + 1) X.A) (hx : Passes CX X E) :
    CallR X (.builtin "repr") (rReprO C sp E) := by
  obtain ⟨f, fd, F, M, hc, G⟩ := c.ex
  exact call_reprO G M.1 M.2 (F.bindsN b) hx hr
theorem ln (xs : List V) (h : Nat.ble xs.length 1000 = true := by rfl) : xs.length ≤ sizeLine := Nat.le_trans (Nat.le_of_ble_eq_true h) (by decide)
end MM
namespace MM
open PySem PySem.Spec PyProof.Rows L2
section
variable {J : It} {n : Nat} {G : Hp → Prop} {Y : Nat → Hp → V → Hp → Prop}
/-- a comprehension with a test, whose i-th thing is f i, and there where B i -/
theorem lc_fltV (w : Walk J n G Y) (hY : ∀ i H x H', Y i H x H' → Same H H') {g : TG} {tt : TT} {te : TE} {vs : List Nat} {σ : L2.St} {H : Hp} {D : Addr} {Qd : Hp → Prop} (nD : H D = none) (hn : n < sizeLine) (f : Nat → V) (B : Nat → Bool) (hG : ∀ H', Same H H' → G H')
    (hs : ∀ i x H1 H2 (R : V → Hp → Prop) (N : Hp → Prop), i < n → Same H H1 → Y i H1 x H2 → (B i = true → ∀ H3, Same H2 H3 → R (f i) H3) → (B i = false → ∀ H3, Same H2 H3 → N H3) → g x (wipe σ vs) H2 fun σ2 H3 => wipe σ2 vs = wipe σ vs ∧ tt σ2 H3 fun b H4 => if b = true then te σ2 H4 R else N H4)
    (hd : ∀ H', H' D = some (.lst (((List.range n).filter B).map f)) → Same H H' → Qd H') :
    ∃ W : Nat → Nat → Hp → Prop, (∃ m, W 0 m (L2.upd H D (.lst []))) ∧ ∀ i m H, W i m H →
      (J.stop i H ∧ Qd H) ∨ (J.go i H ∧ ∃ Nx : Hp → Prop, (∀ H', Nx H' → ∃ m', m' < m ∧ W (i + 1) m' H') ∧ ∀ x H', J.yld i H x H' → g x (wipe σ vs) H' fun σ2 H2 => wipe σ2 vs = wipe σ vs ∧ tt σ2 H2 fun b H3 =>
        if b = true then te σ2 H3 fun y H4 => ∃ acc, H4 D = some (.lst acc) ∧ acc.length < sizeLine ∧ Nx (L2.upd H4 D (.lst (acc ++ [y]))) else Nx H3) := by
  refine lc_it w (fun i H' => H' D = some (.lst (((List.range i).filter B).map f)) ∧ Same H H') ⟨upd_same, upd_keep nD (Same.refl H)⟩ (fun i H' _ ⟨_, s⟩ => hG H' s) ?_ (fun H' ⟨e, s⟩ => hd H' e s)
  rintro i x H1 H2 hi ⟨e, s⟩ y
  have s2 := hY _ _ _ _ y
  have el : (((List.range i).filter B).map f).length < sizeLine := by
    rw [List.length_map]
    have := List.length_filter_le B (List.range i)
    rw [List.length_range] at this
    omega
  refine hs i x H1 H2 _ _ hi s y (fun hB H3 s3 => ?_) (fun hB H3 s3 => ?_)
  · refine ⟨_, s3 _ _ (s2 _ _ e), el, ?_, upd_keep nD (s.trans (s2.trans s3))⟩
    rw [upd_same, List.range_succ, List.filter_append, List.map_append]
    simp [hB]
  · refine ⟨?_, s.trans (s2.trans s3)⟩
    rw [s3 _ _ (s2 _ _ e), List.range_succ, List.filter_append]
    simp [hB]
end
/-! ### sorted of pairs of a whole number and a truth -/
section
open SrtO Srt
variable {prog : Program} {w : World} {A : Around} {E : Value → Shared → Prop} {s : Shared}
/-- at v a pair of a whole number and a truth -/
def PrB (h : Heap) (v : Value) (x : Int) (b : Bool) : Prop := ∃ a o t n, v = .ref a ∧ h.get? a = some o ∧ o.cls = .type "tuple" ∧ o.data = .seq #[.int x t, .bool b] n
theorem PrB.keeps {h h' : Heap} {v : Value} {x : Int} {b : Bool} (p : PrB h v x b) (k : ∀ c o, h.get? c = some o → o.cls = .type "tuple" → h'.get? c = some o) : PrB h' v x b := by
  obtain ⟨a, o, t, n, rfl, e, c, d⟩ := p
  exact ⟨a, o, t, n, rfl, k a o e c, c, d⟩
theorem prb_firsts {h : Heap} : ∀ {vs : List Value}, (∀ v ∈ vs, ∃ x b, PrB h v x b) → ∃ fs : List Value, PySem.W.KatTups h vs fs ∧ fs.length = vs.length ∧ ∀ f ∈ fs, ∃ x t, f = Value.int x t
  | [], _ => ⟨[], .nil, rfl, fun _ z => absurd z List.not_mem_nil⟩
  | v :: vs, hp => by
    obtain ⟨fs, k, l, i⟩ := prb_firsts (vs := vs) fun u hu => hp u (List.mem_cons_of_mem _ hu)
    obtain ⟨x, b, a, o, t, n, rfl, ho, hc, hd⟩ := hp v List.mem_cons_self
    refine ⟨.int x t :: fs, .cons ho hc hd rfl k, congrArg Nat.succ l, fun f hf => ?_⟩
    rcases List.mem_cons.mp hf with rfl | hf
    · exact ⟨x, t, rfl⟩
    · exact i f hf
/-- the pair's key -/
def kB (p : Int × Bool) : Int × Int := (p.1, b2i p.2)
theorem prb_cmp {vs : List Value} {k : Value → Int × Bool} (hp : ∀ v ∈ vs, PrB s.heap v (k v).1 (k v).2) : Cmp prog w A s (tuples' true) (fun p => p.1 ∈ vs) (lt2 fun v u => lexB (kB (k v)) (kB (k u))) := by
  intro p q m1 m2
  obtain ⟨a, o, t, n, e, ho, hc, hd⟩ := hp _ m1
  obtain ⟨a', o', t', n', e', ho', hc', hd'⟩ := hp _ m2
  show wpAny (model prog w) A (keyLt' (tuples' true) p.1 q.1) (fun r s' => s' = s ∧ r = lexB (kB (k p.1)) (kB (k q.1))) (fun _ _ => False) s
  generalize (k p.1) = z at *
  generalize (k q.1) = z' at *
  obtain ⟨x, b⟩ := z
  obtain ⟨x', b'⟩ := z'
  rw [e, e']
  refine PySem.W.kat_lt ho hd ho' hd' (PySem.W.kat_cons (SeqAt.EqAt.int_int x t x' t' prog w _ _ (PySem.W.kat_go (fun e1 => ?_) (fun e1 => ?_))))
  · have ex : x = x' := by simpa using e1
    refine PySem.W.kat_yes (PySem.W.kat_cons (SeqAt.EqAt.bool_bool b b' prog w _ _ (PySem.W.kat_go (fun e2 => ?_) (fun e2 => ?_))))
    · have ey : b = b' := by simpa using e2
      refine PySem.W.kat_yes (PySem.W.kat_nil ⟨rfl, ?_⟩)
      show decide (2 < 2) = lexB (x, b2i b) (x', b2i b')
      rw [ex, ey]
      unfold lexB
      rw [if_pos rfl, decide_eq_false (Int.lt_irrefl _)]
      rfl
    · refine PySem.W.kat_no (PySem.W.kat_one _ _ (PyProof.Rows.lt_bool ?_))
      refine (show s = s ∧ decide (b2i b < b2i b') = lexB (x, b2i b) (x', b2i b') from ⟨rfl, ?_⟩)
      unfold lexB
      rw [if_pos ex]
  · have ex : ¬ x = x' := by simpa using e1
    refine PySem.W.kat_no (oneLt_int ⟨rfl, ?_⟩)
    show _ = lexB (x, b2i b) (x', b2i b')
    unfold lexB
    rw [if_neg ex]
theorem prb_sorted {l : Addr} {vs : List Value} {k : Value → Int × Bool} {Q : Value → Shared → Prop} (hl : s.heap.IsList l vs.toArray) (hz : vs.length ≤ sizeLine) (hp : ∀ v ∈ vs, PrB s.heap v (k v).1 (k v).2)
    (hs : Srtd (fun v u => lexB (kB (k v)) (kB (k u))) vs)
    (h : ∀ (h' : Heap) (d : Addr), (∀ b o, s.heap.get? b = some o → h'.get? b = some o) → s.heap.objs.size ≤ d → (∃ n, h'.get? d = some (seqObj "list" vs.toArray n)) → Q (.ref d) { s with heap := h' }) :
    wpAny (model prog w) A (call (.builtin "sorted") [.ref l]) Q E s := by
  have O : Swo fun v u => lexB (kB (k v)) (kB (k u)) := swo_lex fun v => kB (k v)
  refine sorted_ord O hl hz (fun h2 h₁ a ha kk => ?_) fun out so sb => ?_
  · intro h' keep
    have nt : ∀ o, h₁.get? a = some o → o.cls ≠ .type "tuple" := fun o e c => by
      rw [ha] at e
      cases e
      exact absurd (Value.type.inj c) (by decide)
    have hp' : ∀ v ∈ vs, PrB h' v (k v).1 (k v).2 := fun v hm => (hp v hm).keeps fun b o e c => keep b o (fun z => nt o (by rw [← z]; exact (kk b o e).2) c) (kk b o e).2
    obtain ⟨fs, f1, f2, f3⟩ := prb_firsts fun v hm => ⟨_, _, hp' v hm⟩
    refine ⟨tuples' true, fun Q E hq => ?_, prb_cmp hp'⟩
    refine PySem.W.kat_kind (T := .type "int") f1 (by omega) (fun f hm => ?_) (by rfl) ?_
    · obtain ⟨x, t, rfl⟩ := f3 f hm
      exact PySem.W.Looks.now
    · have e : (Value.type "int" != Value.type "tuple") = true := by first | rfl | decide +kernel
      rw [e]
      exact hq
  · obtain rfl : out = vs := stb_uniq O so hs sb
    exact h _ _ (fun b o e => sortedAll_old e) (Nat.le_succ _) (sortedAll_at s.heap out out.toArray)
end
/-- sorted(xs) of pairs that stand sorted already -/
def rSortedIB (K : PySem.W.Frag) : List V → Hp → VK → Prop := fun vs H Q => ∃ (a : Addr) (xs : List V) (k : V → Int × Bool), vs = [V.ref a] ∧ SqL K H a xs ∧ (∀ x ∈ xs, ∃ t, x = V.ref t ∧ H t = some (.tup [.int (k x).1, .bl (k x).2])) ∧
  xs.Pairwise (fun x y => SrtO.lexB (kB (k y)) (kB (k x)) = false) ∧ ∀ p, H p = none → Q (.ref p) (upd H p (.lst xs))
theorem cr_sortedIB {X : Cx} : CallR X (.builtin "sorted") (rSortedIB X.K) := by
  intro pins s σ H vs us Q I r h
  obtain ⟨a, xs, k, rfl, hs, hx, hp, q⟩ := h
  obtain ⟨its, rv, hl, hz⟩ := I.list hs
  obtain ⟨u, rfl, ru⟩ := vals1 r
  obtain rfl : u = Value.ref a := ru
  obtain ⟨e1, e2⟩ := refs_back rv fun x m => by
    obtain ⟨t, e, _⟩ := hx x m
    exact ⟨t, e⟩
  refine prb_sorted (k := fun u => k (backV u)) hl.isList (by rw [← rv.length]; exact hz) (fun v hv => ?_) ?_ fun h' d kp hd hn => ?_
  · obtain ⟨t, rfl⟩ := e2 v hv
    have hm : V.ref t ∈ xs := by rw [e1]; exact List.mem_map.mpr ⟨_, hv, rfl⟩
    obtain ⟨t', e, ht⟩ := hx _ hm
    cases e
    obtain ⟨_, its2, r2, o, ho, hc, n, hd⟩ := I.hok _ _ ht
    obtain ⟨u1, u2, rfl, ri, rj⟩ := vals2 r2
    obtain ⟨t1, rfl⟩ := ri
    cases (show u2 = Value.bool _ from rj)
    exact ⟨t, o, t1, n, rfl, ho, hc, hd⟩
  · rw [e1, List.pairwise_map] at hp
    exact hp
  · obtain ⟨n, hn⟩ := hn
    exact ⟨.ref d, upd H d (.lst xs), I.laid (t' := s.toks) kp hd ⟨hz, its, n, rv, hn⟩, rfl, q d (I.hok.fresh hd)⟩
end MM
namespace MM
open PySem PySem.Spec PySem.Calls PyProof.Rows L2
/-! ### len(x) of an instance with its own __len__ -/
section
variable {prog : Program} {w : World} {A : Around} {E : Value → Shared → Prop} {s : Shared} {K : PySem.W.Frag} {x C f : Addr} {ox : Obj} {od : Option Obj}
open PySem.Builtin in
theorem len_fn {Q : Value → Shared → Prop} (X : K.In s.heap) (I : PySem.W.InstAt s.heap x ox C od) (hs : PySem.W.findIn K (.ref C) "__len__" = some (some (.ref f))) (hf : PySem.W.isFn K (.ref f) = true)
    (hcall : wpAny (model prog w) A.in1 (call (.ref f) [.ref x]) (fun r s' => ∃ n u, r = .int n u ∧ 0 ≤ n ∧ n < 2 ^ 63 ∧ Q (.int n s'.toks) { s' with toks := s'.toks + 1 }) E s) :
    wpAny (model prog w) A (call (.builtin "len") [.ref x]) Q E s := by
  refine PySem.Calls.call_function_entry kind_len plain_len entry_len (args_len1 _) ?_
  unfold Builtin.«len»
  refine wpAny_bind (m := oneArg "len" _) (wpAny_pure ?_)
  refine wpAny_bind (m := callSpecial? (.ref x) (Str.ofString "__len__")) (PySem.W.special_fn X I hs (beq_iff_eq.mp hf) (wpAny_mono hcall (fun r s' hr => ?_) fun _ _ y => y))
  obtain ⟨n, u, rfl, h0, h1, hq⟩ := hr
  refine wpAny_bind (wpAny_holding (wpAny_pure ?_))
  refine wpAny_bind (wpAny_letGo ?_)
  show wpAny _ _ (if n < 0 then _ else _) _ _ _
  rw [if_neg (by omega)]
  show wpAny _ _ (if n ≥ 2 ^ 63 then _ else _) _ _ _
  rw [if_neg (by omega)]
  exact wpAny_bind (wpAny_mkInt (wpAny_pure ⟨_, rfl, hq⟩))
end
def rLenO (C : Addr) (sp : Sp) (E : XK) : List V → Hp → VK → Prop := fun xs H Q => ∃ (a dx : Addr) (fs : List (Str × V)), xs = [.ref a] ∧ H a = some (.ins C dx fs) ∧ sp [.ref a] H (fun v H' => ∃ n : Nat, v = .int n ∧ n < 2 ^ 60 ∧ Q (.int n) H') E
theorem call_lenO {X : Cx} {CX : CXT} {k : Nat} {C f : Addr} {fd : FuncData} {ps : List Str} {sp : Sp} {E : XK} (F : FnOk X.prog X.w X.K X.mg X.base CX k f fd ps sp) (hs : PySem.W.findIn X.K (.ref C) "__len__" = some (some (.ref f))) (hf : PySem.W.isFn X.K (.ref f) = true) (hb : Binds X.K fd ps []) (hx : Passes CX X E) (hr : Room (k + 1) X.A) : CallR X (.builtin "len") (rLenO C sp E) := by
  intro pins s σ H xs us Q I r h
  obtain ⟨a, dx, fs, rfl, ha, hq⟩ := h
  obtain ⟨u, rfl, r1⟩ := vals1 r
  cases (show u = Value.ref a from r1)
  obtain ⟨mA, J, _⟩ := ins_get I.hok ha
  obtain ⟨od, J, _⟩ := J.look
  have hr1 : Room k X.A.in1 := hr.in1
  have hl : ([Value.ref a] ++ []).length = ps.length := (show ([V.ref a] : List V).length = _ from F.len _ _ _ _ hq)
  refine len_fn I.kIn J hs hf (wpAny_call (codeAny_mono (F.run X.A.in1 X.stack s H ⟨[.ref a], []⟩ [.ref a] [.ref a] _ E hr1 I.env0.in1 (hb s [.ref a] I.kIn hl) (.cons rfl .nil) hq) fun res s' hres => ?_))
  match res, hres with
  | .error er, hres => exact hx pins σ H s er s' I hres
  | .ok .next, hres => exact hres.elim
  | .ok .brk, hres => exact hres.elim
  | .ok .cont, hres => exact hres.elim
  | .ok (.ret u), hres =>
    obtain ⟨z, H', I', rz, n, rfl, hn, q⟩ := I.after hres
    obtain ⟨t, rfl⟩ := rz
    refine ⟨(n : Int), t, rfl, by omega, by omega, .int n, H', I'.tok _, ⟨_, rfl⟩, q⟩
theorem call_lenC {X : Cx} {CX : CXT} {k : Nat} {C : Addr} {qual : Str} {st : Stmt} {ps : List Str} {sp : Sp} {E : XK} (c : Cm X.prog X.w X.K X.mg X.base CX k C "__len__" qual st ps sp) (b : Bd "__len__" qual st ps) (hr : Room (k + 1) X.A) (hx : Passes CX X E) :
    CallR X (.builtin "len") (rLenO C sp E) := by
  obtain ⟨f, fd, F, M, hc, G⟩ := c.ex
  exact call_lenO G M.1 M.2 (F.bindsN b) hx hr
/-! ### classes whose __init__ has no defaults -/
theorem di_mk0 {K : PySem.W.Frag} {mg : Str → Option Value} {x qual : Str} {st : Stmt} {f C : Addr} {oc kV doc pm cdv ct : Value} {od an : Option Addr} {osl : Array (Option Value)} (hC : mg x = some (.ref C)) (a : PySem.W.findIn K (.ref C) "__init__" = some (some (.ref f))) (i : PySem.W.isFn K (.ref f) = true)
    (l : K.lookup f = some ⟨oc, od, .func (PySem.W.fnOf "__init__" qual (defArgs st) (defBody st) (defScope st) .none kV doc pm an cdv ct), osl⟩) (c : PySem.W.codeIn K cdv qual = true) (k : PySem.W.keepIn K (.ref f) = true)
    (mk : PySem.W.makesIn K C = true) (kc : PySem.W.keepIn K (.ref C) = true) : Di K mg x C qual st [] :=
  ⟨f, _, ⟨⟨oc, od, .none, kV, doc, pm, an, cdv, ct, osl, rfl, l, c, .inl ⟨rfl, rfl⟩, .inl rfl⟩, k⟩, ⟨mk, a, i, kc⟩, hC⟩
section
variable {X : Cx} {CX : CXT} {k j n d : Nat} {C : Addr} {x m qual : Str} {st : Stmt} {sp : Sp} {ps ks : List Str} {E : XK} {p pos apos : Pos} {e o : Expr} {es : List Expr} {kws : List Keyword} {ta : TE} {t tk : TA}
/-- C(e, ..), all by place -/
theorem pe_ciN (c : Ci X.prog X.w X.K X.mg X.base CX k x C qual st [] ps sp) (b : Bd "__init__" qual st ps) (hr : Room j X.A) (hk : k + 1 ≤ j) (hx : Passes CX X E) (hg : Gl X x) (ha : PA X (e :: es) t)
    (hdb : (x == ("__debug__" : Str)) = false := by decide) (he : starEach (e :: es) X.env = (false, eval e X.env) :: starEach es X.env := by rfl) (hpl : (backTo pos (starEach es X.env)).any (·.1) = false := by rfl) :
    PE X (.Call (.Name x p) (e :: es) [] pos) (tMake C sp [] E t) := by
  obtain ⟨f, fd, F, M, hm, G⟩ := c.ex
  exact pe_make M G (hr.mono hk) hg hm (F.bindsN b) .nil hx ha hdb he hpl
/-- o.m() -/
theorem pe_cm0 {pl : Sem Bool} (c : Cm X.prog X.w X.K X.mg X.base CX k C m qual st ps sp) (b : Bd m qual st ps) (hr : Room j X.A) (hk : k ≤ j) (hx : Passes CX X E) (he : PE X o ta)
    (ht : eval (.Call (.Attribute o m apos) [] [] pos) X.env = (do
      let ov ← eval o X.env
      standAt apos.atName
      let (f, first) ← holding [ov] (getMethod ov m pl)
      callWith pos f first (backTo pos (starEach [] X.env)) (backToKw pos (keywordEach [] X.env))) := by rfl) :
    PE X (.Call (.Attribute o m apos) [] [] pos) (tMeth C m sp [] E ta tNil) := by
  obtain ⟨f, fd, F, M, hc, G⟩ := c.ex
  exact pe_meth0 (pl := pl) he hc M G (hr.mono hk) (F.bindsN b) .nil hx ht
/-- C(k = v, ..), all by keywords -/
theorem pe_ciNK {g : {α : Type} → List α → List α → List α} (c : Ci X.prog X.w X.K X.mg X.base CX k x C qual st [] ps sp) (b : Kbm "__init__" qual st 1 ks ps g) (hrel : ∀ {vs : List V} {us : List Value} {zs : List V} {ws : List Value}, Vals vs us → Vals zs ws → Vals (g vs zs) (g us ws)) (hr : Room j X.A) (hk : k + 1 ≤ j) (hx : Passes CX X E) (hg : Gl X x) (hkw : PK X kws tk)
    (hall : (backToKw pos (keywordEach kws X.env)).all (·.1.isSome) = true := by rfl) (hks : (backToKw pos (keywordEach kws X.env)).filterMap (·.1) = ks := by rfl) (hdb : (x == ("__debug__" : Str)) = false := by decide)
    (hpl : ((backTo pos (starEach [] X.env)).any (·.1) || (backToKw pos (keywordEach kws X.env)).any (·.1.isNone)) = false := by rfl) :
    PE X (.Call (.Name x p) [] kws pos) (tMakeK C 0 ks.length sp g E tNil tk) := by
  obtain ⟨f, fd, F, M, hm, G⟩ := c.ex
  obtain ⟨kV, doc, pm, an, cdv, ct, rfl⟩ := FunD.none F
  exact pe_makeK0 (g := g) (gV := g) M G (hr.mono hk) hg hm ⟨fun s us ws _ l1 l2 => .of_eq (b.bind kV doc pm an cdv ct us ws l1 l2), hrel⟩ hx hkw hall hks hdb hpl
end
end MM
/-! a text times a small number -/
namespace MM
open PySem PySem.Spec PyProof.Rows L2
def rpS (z : Str) (n : Nat) : Str := ⟨(List.replicate n z.cps).foldl (· ++ ·) #[]⟩
theorem rp_zero (z : Str) : rpS z 0 = Str.empty := rfl
theorem rp_one (z : Str) : rpS z 1 = z := by
  show (⟨#[] ++ z.cps⟩ : Str) = z
  rw [Array.empty_append]
theorem rp_nil {z : Str} (h : z.length = 0) (n : Nat) : rpS z n = z := by
  have e : z.cps = #[] := Array.size_eq_zero_iff.mp h
  have key : ∀ n : Nat, (List.replicate n (#[] : Array Nat)).foldl (· ++ ·) #[] = #[] := fun n => by
    induction n with
    | zero => rfl
    | succ n ih => rw [List.replicate_succ, List.foldl_cons, Array.append_empty, ih]
  unfold rpS
  cases z with
  | mk c =>
    cases (show c = #[] from e)
    rw [key]
theorem rp_len (z : Str) (n : Nat) : (rpS z n).length = n * z.length := by
  have key : ∀ (n : Nat) (a : Array Nat), ((List.replicate n z.cps).foldl (· ++ ·) a).size = a.size + n * z.cps.size := fun n => by
    induction n with
    | zero => intro a; simp
    | succ n ih =>
      intro a
      rw [List.replicate_succ, List.foldl_cons, ih, Array.size_append, Nat.succ_mul]
      omega
  show ((List.replicate n z.cps).foldl (· ++ ·) #[]).size = n * z.cps.size
  rw [key]
  simp
theorem op_mulR {X : Cx} : OpR X (binaryOp .Mult) (fun x y H Q => ∃ (z : Str) (n : Nat), x = .str z ∧ y = .int (n : Int) ∧ n ≤ 1000 ∧ z.length ≤ 1000 ∧ Q (.str (rpS z n)) H) := by
  intro pins s σ H x y v u Q I rx ry h
  obtain ⟨z, n, rfl, rfl, hn, hz, q⟩ := h
  obtain ⟨t, rfl⟩ := rx
  obtain ⟨t', rfl⟩ := ry
  have p1 : z.length * n ≤ 1000 * 1000 := Nat.mul_le_mul hz hn
  refine P.mul_str (by rw [decide_eq_false (by omega), decide_eq_false (by omega)]; rfl) (fun h1 _ => ?_) (fun _ _ => ?_) ?_
  · have h2 : (z.length : Int) ≤ (2 ^ 63 - 1) / (n : Int) := Int.le_ediv_of_mul_le (by omega) (by
      have : ((z.length * n : Nat) : Int) ≤ ((1000 * 1000 : Nat) : Int) := by exact_mod_cast p1
      rw [Int.natCast_mul] at this
      omega)
    omega
  · rw [Int.toNat_natCast]
    show decide (z.length * n > sizeLine) = false
    exact decide_eq_false (by rw [sizeLine_eq]; omega)
  · by_cases h0 : (n : Int) < 1
    · rw [if_pos h0]
      have e : n = 0 := by omega
      subst e
      exact ⟨by decide, ⟨.str Str.empty, H, I.tok _, ⟨_, rfl⟩, q⟩⟩
    · rw [if_neg h0]
      by_cases h1 : ((n : Int) == 1 || z.length == 0) = true
      · rw [if_pos h1]
        have e : rpS z n = z := by
          rcases Bool.or_eq_true _ _ ▸ h1 with h2 | h2
          · have e1 : n = 1 := by have := beq_iff_eq.mp h2; omega
            rw [e1, rp_one]
          · exact rp_nil (beq_iff_eq.mp h2) n
        rw [e] at q
        exact ⟨.str z, H, I, ⟨_, rfl⟩, q⟩
      · rw [if_neg h1]
        rw [Int.toNat_natCast]
        refine ⟨?_, ⟨.str (rpS z n), H, I.tok _, ⟨_, rfl⟩, q⟩⟩
        show (rpS z n).length ≤ sizeLine
        rw [rp_len, sizeLine_eq]
        rw [Nat.mul_comm] at p1
        omega
end MM
namespace MM
open PySem L2
open PySem.Spec PyProof.Rows
/-! ### x < y of data; min(xs, key=f) -/
section
variable {X : Cx}
def rLtD (K : PySem.W.Frag) : R2 := fun x y H Q => ∃ d e, Dp K H x d ∧ Dp K H y e ∧ PySem.W.alike d e = true ∧ d ≠ .none ∧ d.depth ≤ 60 ∧ Q (.bl (PySem.W.dataLt d e)) H
theorem op_ltD (hu : X.A.units + 64 < cLine) : OpR X (compareOp .Lt) (rLtD X.K) := by
  intro pins s σ H x y v u Q I rx ry h
  obtain ⟨d, e, hd, he, al, nn, dp, q⟩ := h
  obtain ⟨as, r1⟩ := Dp.reads I d x v hd rx
  obtain ⟨bs, r2⟩ := Dp.reads I e y u he ry
  exact PySem.W.lt_data r1 r2 al nn (by have := Nat.min_le_left d.depth e.depth; omega) ⟨.bl _, H, I, rfl, q⟩
end
/-- whole numbers and truths, as data -/
def pD : V → PyData
  | .int i => .int i
  | .bl b => .bool b
  | _ => .none
def Pl (v : V) : Prop := (∃ i, v = .int i) ∨ ∃ b, v = .bl b
theorem relV_inj {k x : V} {u : Value} (p : Pl k) (h : L2.RelV k u) (h' : L2.RelV x u) : x = k := by
  rcases p with ⟨i, rfl⟩ | ⟨b, rfl⟩
  · obtain ⟨t, rfl⟩ := h
    cases x <;> simp [L2.RelV] at h'
    rw [h']
  · obtain rfl : u = Value.bool b := h
    cases x <;> simp [L2.RelV] at h'
    rw [h']
theorem pl_inj : ∀ {ks xs : List V} {its : List Value}, (∀ v ∈ ks, Pl v) → Vals ks its → Vals xs its → xs = ks
  | _, _, _, _, .nil, .nil => rfl
  | _, _, _, hp, .cons r t, .cons r' t' => by
    rw [relV_inj (hp _ List.mem_cons_self) r r', pl_inj (fun v hv => hp v (List.mem_cons_of_mem _ hv)) t t']
theorem pl_reads {h : Heap} : ∀ {ks : List V} {its : List Value}, (∀ v ∈ ks, Pl v) → Vals ks its → ∃ as, ReadsAll h its (ks.map pD) as
  | _, _, _, .nil => ⟨_, .nil⟩
  | k :: ks, u :: us, hp, .cons r t => by
    obtain ⟨as, q⟩ := pl_reads (h := h) (fun v hv => hp v (List.mem_cons_of_mem _ hv)) t
    have q1 : ∃ bs, Reads h u (pD k) bs := by
      rcases hp k List.mem_cons_self with ⟨i, rfl⟩ | ⟨b, rfl⟩
      · obtain ⟨t, rfl⟩ := r
        exact ⟨_, .int i t⟩
      · obtain rfl : u = Value.bool b := r
        exact ⟨_, .bool b⟩
    obtain ⟨bs, q1⟩ := q1
    exact ⟨_, .cons q1 q⟩
theorem isTup_inj {h : Heap} {c : Addr} {xs ys : List Value} (a : IsTup h c xs.toArray) (b : IsTup h c ys.toArray) : xs = ys := by
  obtain ⟨o, g, _, n, d⟩ := a
  obtain ⟨o', g', _, n', d'⟩ := b
  rw [g] at g'
  cases g'
  rw [d] at d'
  cases d'
  rfl
section
variable {X : Cx} {pins : List (Addr × Obj)} {σ : L2.St} {H : Hp} {s : Shared} {h' : Heap}
theorem inv_turnedL {t' : Nat} {it : List Addr} (I : Inv X pins σ H s) (k : ∀ b o, b ∉ it → s.heap.get? b = some o → h'.get? b = some o) (hf : ∀ b ∈ it, FpOk X pins H b) : Inv X pins σ H { s with heap := h', toks := t' } := by
  have nit : ∀ b u, H b = some u → b ∉ it := fun b u e z => by
    rw [(hf b z).1] at e
    cases e
  refine I.step (g' := s.gens) (d' := s.drawn) (ch := it) (fun b hb => ?_) (fun b o _ _ hc e _ => k b o hc e) (fun b o _ _ hc e _ => ⟨o.slots, k b o hc e⟩) (fun _ _ _ _ n => n)
    (fun b o hc e => ⟨o, k b o hc e⟩) (fun _ _ e => e) (fun _ _ _ e => e) (fun b ps e => ⟨#[], by rw [e]; simp⟩) (fun m hm => ?_) (fun b u e => ?_) I.bare
  · obtain ⟨_, f1, _, f3, f4, f5⟩ := hf b hb
    exact ⟨f3, f1, f4, f5⟩
  · obtain ⟨o, es, ep, ho, r⟩ := hm
    exact ⟨o, es, ep, k _ o (fun z => (hf _ z).2.1 rfl) ho, r⟩
  · refine (I.hok b u e).stay (fun c v hc q => k c v ?_ q) (fun _ q => q) fun _ _ q => q
    rcases hc with z | z
    · rw [z]; exact nit b u e
    · exact nit c _ z
/-- min(xs, key=f): the first item whose answer is the least -/
theorem call_minK {f : Addr} {fd : FuncData} {ps : List Str} {sp : Sp} {E : XK} {k : Nat} (F : FnOk X.prog X.w X.K X.mg X.base CX0 k f fd ps sp) (hb : Binds X.K fd ps []) (hr : Room (k + 1) X.A)
    {l : Addr} {xs : List V} {Q : VK} (I : L2.Inv X pins σ H s) (hl : H l = some (.lst xs)) (n0 : 0 < xs.length) (ks : Nat → List V) (bt : Nat → Nat → Bool) (hp : ∀ i, i < xs.length → ∀ v ∈ ks i, Pl v)
    (al : ∀ i j, i < xs.length → j < xs.length → PySem.W.alike (.tuple ((ks i).map pD)) (.tuple ((ks j).map pD)) = true ∧ (PyData.tuple ((ks i).map pD)).depth ≤ 60 ∧ PySem.W.dataLt (.tuple ((ks i).map pD)) (.tuple ((ks j).map pD)) = bt i j)
    (turn : ∀ i x H', xs[i]? = some x → (∀ b o, b ≠ l → H b = some o → H' b = some o) → sp [x] H' (fun v H2 => ∃ r, v = .ref r ∧ H' r = none ∧ H2 = L2.upd H' r (.tup (ks i))) E)
    (fin : ∀ x H', xs[argBest bt (xs.length - 1)]? = some x → (∀ b o, H b = some o → H' b = some o) → Q x H') :
    wpAny (model X.prog X.w) X.A (call (.builtin "min") [.ref l] [(Str.ofString "key", .ref f)]) (EP X pins σ Q) X.xe s := by
  obtain ⟨_, its, nn, rv, gl⟩ := I.hok l _ hl
  obtain ⟨od, I1⟩ := I.lock hl True.intro
  have hnf := I.nofrz hl True.intro
  have hl1 : (L2.upd H l (.frz od (.lst xs))) l = some (.frz od (.lst xs)) := upd_same
  have god : s.heap.get? l = some od := (I1.hok l _ hl1).1
  have eod : od = { cls := .type "list", data := .seq its.toArray nn } := by
    rw [gl] at god
    exact (Option.some.inj god).symm
  have hk1 : ∀ b o, b ≠ l → H b = some o → L2.upd H l (.frz od (.lst xs)) b = some o := fun b o hb e => by
    rw [upd_ne hb]
    exact e
  generalize hH1 : L2.upd H l (.frz od (.lst xs)) = H1 at *
  have hlist : s.heap.IsList l its.toArray := ⟨od, god, by rw [eod], nn, by rw [eod]⟩
  have ls : l < s.heap.objs.size := Heap.lt_size gl
  have hlen : its.toArray.size = xs.length := by
    rw [List.size_toArray]
    exact rv.length.symm
  have nh : X.A.in1.handled = none := hr.hd
  have hr1 : Room k X.A.in1 := hr.in1
  refine call_min_walkK (wpAny_pyIter_list hlist ?_)
  have e2 : (s.heap.push { cls := .type "list_iterator", data := .fields #[.ref l, .int 0 0] }).objs.size = s.heap.objs.size + 1 := Heap.size_push ..
  have kp0 : ∀ b o, s.heap.get? b = some o → (s.heap.push { cls := .type "list_iterator", data := .fields #[.ref l, .int 0 0] }).get? b = some o := fun b o e => Heap.get?_push_of_some _ e
  have I2 : L2.Inv X pins σ H1 { s with heap := s.heap.push { cls := .type "list_iterator", data := .fields #[.ref l, .int 0 0] }, toks := s.toks } := I1.kept (t' := s.toks) kp0
  have nlI : l ≠ s.heap.objs.size := Nat.ne_of_lt ls
  have frI : H1 s.heap.objs.size = none := I1.hok.fresh (Nat.le_refl _)
  have frS : H1 (s.heap.objs.size + 1) = none := I1.hok.fresh (Nat.le_succ _)
  have fpk : ∀ {H' : Hp} {b : Addr}, s.heap.objs.size ≤ b → H' b = none → FpOk X pins H' b := fun hb hn => I1.fpOk hb hn
  have nfr : ∀ {b : Addr}, s.heap.objs.size ≤ b → b ∉ frs X.stack := fun {b} hb z => by
    have f := fpk (H' := fun _ => none) hb rfl
    rcases List.mem_cons.mp (I1.stkSub b z) with e | e
    · exact f.2.1 e
    · exact f.2.2.1 e
  refine ⟨s.heap.objs.size, [s.heap.objs.size, l], [s.heap.objs.size], (fun a b => b = a), its.toArray.size, (fun i v => its.toArray[i]? = some v), (fun i s1 => s1.heap.IsListIter s.heap.objs.size l i ∧ s1.heap.IsList l its.toArray),
    fun s' => ∃ H', L2.Inv X pins σ H' s' ∧ (∀ b o, H1 b = some o → H' b = some o) ∧ (∀ c, H1 c = none → H' c = none ∨ ∃ ys, H' c = some (.tup ys)) ∧ H' s.heap.objs.size = none ∧ H' (s.heap.objs.size + 1) = none,
    fun i kv s' => i < xs.length ∧ ∃ (c : Addr) (us : List Value), kv = .ref c ∧ Vals (ks i) us ∧ IsTup s'.heap c us.toArray ∧ H1 c = none ∧ c ∉ frs X.stack ∧ c ≠ s.heap.objs.size ∧ c ≠ s.heap.objs.size + 1,
    bt, rfl, (Walks.list nh _ l nlI its.toArray).toS, ⟨⟨_, Heap.get?_push_size _ rfl, rfl, rfl⟩, hlist.push _⟩, fun b hb => ?_, by rw [hlen]; exact n0, ?_, ⟨H1, I2, fun _ _ e => e, fun _ e => .inl e, frI, frS⟩, fun v s' hv hJ => ?_⟩
  · rw [e2]
    rcases List.mem_cons.mp hb with rfl | hb
    · exact Nat.lt_succ_self _
    · rw [List.mem_singleton.mp hb]
      exact Nat.lt_succ_of_lt ls
  · rw [e2]
    have fps : ∀ {H' : Hp}, H' s.heap.objs.size = none → H' (s.heap.objs.size + 1) = none → ∀ b ∈ [s.heap.objs.size + 1, s.heap.objs.size], FpOk X pins H' b := fun h1 h2 b hb => by
      rcases List.mem_cons.mp hb with rfl | hb
      · exact fpk (Nat.le_succ _) h2
      · rw [List.mem_singleton.mp hb]
        exact fpk (Nat.le_refl _) h1
    refine ⟨?_, ?_, ?_, ?_⟩
    · rintro s1 s2 ⟨H', I', c1, c2, c3, c4⟩ mv
      obtain ⟨hp2, gg2, dd2, tk2, os2⟩ := s2
      have e1 : gg2 = s1.gens := mv.gens
      have e3 : dd2 = s1.drawn := mv.drawn
      have e4 : os2 = s1.os := mv.os
      subst e1; subst e3; subst e4
      exact ⟨H', inv_turnedL (t' := tk2) I' (fun b o hb e => mv.heap b o hb e) (fps c3 c4), c1, c2, c3, c4⟩
    · rintro i kv s1 s2 ⟨hi, c, us, e, r, ⟨o, g, z⟩, h1, h2, h3, h4⟩ mv
      exact ⟨hi, c, us, e, r, ⟨o, mv.heap c o (by simp only [List.mem_cons, List.not_mem_nil, or_false, not_or]; exact ⟨h4, h3⟩) g, z⟩, h1, h2, h3, h4⟩
    · rintro i v s1 o Q1 E1 hi hv ⟨H', I', c1, c2, c3, c4⟩ ⟨st1, st2⟩ gS hQ
      rw [hlen] at hi
      have hx : xs[i]? = some xs[i] := List.getElem?_eq_getElem hi
      obtain ⟨u, hu, rx⟩ := L2.Vals.get rv hx
      have hv' : its[i]? = some v := by
        rw [← List.getElem?_toArray]
        exact hv
      rw [hu] at hv'
      have evu : u = v := Option.some.inj hv'
      subst evu
      have T := turn i _ H' hx (fun b o hb e => c1 b o (hk1 b o hb e))
      have hl' : ([u] ++ ([] : List Value)).length = ps.length := F.len _ _ _ _ T
      refine wpAny_call (codeAny_mono (F.run X.A.in1 X.stack s1 H' ⟨[u], []⟩ [u] [xs[i]] _ E hr1 I'.env0.in1 (hb s1 [u] I'.kIn hl') (.cons rx .nil) T) fun res s2 hres => ?_)
      match res, hres with
      | .error er, hres => exact hres.elim
      | .ok .next, hres => exact hres.elim
      | .ok .brk, hres => exact hres.elim
      | .ok .cont, hres => exact hres.elim
      | .ok (.ret z0), hres =>
        obtain ⟨vv, H2, os, bare, un, hok, rz, r, rfl, nr, rfl⟩ := hres
        obtain rfl : z0 = Value.ref r := rz
        obtain ⟨hh, gg, dd, tt, os'⟩ := s2
        obtain rfl : os' = s1.os := os
        have I3 := I'.call (h' := hh) (g' := gg) (d' := dd) (t' := tt) (ch := []) un hok bare (fun b z => absurd z (by simp))
        obtain ⟨oI, gI, zI⟩ := st1
        have fI := un.free _ oI gI c3 (by simp)
        have fS := un.free _ o gS c4 (by simp)
        have kI := un.keep _ oI gI c3 (nfr (Nat.le_refl _)) (by simp)
        have kS := un.keep _ o gS c4 (nfr (Nat.le_succ _)) (by simp)
        have er : L2.upd H' r (.tup (ks i)) r = some (.tup (ks i)) := upd_same
        have n1r : H1 r = none := by
          cases hc : H1 r with
          | none => rfl
          | some oo => rw [c1 _ _ hc] at nr; cases nr
        have el' : L2.upd H' r (.tup (ks i)) l = some (.frz od (.lst xs)) := un.frzs _ _ _ (c1 _ _ hl1)
        have gl' : hh.get? l = some od := (hok l _ el').1
        obtain ⟨_, us, rus, tus⟩ := hok r _ er
        refine hQ (.ref r) _ ⟨_, I3, fun b oo e => ?_, fun c hc => ?_, fI, fS⟩ ⟨⟨oI, kI, zI⟩, ⟨od, gl', by rw [eod], nn, by rw [eod]⟩⟩ kS ⟨hi, r, us, rfl, rus, tus, n1r, fun z => ?_, fun z => ?_, fun z => ?_⟩ fun j k' hV => ?_
        · have e1 := c1 b oo e
          rw [upd_ne (ne_of_none e1 nr)]
          exact e1
        · by_cases hcr : c = r
          · exact .inr ⟨_, by rw [hcr]; exact upd_same⟩
          · rw [upd_ne hcr]
            exact c2 c hc
        · have := I3.stkFree r z
          rw [er] at this
          cases this
        · rw [← z, er] at fI
          cases fI
        · rw [← z, er] at fS
          cases fS
        · obtain ⟨hj, c, us', rfl, rus', tus', h1, h2, h3, h4⟩ := hV
          rcases c2 c h1 with hn | ⟨ys, hy⟩
          · obtain ⟨o2, g2, z2⟩ := tus'
            exact ⟨hj, c, us', rfl, rus', ⟨o2, un.keep c o2 g2 hn h2 (by simp), z2⟩, h1, h2, h3, h4⟩
          · obtain ⟨_, w1, rw1, tw1⟩ := I'.hok c _ hy
            have ew := isTup_inj tw1 tus'
            subst ew
            have ey := pl_inj (hp j hj) rus' rw1
            obtain ⟨_, w2, rw2, tw2⟩ := hok c _ (un.tups c ys hy)
            rw [ey] at rw2
            exact ⟨hj, c, w2, rfl, rw2, tw2, h1, h2, h3, h4⟩
    · rintro i j ki kj s1 Q1 E1 _ ⟨hi, c, us, rfl, r, ⟨o, g, cc, n, dd⟩, _⟩ ⟨hj, c', us', rfl, r', ⟨o', g', cc', n', dd'⟩, _⟩ q
      obtain ⟨as, q1⟩ := pl_reads (h := s1.heap) (hp i hi) r
      obtain ⟨bs, q2⟩ := pl_reads (h := s1.heap) (hp j hj) r'
      obtain ⟨a1, a2, a3⟩ := al i j hi hj
      have R1 : Reads s1.heap (.ref c) (.tuple ((ks i).map pD)) as := .tuple g cc dd q1
      have R2 : Reads s1.heap (.ref c') (.tuple ((ks j).map pD)) bs := .tuple g' cc' dd' q2
      refine PySem.W.lt_data R1 R2 a1 (fun z => by cases z) ?_ ?_
      · have h1 := Nat.min_le_left (PyData.tuple ((ks i).map pD)).depth (PyData.tuple ((ks j).map pD)).depth
        have h2 := hr1.un
        omega
      · rw [a3]
        exact q
  · obtain ⟨H', I', hs, _, _, _⟩ := hJ
    rw [hlen] at hv
    have hv' : its[argBest bt (xs.length - 1)]? = some v := by
      rw [← List.getElem?_toArray]
      exact hv
    have hj : argBest bt (xs.length - 1) < xs.length := by
      exact Nat.lt_of_lt_of_eq (List.getElem?_eq_some_iff.mp hv').1 rv.length.symm
    have hx : xs[argBest bt (xs.length - 1)]? = some xs[argBest bt (xs.length - 1)] := List.getElem?_eq_getElem hj
    obtain ⟨u, hu, rx⟩ := L2.Vals.get rv hx
    rw [hv'] at hu
    cases hu
    have e1 : H' l = some (.frz od (.lst xs)) := hs _ _ hl1
    refine ⟨_, _, I'.unlock e1 hnf, rx, fin _ _ hx fun b o e => ?_⟩
    by_cases hb : b = l
    · subst hb
      rw [upd_same, ← hl, e]
    · rw [upd_ne hb]
      exact hs b o (hk1 b o hb e)
/-- a def of the top, as a value -/
theorem pe_gdv {x : Str} {f : Addr} {p : Pos} (hg : Gl X x) (hm : X.mg x = some (.ref f)) (hdb : (x == ("__debug__" : Str)) = false := by decide) : PE X (.Name x p) (fun _ H Q => Q (.ref f) H) := by
  refine ⟨fun pins s σ H Q I h => ?_⟩
  exact ld_glob I hg hm (⟨.ref f, H, I, rfl, h⟩ : EP X pins σ Q _ _) hdb
/-- min(xs, key=f), as it is read -/
def rMinK (sp : Sp) (E : XK) (v : V) (H1 : Hp) (Q : VK) : Prop := ∃ (l : Addr) (xs : List V) (ks : Nat → List V) (bt : Nat → Nat → Bool), v = .ref l ∧ H1 l = some (.lst xs) ∧ 0 < xs.length ∧ (∀ i, i < xs.length → ∀ v ∈ ks i, Pl v) ∧
  (∀ i j, i < xs.length → j < xs.length → PySem.W.alike (.tuple ((ks i).map pD)) (.tuple ((ks j).map pD)) = true ∧ (PyData.tuple ((ks i).map pD)).depth ≤ 60 ∧ PySem.W.dataLt (.tuple ((ks i).map pD)) (.tuple ((ks j).map pD)) = bt i j) ∧
  (∀ i x H', xs[i]? = some x → (∀ b o, b ≠ l → H1 b = some o → H' b = some o) → sp [x] H' (fun v H2 => ∃ r, v = .ref r ∧ H' r = none ∧ H2 = L2.upd H' r (.tup (ks i))) E) ∧
  ∀ x H', xs[argBest bt (xs.length - 1)]? = some x → (∀ b o, H1 b = some o → H' b = some o) → Q x H'
def oneV (C : V → Hp → Prop) : List V → Hp → Prop
  | [v], H => C v H
  | _, _ => False
def tMinK (sp : Sp) (E : XK) (te : TE) : TE := fun σ H Q => te σ H fun v H1 => rMinK sp E v H1 Q
theorem pe_minK {x : Str} {st : Stmt} {ps : List Str} {sp : Sp} {E : XK} {k j : Nat} {p pos : Pos} {e : Expr} {te : TE} {kws : List Keyword} (c : Ca X.prog X.w X.K X.mg X.base CX0 k x st [] ps sp) (b : Bd x x st ps) (hr : Room j X.A) (hk : k + 1 ≤ j)
    (hkw : ∀ f, X.mg x = some (.ref f) → PK X kws (tCons (fun _ H Q => Q (.ref f) H) tNil)) (hg : Gl X "min") (hm : X.mg "min" = none) (ha : PA X [e] (tCons te tNil))
    (he : backTo pos (starEach [e] X.env) = (false, eval e X.env) :: backTo pos (starEach [] X.env) := by rfl) (hpl : (backTo pos (starEach [e] X.env)).any (·.1) = false := by rfl)
    (hall : (backToKw pos (keywordEach kws X.env)).all (·.1.isSome) = true := by rfl) (hnone : (backToKw pos (keywordEach kws X.env)).any (·.1.isNone) = false := by rfl) (hks : (backToKw pos (keywordEach kws X.env)).filterMap (·.1) = [Str.ofString "key"] := by rfl) :
    PE X (.Call (.Name "min" p) [e] kws pos) (tMinK sp E te) := by
  obtain ⟨f, fd, F, hf, G⟩ := c.ex
  refine ⟨fun pins s σ H Q I h => ?_⟩
  refine wpAny_Call_Name_kw (ld_blt (u := .builtin "min") I hg hm (by rfl) ?_ (by decide) (by decide))
  refine PyProof.Rows.callWith_kw (thn (ha.run pos pins s σ H (oneV fun v H1 => rMinK sp E v H1 Q) I h) fun us s1 ⟨vs, H1, I1, r1, q1⟩ => thn ((hkw f hf).run pos pins s1 σ H1 (fun zs H2 => zs = [.ref f] ∧ oneV (fun v H1 => rMinK sp E v H1 Q) vs H2) I1 ⟨rfl, q1⟩) fun ws s2 ⟨zs, H2, I2, r2, hz, q2⟩ => ?_) he hpl hall hnone
  rw [hks]
  subst hz
  match vs, q2, r1 with
  | [v], q2, r1 =>
    obtain ⟨l, xs, ks, bt, rfl, h1, h2, h3, h4, h5, h6⟩ := q2
    obtain rfl := Vals.ref1 r1
    obtain rfl := Vals.ref1 r2
    exact call_minK G (F.bindsN b) (hr.mono hk) I2 h1 h2 ks bt h3 h4 h5 h6
end
end MM
namespace MM
open PySem PySem.Spec PyProof.Rows L2
/-! ### methods with defaults -/
structure DmD (K : PySem.W.Frag) (C : Addr) (m qual : Str) (st : Stmt) (dvs : List V) : Prop where
  ex : ∃ (f : Addr) (fd : FuncData), FunD K m qual (defArgs st) (defBody st) (defScope st) dvs [] f fd ∧ Meth K C m f ∧ Cls K C
structure CmD (P : Program) (w : World) (K : PySem.W.Frag) (mg : Str → Option Value) (base : Heap) (CX : CXT) (k : Nat) (C : Addr) (m qual : Str) (st : Stmt) (dvs : List V) (ps : List Str) (sp : Sp) : Prop where
  ex : ∃ (f : Addr) (fd : FuncData), FunD K m qual (defArgs st) (defBody st) (defScope st) dvs [] f fd ∧ Meth K C m f ∧ Cls K C ∧ FnOk P w K mg base CX k f fd ps sp
section
variable {P : Program} {w : World} {K : PySem.W.Frag} {mg : Str → Option Value} {base : Heap} {x m qual : Str} {C : Addr} {st : Stmt} {dvs : List V} {N ps : List Str} {k : Nat} {sp : Sp}
theorem cmD0 (D : DmD K C m qual st dvs) (S : FnScope N ps (defScope st)) (len : ∀ vs H Q E, sp vs H Q E → vs.length = ps.length)
    (body : ∀ (f : Addr) (cdv : Value) (A : Around) (outer : List Env) (s : Shared) (H : Hp) (vs : List V) (Q : VK) (E : XK), Room k (A.deeper (envOfC qual (defScope st) s.heap.objs.size f cdv)) → sp vs H Q E →
      ∃ t, PSs (cxOf CX0 P w K mg base N qual (defScope st) f cdv A outer s H E).nox (defBody st) t ∧ t { nx := fun _ H' => Q .non H', rt := Q } (start N vs) H) : CmD P w K mg base CX0 (k + 1) C m qual st dvs ps sp := by
  obtain ⟨f, fd, F, M, hc⟩ := D.ex
  refine ⟨f, fd, F, M, hc, F.ok S len fun cdv A outer s H vs Q E hr h => ?_⟩
  obtain ⟨t, h1, h2⟩ := body f cdv A outer s H vs Q E hr h
  exact ⟨t, h1.nox, h2⟩
theorem dmD_mk {f T : Addr} {oc kV doc pm cdv ct : Value} {od an : Option Addr} {osl : Array (Option Value)} {nT : Nat} {its : List Value} (cl : Cls K C) (a : PySem.W.findIn K (.ref C) m = some (some (.ref f))) (i : PySem.W.isFn K (.ref f) = true)
    (l : K.lookup f = some ⟨oc, od, .func (PySem.W.fnOf m qual (defArgs st) (defBody st) (defScope st) (.ref T) kV doc pm an cdv ct), osl⟩) (c : PySem.W.codeIn K cdv qual = true) (k : PySem.W.keepIn K (.ref f) = true) {oT : Obj} (lT : K.lookup T = some oT) (eT : oT.data = .seq its.toArray nT) (r : Vals dvs its) (ne : dvs ≠ []) : DmD K C m qual st dvs :=
  ⟨f, _, ⟨⟨oc, od, .ref T, kV, doc, pm, an, cdv, ct, osl, rfl, l, c, .inr ⟨ne, T, _, its, nT, rfl, lT, eT, r⟩, .inl rfl⟩, k⟩, ⟨a, i, k⟩, cl⟩
end
section
variable {X : Cx} {CX : CXT} {k j n d : Nat} {C : Addr} {m qual : Str} {st : Stmt} {sp : Sp} {ps : List Str} {dvs : List V} {E : XK} {pos apos : Pos} {e o : Expr} {es : List Expr} {ta : TE} {t : TA}
/-- o.m(e, ..): n values with self, then the defaults from the d-th on -/
theorem pe_cmD {pl : Sem Bool} (c : CmD X.prog X.w X.K X.mg X.base CX k C m qual st dvs ps sp) (b : Bd1 m qual st ps n d dvs.length) (hd : dvs ≠ []) (hn : n + (dvs.length - d) = ps.length) (hr : Room j X.A) (hk : k ≤ j) (hx : Passes CX X E) (he : PE X o ta) (ha : PA X (e :: es) t)
    (hst : starEach (e :: es) X.env = (false, eval e X.env) :: starEach es X.env := by rfl) (hpl : (backTo pos (starEach es X.env)).any (·.1) = false := by rfl)
    (ht : eval (.Call (.Attribute o m apos) (e :: es) [] pos) X.env = (eval o X.env >>= fun ov => standAt apos.atName >>= fun _ => holding [ov] (getMethod ov m pl) >>= fun q => callWith pos q.1 q.2 (backTo pos (starEach (e :: es) X.env)) (backToKw pos (keywordEach [] X.env))) := by rfl) :
    PE X (.Call (.Attribute o m apos) (e :: es) [] pos) (tMeth C m sp (dvs.drop d) E ta t) := by
  obtain ⟨f, fd, F, M, hc, G⟩ := c.ex
  obtain ⟨ds, r, bb⟩ := F.binds1 n d hd hn b
  exact pe_meth (pl := pl) he hc M G (hr.mono hk) bb r hx ha hst hpl ht
end
/-! ### comprehensions of two clauses -/
section
variable {J J1 : It} {n n1 : Nat} {G G1 : Hp → Prop} {Y Y1 : Nat → Hp → V → Hp → Prop}
theorem lc2_it (w : Walk J n G Y) {g g1 : TG} {tt tt1 : TT} {te : TE} {wi1 : TI} {vs vs1 : List Nat} {σ : L2.St} {H1 : Hp} {D : Addr} {Qd : Hp → Prop} (Pv : Nat → Hp → Prop) (h0 : Pv 0 (L2.upd H1 D (.lst []))) (hG : ∀ i H, i ≤ n → Pv i H → G H)
    (hs : ∀ i x H H', i < n → Pv i H → Y i H x H' → g x (wipe σ vs) H' fun σ2 H2 => wipe σ2 vs = wipe σ vs ∧ tt σ2 H2 fun b H3 =>
      if b = true then wi1 σ2 H3 fun J1 H4 => ∃ W1 : Nat → Nat → Hp → Prop, (∃ m, W1 0 m H4) ∧ ∀ j k H, W1 j k H →
        (J1.stop j H ∧ Pv (i + 1) H) ∨ (J1.go j H ∧ ∃ Nx1 : Hp → Prop, (∀ H', Nx1 H' → ∃ k', k' < k ∧ W1 (j + 1) k' H') ∧ ∀ x H', J1.yld j H x H' → g1 x (wipe σ2 vs1) H' fun σ3 H5 => wipe σ3 vs1 = wipe σ2 vs1 ∧ tt1 σ3 H5 fun b H6 =>
          if b = true then te σ3 H6 fun y H7 => ∃ acc, H7 D = some (.lst acc) ∧ acc.length < sizeLine ∧ Nx1 (L2.upd H7 D (.lst (acc ++ [y]))) else Nx1 H6)
      else Pv (i + 1) H3) (hd : ∀ H, Pv n H → Qd H) :
    ∃ W : Nat → Nat → Hp → Prop, (∃ m, W 0 m (L2.upd H1 D (.lst []))) ∧ ∀ i m H, W i m H →
      (J.stop i H ∧ Qd H) ∨ (J.go i H ∧ ∃ Nx : Hp → Prop, (∀ H', Nx H' → ∃ m', m' < m ∧ W (i + 1) m' H') ∧ ∀ x H', J.yld i H x H' → g x (wipe σ vs) H' fun σ2 H2 => wipe σ2 vs = wipe σ vs ∧ tt σ2 H2 fun b H3 =>
        if b = true then wi1 σ2 H3 fun J1 H4 => ∃ W1 : Nat → Nat → Hp → Prop, (∃ m, W1 0 m H4) ∧ ∀ j k H, W1 j k H →
          (J1.stop j H ∧ Nx H) ∨ (J1.go j H ∧ ∃ Nx1 : Hp → Prop, (∀ H', Nx1 H' → ∃ k', k' < k ∧ W1 (j + 1) k' H') ∧ ∀ x H', J1.yld j H x H' → g1 x (wipe σ2 vs1) H' fun σ3 H5 => wipe σ3 vs1 = wipe σ2 vs1 ∧ tt1 σ3 H5 fun b H6 =>
            if b = true then te σ3 H6 fun y H7 => ∃ acc, H7 D = some (.lst acc) ∧ acc.length < sizeLine ∧ Nx1 (L2.upd H7 D (.lst (acc ++ [y]))) else Nx1 H6)
        else Nx H3) := by
  refine ⟨fun i m H => m = n - i ∧ i ≤ n ∧ Pv i H, ⟨n, by simp, Nat.zero_le _, h0⟩, ?_⟩
  rintro i m H ⟨rfl, hi, p⟩
  have q := hG i H hi p
  by_cases hlt : i < n
  · exact .inr ⟨w.goes i H hlt q, Pv (i + 1), fun H' p' => ⟨n - (i + 1), by omega, rfl, hlt, p'⟩, fun x H' y => hs i x H H' hlt p (w.yields i H x H' hlt q y)⟩
  · have e : i = n := by omega
    subst e
    exact .inl ⟨w.stops H q, hd H p⟩
/-- the second clause's own loop -/
theorem lc_in (w : Walk J1 n1 G1 Y1) {g1 : TG} {tt1 : TT} {te : TE} {vs1 : List Nat} {σ2 : L2.St} {H4 : Hp} {D : Addr} {Nd : Hp → Prop} (Pw : Nat → Hp → Prop) (h0 : Pw 0 H4) (hG : ∀ j H, j ≤ n1 → Pw j H → G1 H)
    (hs : ∀ j x H H', j < n1 → Pw j H → Y1 j H x H' → g1 x (wipe σ2 vs1) H' fun σ3 H5 => wipe σ3 vs1 = wipe σ2 vs1 ∧ tt1 σ3 H5 fun b H6 =>
      if b = true then te σ3 H6 fun y H7 => ∃ acc, H7 D = some (.lst acc) ∧ acc.length < sizeLine ∧ Pw (j + 1) (L2.upd H7 D (.lst (acc ++ [y]))) else Pw (j + 1) H6) (hd : ∀ H, Pw n1 H → Nd H) :
    ∃ W1 : Nat → Nat → Hp → Prop, (∃ m, W1 0 m H4) ∧ ∀ j k H, W1 j k H →
      (J1.stop j H ∧ Nd H) ∨ (J1.go j H ∧ ∃ Nx1 : Hp → Prop, (∀ H', Nx1 H' → ∃ k', k' < k ∧ W1 (j + 1) k' H') ∧ ∀ x H', J1.yld j H x H' → g1 x (wipe σ2 vs1) H' fun σ3 H5 => wipe σ3 vs1 = wipe σ2 vs1 ∧ tt1 σ3 H5 fun b H6 =>
        if b = true then te σ3 H6 fun y H7 => ∃ acc, H7 D = some (.lst acc) ∧ acc.length < sizeLine ∧ Nx1 (L2.upd H7 D (.lst (acc ++ [y]))) else Nx1 H6) := by
  refine ⟨fun i m H => m = n1 - i ∧ i ≤ n1 ∧ Pw i H, ⟨n1, by simp, Nat.zero_le _, h0⟩, ?_⟩
  rintro i m H ⟨rfl, hi, p⟩
  have q := hG i H hi p
  by_cases hlt : i < n1
  · exact .inr ⟨w.goes i H hlt q, Pw (i + 1), fun H' p' => ⟨n1 - (i + 1), by omega, rfl, hlt, p'⟩, fun x H' y => hs i x H H' hlt p (w.yields i H x H' hlt q y)⟩
  · have e : i = n1 := by omega
    subst e
    exact .inl ⟨w.stops H q, hd H p⟩
end
/-! ### rows of a whole number and a text -/
def encD (x : Int × Str) : PyData := .tuple [.int x.1, .str x.2]
def leD : Int × Str → Int × Str → Bool := PySem.W.dataLe false encD
theorem leD_total : PySem.W.TotalLe leD := PySem.W.sortLe_total _ false _
theorem leD_lt (x y : Int × Str) : leD x y = !PySem.W.DatumOrd.lt y x := by
  show (!PySem.W.dataLt (encD y) (encD x)) = _
  rw [show encD y = PySem.W.Datum.toD y from rfl, show encD x = PySem.W.Datum.toD x from rfl, PySem.W.DatumOrd.lt_eq]
theorem leD_day {x y : Int × Str} (h : leD x y = true) : x.1 ≤ y.1 := by
  rw [leD_lt, Bool.not_eq_true'] at h
  have h : (if y.1 = x.1 then PySem.W.DatumOrd.lt y.2 x.2 else decide (y.1 < x.1)) = false := h
  by_cases e : y.1 = x.1
  · omega
  · rw [if_neg e] at h
    have := of_decide_eq_false h
    omega
theorem leD_of_day {x y : Int × Str} (h : x.1 < y.1) : leD x y = true := by
  rw [leD_lt, Bool.not_eq_true']
  show (if y.1 = x.1 then PySem.W.DatumOrd.lt y.2 x.2 else decide (y.1 < x.1)) = false
  rw [if_neg (by omega), decide_eq_false (by omega)]
theorem minOf_sorted {y : Int × Str} {ys : List (Int × Str)} (h : ∀ z ∈ ys, leD y z = true) : PySem.W.minOf y ys = y := by
  unfold PySem.W.minOf
  induction ys with
  | nil => rfl
  | cons z zs ih =>
    have hz := h z List.mem_cons_self
    rw [leD_lt, Bool.not_eq_true'] at hz
    rw [List.foldl_cons, hz, if_neg Bool.false_ne_true]
    exact ih fun u hu => h u (List.mem_cons_of_mem _ hu)
def duoAt (H : Hp) (v : V) : Int × Str := match v with
  | .ref t => match H t with
    | some (.tup [.int a, .str s]) => (a, s)
    | _ => (0, "")
  | _ => (0, "")
theorem duoAt_eq {H : Hp} {t : Addr} {a : Int} {s : Str} (h : H t = some (.tup [.int a, .str s])) : duoAt H (.ref t) = (a, s) := by
  unfold duoAt
  simp only [h]
def Duo (H : Hp) (v : V) (x : Int × Str) : Prop := ∃ t : Addr, v = .ref t ∧ H t = some (.tup [.int x.1, .str x.2])
def Duos (H : Hp) (us : List V) (xs : List (Int × Str)) : Prop := xs.length = us.length ∧ ∀ (j : Nat) (v : V), us[j]? = some v → ∃ x, xs[j]? = some x ∧ Duo H v x
theorem Duo.same {H H1 : Hp} {v : V} {x : Int × Str} (h : Duo H v x) (s : ∀ t xs, H t = some (.tup xs) → H1 t = some (.tup xs)) : Duo H1 v x := by
  obtain ⟨t, e, h⟩ := h
  exact ⟨t, e, s _ _ h⟩
theorem Duos.same {H H1 : Hp} {us : List V} {xs : List (Int × Str)} (h : Duos H us xs) (s : ∀ t xs, H t = some (.tup xs) → H1 t = some (.tup xs)) : Duos H1 us xs := ⟨h.1, fun j v hj => by
  obtain ⟨x, e, d⟩ := h.2 j v hj
  exact ⟨x, e, d.same s⟩⟩
theorem Duos.nil {H : Hp} : Duos H [] [] := ⟨rfl, fun j v h => by simp at h⟩
theorem Duos.snoc {H : Hp} {us : List V} {xs : List (Int × Str)} {v : V} {x : Int × Str} (h : Duos H us xs) (d : Duo H v x) : Duos H (us ++ [v]) (xs ++ [x]) := ⟨by simp [h.1], fun j u hj => by
  by_cases c : j < us.length
  · rw [List.getElem?_append_left c] at hj
    rw [List.getElem?_append_left (by rw [h.1]; exact c)]
    exact h.2 j u hj
  · have ej : j = us.length := by
      have := (List.getElem?_eq_some_iff.mp hj).1
      rw [List.length_append, List.length_cons, List.length_nil] at this
      omega
    subst ej
    rw [List.getElem?_append_right (Nat.le_refl _), Nat.sub_self] at hj
    cases hj
    rw [← h.1, List.getElem?_append_right (Nat.le_refl _), Nat.sub_self]
    exact ⟨x, rfl, d⟩⟩
theorem Duos.append {H : Hp} {us vs : List V} {xs ys : List (Int × Str)} (h : Duos H us xs) (k : Duos H vs ys) : Duos H (us ++ vs) (xs ++ ys) := ⟨by simp [h.1, k.1], fun j u hj => by
  by_cases c : j < us.length
  · rw [List.getElem?_append_left c] at hj
    rw [List.getElem?_append_left (by rw [h.1]; exact c)]
    exact h.2 j u hj
  · rw [List.getElem?_append_right (by omega)] at hj
    rw [List.getElem?_append_right (by rw [h.1]; omega), h.1]
    exact k.2 _ u hj⟩
theorem Duos.get {H : Hp} {us : List V} {xs : List (Int × Str)} (h : Duos H us xs) {j : Nat} {x : Int × Str} (hj : xs[j]? = some x) : ∃ v, us[j]? = some v ∧ Duo H v x := by
  have hl := (List.getElem?_eq_some_iff.mp hj).1
  have e := List.getElem?_eq_getElem (show j < us.length by rw [← h.1]; exact hl)
  obtain ⟨x', e', d⟩ := h.2 j _ e
  rw [hj] at e'
  cases e'
  exact ⟨_, e, d⟩
theorem Duos.eq {H : Hp} {us : List V} {xs : List (Int × Str)} (h : Duos H us xs) : xs = us.map (duoAt H) := by
  refine List.ext_getElem? fun j => ?_
  rw [List.getElem?_map]
  cases hu : us[j]? with
  | none => rw [List.getElem?_eq_none_iff.mpr (by rw [h.1]; exact List.getElem?_eq_none_iff.mp hu)]; rfl
  | some v =>
    obtain ⟨x, e, t, rfl, ht⟩ := h.2 j v hu
    rw [e]
    show some x = some (duoAt H (.ref t))
    rw [duoAt_eq ht]
theorem Duos.at {H : Hp} {us : List V} {xs : List (Int × Str)} (h : Duos H us xs) : ∀ v ∈ us, Duo H v (duoAt H v) := fun v hv => by
  obtain ⟨j, hj⟩ := List.getElem?_of_mem hv
  obtain ⟨x, _, t, rfl, ht⟩ := h.2 j v hj
  refine ⟨t, rfl, ?_⟩
  rw [duoAt_eq ht]
  exact ht
theorem Duos.of {H : Hp} {us : List V} (h : ∀ v ∈ us, Duo H v (duoAt H v)) : Duos H us (us.map (duoAt H)) := ⟨by simp, fun j v hj => ⟨duoAt H v, by rw [List.getElem?_map, hj]; rfl, h v (List.mem_of_getElem? hj)⟩⟩
theorem duo_dp {K : PySem.W.Frag} {H : Hp} {v : V} {x : Int × Str} (h : Duo H v x) : Dp K H v (encD x) := by
  obtain ⟨t, rfl, ht⟩ := h
  exact .tup (SqT.of ht) (.cons (.int _) (.cons (.str _) .nil))
theorem duos_dps {K : PySem.W.Frag} {H : Hp} : ∀ {us : List V} {xs : List (Int × Str)}, Duos H us xs → DpAll K H us (xs.map encD)
  | [], [], _ => .nil
  | [], x :: xs, h => by have := h.1; simp at this
  | u :: us, [], h => by have := h.1; simp at this
  | u :: us, x :: xs, h => by
    obtain ⟨x', e, d⟩ := h.2 0 u rfl
    cases e
    exact .cons (duo_dp d) (duos_dps ⟨by have := h.1; simpa using this, fun j v hj => h.2 (j + 1) v hj⟩)
theorem each_of_vals : ∀ {us : List V} {its : List Value}, Vals us its → PySem.W.EachIs (fun u v => L2.RelV v u) its us
  | _, _, .nil => .nil
  | _, _, .cons r t => .cons r (each_of_vals t)
theorem vals_of_each : ∀ {us : List V} {its : List Value}, PySem.W.EachIs (fun u v => L2.RelV v u) its us → Vals us its
  | _, _, .nil => .nil
  | _, _, .cons r t => .cons r (vals_of_each t)
def rSrtD (K : PySem.W.Frag) : List V → Hp → VK → Prop := fun vs H Q => ∃ (a : Addr) (us : List V) (xs : List (Int × Str)), vs = [V.ref a] ∧ SqL K H a us ∧ Duos H us xs ∧ ∀ (us' : List V) (p : Addr), Duos H us' (xs.mergeSort leD) → H p = none → Q (.ref p) (L2.upd H p (.lst us'))
theorem cr_srtD {X : Cx} (hu : X.A.units + 20 < cLine) : CallR X (.builtin "sorted") (rSrtD X.K) := by
  intro pins s σ H vs us Q I r h
  obtain ⟨a, xs, ps, rfl, hs, hx, q⟩ := h
  obtain ⟨its, rv, hl, hz⟩ := I.list hs
  obtain ⟨u, rfl, ru⟩ := vals1 r
  obtain rfl : u = Value.ref a := ru
  have hat := hx.at
  have rd : ∀ {us0 : List V} {its0 : List Value}, Vals us0 its0 → (∀ v ∈ us0, Duo H v (duoAt H v)) → PySem.W.EachIs (fun v b => ∃ as, Reads s.heap v (encD (duoAt H b)) as) its0 us0 := by
    intro us0 its0 hv
    induction hv with
    | nil => exact fun _ => .nil
    | cons r t ih =>
      intro h0
      exact .cons (Dp.reads I _ _ _ (duo_dp (h0 _ List.mem_cons_self)) r) (ih fun v hv => h0 v (List.mem_cons_of_mem _ hv))
  refine PySem.W.sorted_data (β := V) (bs := xs) (enc := fun v => encD (duoAt H v)) (R := fun u v => L2.RelV v u) hl.isList (each_of_vals rv) (rd rv hat) (PySem.W.AllAlike.of fun b b' => PySem.W.DatumOrd.alike (duoAt H b) (duoAt H b')) (PySem.W.Sortable.tuples fun b => ⟨_, _, rfl⟩) hz
    (fun b _ => ?_) fun out ho hE => ?_
  · have h2 : (encD (duoAt H b)).depth = 1 := by
      unfold encD
      simp [PyData.depth, PyData.depthAll]
    show X.A.units + 2 + (encD (duoAt H b)).depth < cLine
    rw [h2]
    omega
  · have hv' := vals_of_each hE
    have em : (xs.mergeSort (PySem.W.dataLe false fun v => encD (duoAt H v))).map (duoAt H) = ps.mergeSort leD := by
      rw [PySem.W.sort_maps (r := PySem.W.dataLe false fun v => encD (duoAt H v)) (s := leD) (duoAt H) (fun _ _ _ _ => rfl), ← hx.eq]
    have hd : Duos H (xs.mergeSort (PySem.W.dataLe false fun v => encD (duoAt H v))) (ps.mergeSort leD) := by
      rw [← em]
      exact Duos.of fun v hv => hat v (List.mem_mergeSort.mp hv)
    have hn : H (s.heap.objs.size + 1) = none := I.hok.fresh (Nat.le_succ _)
    obtain ⟨n, hat2⟩ := PyProof.Rows.sortedAll_at s.heap its out.toArray
    exact ⟨.ref (s.heap.objs.size + 1), L2.upd H (s.heap.objs.size + 1) (.lst (xs.mergeSort (PySem.W.dataLe false fun v => encD (duoAt H v)))), I.laid (t' := s.toks) (fun b o e => PyProof.Rows.sortedAll_old e) (Nat.le_succ _) ⟨by rw [List.length_mergeSort]; exact hz, out, n, hv', hat2⟩, rfl, q _ _ hd hn⟩
/-! ### min(rows, default=None) -/
def rMinD (K : PySem.W.Frag) (v : V) (H : Hp) (Q : VK) : Prop := ∃ (l : Addr) (us : List V) (xs : List (Int × Str)), v = .ref l ∧ SqL K H l us ∧ Duos H us xs ∧ (xs = [] → Q .non H) ∧ ∀ y ys t, xs = y :: ys → H t = some (.tup [.int (PySem.W.minOf y ys).1, .str (PySem.W.minOf y ys).2]) → Q (.ref t) H
def tMinD (K : PySem.W.Frag) (te : TE) : TE := fun σ H Q => te σ H fun v H1 => rMinD K v H1 Q
theorem pe_minD {X : Cx} {j : Nat} {p pos : Pos} {e : Expr} {te : TE} {kws : List Keyword} (hr : Room j X.A) (hc : X.calm = true)
    (hkw : PK X kws (tCons (tC .non) tNil)) (hg : Gl X "min") (hm : X.mg "min" = none) (ha : PA X [e] (tCons te tNil))
    (he : backTo pos (starEach [e] X.env) = (false, eval e X.env) :: backTo pos (starEach [] X.env) := by rfl) (hpl : (backTo pos (starEach [e] X.env)).any (·.1) = false := by rfl)
    (hall : (backToKw pos (keywordEach kws X.env)).all (·.1.isSome) = true := by rfl) (hnone : (backToKw pos (keywordEach kws X.env)).any (·.1.isNone) = false := by rfl) (hks : (backToKw pos (keywordEach kws X.env)).filterMap (·.1) = [Str.ofString "default"] := by rfl) :
    PE X (.Call (.Name "min" p) [e] kws pos) (tMinD X.K te) := by
  refine ⟨fun pins s σ H Q I h => ?_⟩
  refine wpAny_Call_Name_kw (ld_blt (u := .builtin "min") I hg hm (by rfl) ?_ (by decide) (by decide))
  refine PyProof.Rows.callWith_kw (thn (ha.run pos pins s σ H (oneV fun v H1 => rMinD X.K v H1 Q) I h) fun us s1 ⟨vs, H1, I1, r1, q1⟩ => thn (hkw.run pos pins s1 σ H1 (fun zs H2 => zs = [.non] ∧ oneV (fun v H1 => rMinD X.K v H1 Q) vs H2) I1 ⟨rfl, q1⟩) fun ws s2 ⟨zs, H2, I2, r2, hz, q2⟩ => ?_) he hpl hall hnone
  rw [hks]
  subst hz
  match vs, q2, r1 with
  | [v], q2, r1 =>
  obtain ⟨l, vs, xs, rfl, hl, hd, h0, h1⟩ := q2
  obtain rfl := Vals.ref1 r1
  obtain ⟨u, rfl, ru⟩ := vals1 r2
  obtain rfl : u = Value.none := ru
  obtain ⟨its, rv, hl2, hz⟩ := I2.list hl
  have hat := hd.at
  have ex := hd.eq
  have ho : ∀ {us0 : List V} {its0 : List Value}, Vals us0 its0 → (∀ v ∈ us0, Duo H2 v (duoAt H2 v)) → PySem.W.HoldAll s2.heap its0 (us0.map (duoAt H2)) := by
    intro us0 its0 hv
    induction hv with
    | nil => exact fun _ => ⟨_, .nil⟩
    | cons r t ih =>
      intro h0
      exact PySem.W.HoldAll.cons (Dp.reads I2 _ _ _ (duo_dp (h0 _ List.mem_cons_self)) r) (ih fun v hv => h0 v (List.mem_cons_of_mem _ hv))
  have hold := ho rv hat
  rw [← ex] at hold
  have hun := hr.units
  refine PySem.W.min_list_datum_default (xs := xs) (I2.ok.hd hc) hl2.isList hold (by show X.A.units + 1 + PySem.W.Datum.depth (Int × Str) < cLine; have : PySem.W.Datum.depth (Int × Str) = 1 := rfl; omega) (fun e h' tk kp => ?_) fun y ys i v h' tk e hi hv kp => ?_
  · exact ⟨.non, H2, I2.kept (t' := tk) kp, rfl, h0 e⟩
  · have hi' : its[i]? = some v := by
      rw [← List.getElem?_toArray]
      exact hi
    have hil := (List.getElem?_eq_some_iff.mp hi').1
    have hil' : i < vs.length := by
      rw [rv.length]
      exact hil
    obtain ⟨u, hu, ru⟩ := L2.Vals.get rv (List.getElem?_eq_getElem hil')
    rw [hi'] at hu
    cases hu
    have I3 := I2.kept (t' := tk) kp
    obtain ⟨x, ex', t, et, ht⟩ := hd.2 i _ (List.getElem?_eq_getElem hil')
    rw [et] at ru
    obtain ⟨as, rd⟩ := Dp.reads I3 _ _ _ (duo_dp (K := X.K) ⟨t, rfl, ht⟩) ru
    obtain ⟨bs, rd2⟩ := hv
    have eq := PySem.W.alike_unique _ _ _ _ _ (PySem.W.DatumOrd.alike x (PySem.W.minOf y ys)) rd rd2
    have eq : PyData.tuple [.int x.1, .str x.2] = .tuple [.int (PySem.W.minOf y ys).1, .str (PySem.W.minOf y ys).2] := eq
    injection eq with e1
    injection e1 with e2 e3
    injection e3 with e4 _
    injection e2 with e2
    injection e4 with e4
    refine ⟨.ref t, H2, I3, ru, h1 y ys t e ?_⟩
    rw [← e2, ← e4]
    exact ht
end MM
namespace MM
open PySem PySem.Spec PyProof.Rows L2
/-- the text by places -/
def top (i : Nat) : Stmt := PySem.Challenge.pw_meanmoon_k69_whole_feasts_day_by_day.main.body.getD i (.Pass ⟨0, 0, 0, 0⟩)
abbrev s__wall : Stmt := top 0
theorem c__wall : FnScope ["k"] ["k"] (defScope s__wall) := ⟨rfl, rfl, rfl, by decide +kernel, rfl, by decide +kernel, by decide +kernel⟩
theorem b__wall : Bd "_wall" "_wall" s__wall ["k"] := fun _ _ _ _ _ _ us hl => match us, hl with | [_], _ => rfl
abbrev s_NoShare_init : Stmt := inClass (top 2) 0
theorem c_NoShare_init : FnScope ["self", "top"] ["self", "top"] (defScope s_NoShare_init) := ⟨rfl, rfl, rfl, by decide +kernel, rfl, by decide +kernel, by decide +kernel⟩
theorem b_NoShare_init : Bd "__init__" "NoShare.__init__" s_NoShare_init ["self", "top"] := fun _ _ _ _ _ _ us hl => match us, hl with | [_, _], _ => rfl
abbrev s_NoCalendar_init : Stmt := inClass (top 3) 0
theorem c_NoCalendar_init : FnScope ["self", "why"] ["self", "why"] (defScope s_NoCalendar_init) := ⟨rfl, rfl, rfl, by decide +kernel, rfl, by decide +kernel, by decide +kernel⟩
theorem b_NoCalendar_init : Bd "__init__" "NoCalendar.__init__" s_NoCalendar_init ["self", "why"] := fun _ _ _ _ _ _ us hl => match us, hl with | [_, _], _ => rfl
abbrev s_NoName_init : Stmt := inClass (top 4) 0
theorem c_NoName_init : FnScope ["self", "name"] ["self", "name"] (defScope s_NoName_init) := ⟨rfl, rfl, rfl, by decide +kernel, rfl, by decide +kernel, by decide +kernel⟩
theorem b_NoName_init : Bd "__init__" "NoName.__init__" s_NoName_init ["self", "name"] := fun _ _ _ _ _ _ us hl => match us, hl with | [_, _], _ => rfl
abbrev s_Taken_init : Stmt := inClass (top 5) 0
theorem c_Taken_init : FnScope ["self", "name"] ["self", "name"] (defScope s_Taken_init) := ⟨rfl, rfl, rfl, by decide +kernel, rfl, by decide +kernel, by decide +kernel⟩
theorem b_Taken_init : Bd "__init__" "Taken.__init__" s_Taken_init ["self", "name"] := fun _ _ _ _ _ _ us hl => match us, hl with | [_, _], _ => rfl
abbrev s_numeral : Stmt := top 8
theorem c_numeral : FnScope ["number", "base", "rest", "signs"] ["number", "base"] (defScope s_numeral) := ⟨rfl, rfl, rfl, by decide +kernel, rfl, by decide +kernel, by decide +kernel⟩
abbrev s_Share_init : Stmt := inClass (top 10) 0
theorem c_Share_init : FnScope ["self", "top", "bottom", "common"] ["self", "top", "bottom"] (defScope s_Share_init) := ⟨rfl, rfl, rfl, by decide +kernel, rfl, by decide +kernel, by decide +kernel⟩
abbrev s_Share_eq : Stmt := inClass (top 10) 1
theorem c_Share_eq : FnScope ["self", "other"] ["self", "other"] (defScope s_Share_eq) := ⟨rfl, rfl, rfl, by decide +kernel, rfl, by decide +kernel, by decide +kernel⟩
theorem b_Share_eq : Bd "__eq__" "Share.__eq__" s_Share_eq ["self", "other"] := fun _ _ _ _ _ _ us hl => match us, hl with | [_, _], _ => rfl
abbrev s_Share_str : Stmt := inClass (top 10) 2
theorem c_Share_str : FnScope ["self"] ["self"] (defScope s_Share_str) := ⟨rfl, rfl, rfl, by decide +kernel, rfl, by decide +kernel, by decide +kernel⟩
theorem b_Share_str : Bd "__str__" "Share.__str__" s_Share_str ["self"] := fun _ _ _ _ _ _ us hl => match us, hl with | [_], _ => rfl
abbrev s_Share_repr : Stmt := inClass (top 10) 3
theorem c_Share_repr : FnScope ["self"] ["self"] (defScope s_Share_repr) := ⟨rfl, rfl, rfl, by decide +kernel, rfl, by decide +kernel, by decide +kernel⟩
theorem b_Share_repr : Bd "__repr__" "Share.__repr__" s_Share_repr ["self"] := fun _ _ _ _ _ _ us hl => match us, hl with | [_], _ => rfl
abbrev s_common_divisor : Stmt := top 11
theorem c_common_divisor : FnScope ["one", "two"] ["one", "two"] (defScope s_common_divisor) := ⟨rfl, rfl, rfl, by decide +kernel, rfl, by decide +kernel, by decide +kernel⟩
theorem b_common_divisor : Bd "common_divisor" "common_divisor" s_common_divisor ["one", "two"] := fun _ _ _ _ _ _ us hl => match us, hl with | [_, _], _ => rfl
abbrev s_as_share : Stmt := top 12
theorem c_as_share : FnScope ["number"] ["number"] (defScope s_as_share) := ⟨rfl, rfl, rfl, by decide +kernel, rfl, by decide +kernel, by decide +kernel⟩
theorem b_as_share : Bd "as_share" "as_share" s_as_share ["number"] := fun _ _ _ _ _ _ us hl => match us, hl with | [_], _ => rfl
abbrev s_plus : Stmt := top 13
theorem c_plus : FnScope ["one", "two", "first", "second"] ["one", "two"] (defScope s_plus) := ⟨rfl, rfl, rfl, by decide +kernel, rfl, by decide +kernel, by decide +kernel⟩
theorem b_plus : Bd "plus" "plus" s_plus ["one", "two"] := fun _ _ _ _ _ _ us hl => match us, hl with | [_, _], _ => rfl
abbrev s_minus : Stmt := top 14
theorem c_minus : FnScope ["one", "two", "first", "second"] ["one", "two"] (defScope s_minus) := ⟨rfl, rfl, rfl, by decide +kernel, rfl, by decide +kernel, by decide +kernel⟩
theorem b_minus : Bd "minus" "minus" s_minus ["one", "two"] := fun _ _ _ _ _ _ us hl => match us, hl with | [_, _], _ => rfl
abbrev s_times : Stmt := top 15
theorem c_times : FnScope ["one", "two", "first", "second"] ["one", "two"] (defScope s_times) := ⟨rfl, rfl, rfl, by decide +kernel, rfl, by decide +kernel, by decide +kernel⟩
theorem b_times : Bd "times" "times" s_times ["one", "two"] := fun _ _ _ _ _ _ us hl => match us, hl with | [_, _], _ => rfl
abbrev s_over : Stmt := top 16
theorem c_over : FnScope ["one", "two", "first", "second"] ["one", "two"] (defScope s_over) := ⟨rfl, rfl, rfl, by decide +kernel, rfl, by decide +kernel, by decide +kernel⟩
theorem b_over : Bd "over" "over" s_over ["one", "two"] := fun _ _ _ _ _ _ us hl => match us, hl with | [_, _], _ => rfl
abbrev s_before : Stmt := top 17
theorem c_before : FnScope ["one", "two", "first", "second"] ["one", "two"] (defScope s_before) := ⟨rfl, rfl, rfl, by decide +kernel, rfl, by decide +kernel, by decide +kernel⟩
theorem b_before : Bd "before" "before" s_before ["one", "two"] := fun _ _ _ _ _ _ us hl => match us, hl with | [_, _], _ => rfl
abbrev s_whole : Stmt := top 18
theorem c_whole : FnScope ["share", "number"] ["share"] (defScope s_whole) := ⟨rfl, rfl, rfl, by decide +kernel, rfl, by decide +kernel, by decide +kernel⟩
theorem b_whole : Bd "whole" "whole" s_whole ["share"] := fun _ _ _ _ _ _ us hl => match us, hl with | [_], _ => rfl
abbrev s_rounded_up : Stmt := top 19
theorem c_rounded_up : FnScope ["share", "number"] ["share"] (defScope s_rounded_up) := ⟨rfl, rfl, rfl, by decide +kernel, rfl, by decide +kernel, by decide +kernel⟩
theorem b_rounded_up : Bd "rounded_up" "rounded_up" s_rounded_up ["share"] := fun _ _ _ _ _ _ us hl => match us, hl with | [_], _ => rfl
abbrev s_Calendar_init : Stmt := inClass (top 22) 0
theorem c_Calendar_init : FnScope ["self", "month", "year", "moon", "mark"] ["self", "month", "year", "moon", "mark"] (defScope s_Calendar_init) := ⟨rfl, rfl, rfl, by decide +kernel, rfl, by decide +kernel, by decide +kernel⟩
abbrev s_Calendar_start : Stmt := inClass (top 22) 1
theorem c_Calendar_start : FnScope ["self", "k"] ["self", "k"] (defScope s_Calendar_start) := ⟨rfl, rfl, rfl, by decide +kernel, rfl, by decide +kernel, by decide +kernel⟩
theorem b_Calendar_start : Bd "start" "Calendar.start" s_Calendar_start ["self", "k"] := fun _ _ _ _ _ _ us hl => match us, hl with | [_, _], _ => rfl
abbrev s_Calendar_month_at : Stmt := inClass (top 22) 2
theorem c_Calendar_month_at : FnScope ["self", "day"] ["self", "day"] (defScope s_Calendar_month_at) := ⟨rfl, rfl, rfl, by decide +kernel, rfl, by decide +kernel, by decide +kernel⟩
theorem b_Calendar_month_at : Bd "month_at" "Calendar.month_at" s_Calendar_month_at ["self", "day"] := fun _ _ _ _ _ _ us hl => match us, hl with | [_, _], _ => rfl
abbrev s_Calendar_mark_day : Stmt := inClass (top 22) 3
theorem c_Calendar_mark_day : FnScope ["self", "j"] ["self", "j"] (defScope s_Calendar_mark_day) := ⟨rfl, rfl, rfl, by decide +kernel, rfl, by decide +kernel, by decide +kernel⟩
theorem b_Calendar_mark_day : Bd "mark_day" "Calendar.mark_day" s_Calendar_mark_day ["self", "j"] := fun _ _ _ _ _ _ us hl => match us, hl with | [_, _], _ => rfl
abbrev s_Calendar_month_with : Stmt := inClass (top 22) 4
theorem c_Calendar_month_with : FnScope ["self", "j"] ["self", "j"] (defScope s_Calendar_month_with) := ⟨rfl, rfl, rfl, by decide +kernel, rfl, by decide +kernel, by decide +kernel⟩
theorem b_Calendar_month_with : Bd "month_with" "Calendar.month_with" s_Calendar_month_with ["self", "j"] := fun _ _ _ _ _ _ us hl => match us, hl with | [_, _], _ => rfl
abbrev s_Calendar_mark_in : Stmt := inClass (top 22) 5
theorem c_Calendar_mark_in : FnScope ["self", "k", "j"] ["self", "k"] (defScope s_Calendar_mark_in) := ⟨rfl, rfl, rfl, by decide +kernel, rfl, by decide +kernel, by decide +kernel⟩
theorem b_Calendar_mark_in : Bd "mark_in" "Calendar.mark_in" s_Calendar_mark_in ["self", "k"] := fun _ _ _ _ _ _ us hl => match us, hl with | [_, _], _ => rfl
abbrev s_Calendar_name_of : Stmt := inClass (top 22) 6
theorem c_Calendar_name_of : FnScope ["self", "k", "j", "odd"] ["self", "k"] (defScope s_Calendar_name_of) := ⟨rfl, rfl, rfl, by decide +kernel, rfl, by decide +kernel, by decide +kernel⟩
theorem b_Calendar_name_of : Bd "name_of" "Calendar.name_of" s_Calendar_name_of ["self", "k"] := fun _ _ _ _ _ _ us hl => match us, hl with | [_, _], _ => rfl
abbrev s_Calendar_eq : Stmt := inClass (top 22) 7
theorem c_Calendar_eq : FnScope ["self", "other"] ["self", "other"] (defScope s_Calendar_eq) := ⟨rfl, rfl, rfl, by decide +kernel, rfl, by decide +kernel, by decide +kernel⟩
theorem b_Calendar_eq : Bd "__eq__" "Calendar.__eq__" s_Calendar_eq ["self", "other"] := fun _ _ _ _ _ _ us hl => match us, hl with | [_, _], _ => rfl
abbrev s_Calendar_str : Stmt := inClass (top 22) 8
theorem c_Calendar_str : FnScope ["self"] ["self"] (defScope s_Calendar_str) := ⟨rfl, rfl, rfl, by decide +kernel, rfl, by decide +kernel, by decide +kernel⟩
theorem b_Calendar_str : Bd "__str__" "Calendar.__str__" s_Calendar_str ["self"] := fun _ _ _ _ _ _ us hl => match us, hl with | [_], _ => rfl
abbrev s_Calendar_repr : Stmt := inClass (top 22) 9
theorem c_Calendar_repr : FnScope ["self"] ["self"] (defScope s_Calendar_repr) := ⟨rfl, rfl, rfl, by decide +kernel, rfl, by decide +kernel, by decide +kernel⟩
theorem b_Calendar_repr : Bd "__repr__" "Calendar.__repr__" s_Calendar_repr ["self"] := fun _ _ _ _ _ _ us hl => match us, hl with | [_], _ => rfl
abbrev s_refuse_unfit : Stmt := top 23
theorem c_refuse_unfit : FnScope ["month", "year"] ["month", "year"] (defScope s_refuse_unfit) := ⟨rfl, rfl, rfl, by decide +kernel, rfl, by decide +kernel, by decide +kernel⟩
theorem b_refuse_unfit : Bd "refuse_unfit" "refuse_unfit" s_refuse_unfit ["month", "year"] := fun _ _ _ _ _ _ us hl => match us, hl with | [_, _], _ => rfl
abbrev s_moment_or_nought : Stmt := top 24
theorem c_moment_or_nought : FnScope ["moment"] ["moment"] (defScope s_moment_or_nought) := ⟨rfl, rfl, rfl, by decide +kernel, rfl, by decide +kernel, by decide +kernel⟩
theorem b_moment_or_nought : Bd "moment_or_nought" "moment_or_nought" s_moment_or_nought ["moment"] := fun _ _ _ _ _ _ us hl => match us, hl with | [_], _ => rfl
abbrev s_twelfth : Stmt := top 25
theorem c_twelfth : FnScope ["year"] ["year"] (defScope s_twelfth) := ⟨rfl, rfl, rfl, by decide +kernel, rfl, by decide +kernel, by decide +kernel⟩
theorem b_twelfth : Bd "twelfth" "twelfth" s_twelfth ["year"] := fun _ _ _ _ _ _ us hl => match us, hl with | [_], _ => rfl
abbrev s_nth_day : Stmt := top 26
theorem c_nth_day : FnScope ["first", "step", "n"] ["first", "step", "n"] (defScope s_nth_day) := ⟨rfl, rfl, rfl, by decide +kernel, rfl, by decide +kernel, by decide +kernel⟩
theorem b_nth_day : Bd "nth_day" "nth_day" s_nth_day ["first", "step", "n"] := fun _ _ _ _ _ _ us hl => match us, hl with | [_, _, _], _ => rfl
abbrev s_first_from : Stmt := top 27
theorem c_first_from : FnScope ["first", "step", "day"] ["first", "step", "day"] (defScope s_first_from) := ⟨rfl, rfl, rfl, by decide +kernel, rfl, by decide +kernel, by decide +kernel⟩
theorem b_first_from : Bd "first_from" "first_from" s_first_from ["first", "step", "day"] := fun _ _ _ _ _ _ us hl => match us, hl with | [_, _, _], _ => rfl
abbrev s_kept_form : Stmt := top 28
theorem c_kept_form : FnScope ["calendar", "month", "moon", "first_moon", "mark"] ["calendar"] (defScope s_kept_form) := ⟨rfl, rfl, rfl, by decide +kernel, rfl, by decide +kernel, by decide +kernel⟩
theorem b_kept_form : Bd "kept_form" "kept_form" s_kept_form ["calendar"] := fun _ _ _ _ _ _ us hl => match us, hl with | [_], _ => rfl
abbrev s_least_alike : Stmt := top 29
theorem c_least_alike : FnScope ["first", "step"] ["first", "step"] (defScope s_least_alike) := ⟨rfl, rfl, rfl, by decide +kernel, rfl, by decide +kernel, by decide +kernel⟩
theorem b_least_alike : Bd "least_alike" "least_alike" s_least_alike ["first", "step"] := fun _ _ _ _ _ _ us hl => match us, hl with | [_, _], _ => rfl
abbrev s_lengths_from : Stmt := top 31
theorem c_lengths_from : FnScope ["calendar", "k", "many", "n"] ["calendar", "k", "many"] (defScope s_lengths_from) := ⟨rfl, rfl, rfl, by decide +kernel, rfl, by decide +kernel, by decide +kernel⟩
theorem b_lengths_from : Bd "lengths_from" "lengths_from" s_lengths_from ["calendar", "k", "many"] := fun _ _ _ _ _ _ us hl => match us, hl with | [_, _, _], _ => rfl
abbrev s_days_of : Stmt := top 32
theorem c_days_of : FnScope ["calendar", "k", "many"] ["calendar", "k", "many"] (defScope s_days_of) := ⟨rfl, rfl, rfl, by decide +kernel, rfl, by decide +kernel, by decide +kernel⟩
theorem b_days_of : Bd "days_of" "days_of" s_days_of ["calendar", "k", "many"] := fun _ _ _ _ _ _ us hl => match us, hl with | [_, _, _], _ => rfl
abbrev s_steps : Stmt := top 33
theorem c_steps : FnScope ["days", "day", "behind"] ["days"] (defScope s_steps) := ⟨rfl, rfl, rfl, by decide +kernel, rfl, by decide +kernel, by decide +kernel⟩
theorem b_steps : Bd "steps" "steps" s_steps ["days"] := fun _ _ _ _ _ _ us hl => match us, hl with | [_], _ => rfl
abbrev s_odd_sign : Stmt := top 35
theorem c_odd_sign : FnScope ["odd"] ["odd"] (defScope s_odd_sign) := ⟨rfl, rfl, rfl, by decide +kernel, rfl, by decide +kernel, by decide +kernel⟩
theorem b_odd_sign : Bd "odd_sign" "odd_sign" s_odd_sign ["odd"] := fun _ _ _ _ _ _ us hl => match us, hl with | [_], _ => rfl
abbrev s_plain_month : Stmt := top 36
theorem c_plain_month : FnScope ["calendar", "year", "number"] ["calendar", "year", "number"] (defScope s_plain_month) := ⟨rfl, rfl, rfl, by decide +kernel, rfl, by decide +kernel, by decide +kernel⟩
theorem b_plain_month : Bd "plain_month" "plain_month" s_plain_month ["calendar", "year", "number"] := fun _ _ _ _ _ _ us hl => match us, hl with | [_, _, _], _ => rfl
abbrev s_odd_month : Stmt := top 37
theorem c_odd_month : FnScope ["calendar", "year", "number", "k"] ["calendar", "year", "number"] (defScope s_odd_month) := ⟨rfl, rfl, rfl, by decide +kernel, rfl, by decide +kernel, by decide +kernel⟩
theorem b_odd_month : Bd "odd_month" "odd_month" s_odd_month ["calendar", "year", "number"] := fun _ _ _ _ _ _ us hl => match us, hl with | [_, _, _], _ => rfl
abbrev s_day_in : Stmt := top 38
theorem c_day_in : FnScope ["calendar", "k", "count"] ["calendar", "k", "count"] (defScope s_day_in) := ⟨rfl, rfl, rfl, by decide +kernel, rfl, by decide +kernel, by decide +kernel⟩
theorem b_day_in : Bd "day_in" "day_in" s_day_in ["calendar", "k", "count"] := fun _ _ _ _ _ _ us hl => match us, hl with | [_, _, _], _ => rfl
abbrev s_month_in_year : Stmt := top 39
theorem c_month_in_year : FnScope ["calendar", "year", "number", "odd", "k"] ["calendar", "year", "number", "odd"] (defScope s_month_in_year) := ⟨rfl, rfl, rfl, by decide +kernel, rfl, by decide +kernel, by decide +kernel⟩
theorem b_month_in_year : Bd "month_in_year" "month_in_year" s_month_in_year ["calendar", "year", "number", "odd"] := fun _ _ _ _ _ _ us hl => match us, hl with | [_, _, _, _], _ => rfl
abbrev s_held_in : Stmt := top 40
theorem c_held_in : FnScope ["calendar", "k", "count"] ["calendar", "k", "count"] (defScope s_held_in) := ⟨rfl, rfl, rfl, by decide +kernel, rfl, by decide +kernel, by decide +kernel⟩
theorem b_held_in : Bd "held_in" "held_in" s_held_in ["calendar", "k", "count"] := fun _ _ _ _ _ _ us hl => match us, hl with | [_, _, _], _ => rfl
abbrev s_Year_init : Stmt := inClass (top 42) 0
theorem c_Year_init : FnScope ["self", "calendar", "number", "k", "many", "n"] ["self", "calendar", "number"] (defScope s_Year_init) := ⟨rfl, rfl, rfl, by decide +kernel, rfl, by decide +kernel, by decide +kernel⟩
theorem b_Year_init : Bd "__init__" "Year.__init__" s_Year_init ["self", "calendar", "number"] := fun _ _ _ _ _ _ us hl => match us, hl with | [_, _, _], _ => rfl
abbrev s_Year_days_in : Stmt := inClass (top 42) 1
theorem c_Year_days_in : FnScope ["self"] ["self"] (defScope s_Year_days_in) := ⟨rfl, rfl, rfl, by decide +kernel, rfl, by decide +kernel, by decide +kernel⟩
theorem b_Year_days_in : Bd "days_in" "Year.days_in" s_Year_days_in ["self"] := fun _ _ _ _ _ _ us hl => match us, hl with | [_], _ => rfl
abbrev s_Year_len : Stmt := inClass (top 42) 2
theorem c_Year_len : FnScope ["self"] ["self"] (defScope s_Year_len) := ⟨rfl, rfl, rfl, by decide +kernel, rfl, by decide +kernel, by decide +kernel⟩
theorem b_Year_len : Bd "__len__" "Year.__len__" s_Year_len ["self"] := fun _ _ _ _ _ _ us hl => match us, hl with | [_], _ => rfl
abbrev s_Year_eq : Stmt := inClass (top 42) 3
theorem c_Year_eq : FnScope ["self", "other"] ["self", "other"] (defScope s_Year_eq) := ⟨rfl, rfl, rfl, by decide +kernel, rfl, by decide +kernel, by decide +kernel⟩
theorem b_Year_eq : Bd "__eq__" "Year.__eq__" s_Year_eq ["self", "other"] := fun _ _ _ _ _ _ us hl => match us, hl with | [_, _], _ => rfl
abbrev s_Year_str : Stmt := inClass (top 42) 4
theorem c_Year_str : FnScope ["self", "length", "number", "odd"] ["self"] (defScope s_Year_str) := ⟨rfl, rfl, rfl, by decide +kernel, rfl, by decide +kernel, by decide +kernel⟩
theorem b_Year_str : Bd "__str__" "Year.__str__" s_Year_str ["self"] := fun _ _ _ _ _ _ us hl => match us, hl with | [_], _ => rfl
abbrev s_Year_repr : Stmt := inClass (top 42) 5
theorem c_Year_repr : FnScope ["self"] ["self"] (defScope s_Year_repr) := ⟨rfl, rfl, rfl, by decide +kernel, rfl, by decide +kernel, by decide +kernel⟩
theorem b_Year_repr : Bd "__repr__" "Year.__repr__" s_Year_repr ["self"] := fun _ _ _ _ _ _ us hl => match us, hl with | [_], _ => rfl
abbrev s_first_day : Stmt := top 43
theorem c_first_day : FnScope ["calendar", "year"] ["calendar", "year"] (defScope s_first_day) := ⟨rfl, rfl, rfl, by decide +kernel, rfl, by decide +kernel, by decide +kernel⟩
theorem b_first_day : Bd "first_day" "first_day" s_first_day ["calendar", "year"] := fun _ _ _ _ _ _ us hl => match us, hl with | [_, _], _ => rfl
abbrev s_year_with : Stmt := top 44
theorem c_year_with : FnScope ["calendar", "day"] ["calendar", "day"] (defScope s_year_with) := ⟨rfl, rfl, rfl, by decide +kernel, rfl, by decide +kernel, by decide +kernel⟩
theorem b_year_with : Bd "year_with" "year_with" s_year_with ["calendar", "day"] := fun _ _ _ _ _ _ us hl => match us, hl with | [_, _], _ => rfl
abbrev s_months_in : Stmt := top 45
theorem c_months_in : FnScope ["calendar", "year"] ["calendar", "year"] (defScope s_months_in) := ⟨rfl, rfl, rfl, by decide +kernel, rfl, by decide +kernel, by decide +kernel⟩
theorem b_months_in : Bd "months_in" "months_in" s_months_in ["calendar", "year"] := fun _ _ _ _ _ _ us hl => match us, hl with | [_, _], _ => rfl
abbrev s_odd_number : Stmt := top 46
theorem c_odd_number : FnScope ["names", "number", "odd"] ["names"] (defScope s_odd_number) := ⟨rfl, rfl, rfl, by decide +kernel, rfl, by decide +kernel, by decide +kernel⟩
theorem b_odd_number : Bd "odd_number" "odd_number" s_odd_number ["names"] := fun _ _ _ _ _ _ us hl => match us, hl with | [_], _ => rfl
abbrev s_Feast_init : Stmt := inClass (top 48) 0
theorem c_Feast_init : FnScope ["self", "name", "number", "day", "when"] ["self", "name", "number", "day", "when"] (defScope s_Feast_init) := ⟨rfl, rfl, rfl, by decide +kernel, rfl, by decide +kernel, by decide +kernel⟩
abbrev s_feast_months : Stmt := top 49
theorem c_feast_months : FnScope ["calendar", "feast", "year", "months", "k"] ["calendar", "feast", "year"] (defScope s_feast_months) := ⟨rfl, rfl, rfl, by decide +kernel, rfl, by decide +kernel, by decide +kernel⟩
theorem b_feast_months : Bd "feast_months" "feast_months" s_feast_months ["calendar", "feast", "year"] := fun _ _ _ _ _ _ us hl => match us, hl with | [_, _, _], _ => rfl
abbrev s_feast_days : Stmt := top 50
theorem c_feast_days : FnScope ["calendar", "feast", "year", "months", "k"] ["calendar", "feast", "year"] (defScope s_feast_days) := ⟨rfl, rfl, rfl, by decide +kernel, rfl, by decide +kernel, by decide +kernel⟩
theorem b_feast_days : Bd "feast_days" "feast_days" s_feast_days ["calendar", "feast", "year"] := fun _ _ _ _ _ _ us hl => match us, hl with | [_, _, _], _ => rfl
abbrev s_Feasts_init : Stmt := inClass (top 51) 0
theorem c_Feasts_init : FnScope ["self", "calendar"] ["self", "calendar"] (defScope s_Feasts_init) := ⟨rfl, rfl, rfl, by decide +kernel, rfl, by decide +kernel, by decide +kernel⟩
theorem b_Feasts_init : Bd "__init__" "Feasts.__init__" s_Feasts_init ["self", "calendar"] := fun _ _ _ _ _ _ us hl => match us, hl with | [_, _], _ => rfl
abbrev s_Feasts_add : Stmt := inClass (top 51) 1
theorem c_Feasts_add : FnScope ["self", "feast"] ["self", "feast"] (defScope s_Feasts_add) := ⟨rfl, rfl, rfl, by decide +kernel, rfl, by decide +kernel, by decide +kernel⟩
theorem b_Feasts_add : Bd "add" "Feasts.add" s_Feasts_add ["self", "feast"] := fun _ _ _ _ _ _ us hl => match us, hl with | [_, _], _ => rfl
abbrev s_Feasts_drop : Stmt := inClass (top 51) 2
theorem c_Feasts_drop : FnScope ["self", "name"] ["self", "name"] (defScope s_Feasts_drop) := ⟨rfl, rfl, rfl, by decide +kernel, rfl, by decide +kernel, by decide +kernel⟩
theorem b_Feasts_drop : Bd "drop" "Feasts.drop" s_Feasts_drop ["self", "name"] := fun _ _ _ _ _ _ us hl => match us, hl with | [_, _], _ => rfl
abbrev s_Feasts_refuse_missing : Stmt := inClass (top 51) 3
theorem c_Feasts_refuse_missing : FnScope ["self", "name"] ["self", "name"] (defScope s_Feasts_refuse_missing) := ⟨rfl, rfl, rfl, by decide +kernel, rfl, by decide +kernel, by decide +kernel⟩
theorem b_Feasts_refuse_missing : Bd "refuse_missing" "Feasts.refuse_missing" s_Feasts_refuse_missing ["self", "name"] := fun _ _ _ _ _ _ us hl => match us, hl with | [_, _], _ => rfl
abbrev s_Feasts_called : Stmt := inClass (top 51) 4
theorem c_Feasts_called : FnScope ["self"] ["self"] (defScope s_Feasts_called) := ⟨rfl, rfl, rfl, by decide +kernel, rfl, by decide +kernel, by decide +kernel⟩
theorem b_Feasts_called : Bd "called" "Feasts.called" s_Feasts_called ["self"] := fun _ _ _ _ _ _ us hl => match us, hl with | [_], _ => rfl
abbrev s_Feasts_on_day : Stmt := inClass (top 51) 5
theorem c_Feasts_on_day : FnScope ["self", "day", "there", "name"] ["self", "day"] (defScope s_Feasts_on_day) := ⟨rfl, rfl, rfl, by decide +kernel, rfl, by decide +kernel, by decide +kernel⟩
theorem b_Feasts_on_day : Bd "on_day" "Feasts.on_day" s_Feasts_on_day ["self", "day"] := fun _ _ _ _ _ _ us hl => match us, hl with | [_, _], _ => rfl
abbrev s_Feasts_in_year : Stmt := inClass (top 51) 6
theorem c_Feasts_in_year : FnScope ["self", "year", "name", "feast", "day"] ["self", "year"] (defScope s_Feasts_in_year) := ⟨rfl, rfl, rfl, by decide +kernel, rfl, by decide +kernel, by decide +kernel⟩
theorem b_Feasts_in_year : Bd "in_year" "Feasts.in_year" s_Feasts_in_year ["self", "year"] := fun _ _ _ _ _ _ us hl => match us, hl with | [_, _], _ => rfl
abbrev s_Feasts_next_feast : Stmt := inClass (top 51) 7
theorem c_Feasts_next_feast : FnScope ["self", "day", "name", "year", "rows", "row"] ["self", "day", "name"] (defScope s_Feasts_next_feast) := ⟨rfl, rfl, rfl, by decide +kernel, rfl, by decide +kernel, by decide +kernel⟩
abbrev s_l_draws : Stmt := top 53
theorem c_l_draws : FnScope ["_law_cell", "_law_cut", "_law_k"] ["_law_cell"] (defScope s_l_draws) := ⟨rfl, rfl, rfl, by decide +kernel, rfl, by decide +kernel, by decide +kernel⟩
theorem b_l_draws : Bd "_law_draws" "_law_draws" s_l_draws ["_law_cell"] := fun _ _ _ _ _ _ us hl => match us, hl with | [_], _ => rfl
abbrev s_l_next : Stmt := top 54
theorem c_l_next : FnScope ["_law_draws_here", "_law_k", "_law_number"] ["_law_draws_here"] (defScope s_l_next) := ⟨rfl, rfl, rfl, by decide +kernel, rfl, by decide +kernel, by decide +kernel⟩
theorem b_l_next : Bd "_law_next" "_law_next" s_l_next ["_law_draws_here"] := fun _ _ _ _ _ _ us hl => match us, hl with | [_], _ => rfl
abbrev s_l_low : Stmt := top 55
theorem c_l_low : FnScope ["_law_top", "_law_bottom", "_law_one", "_law_two"] ["_law_top", "_law_bottom"] (defScope s_l_low) := ⟨rfl, rfl, rfl, by decide +kernel, rfl, by decide +kernel, by decide +kernel⟩
theorem b_l_low : Bd "_law_low" "_law_low" s_l_low ["_law_top", "_law_bottom"] := fun _ _ _ _ _ _ us hl => match us, hl with | [_, _], _ => rfl
abbrev s_l_plus : Stmt := top 56
theorem c_l_plus : FnScope ["_law_one", "_law_two"] ["_law_one", "_law_two"] (defScope s_l_plus) := ⟨rfl, rfl, rfl, by decide +kernel, rfl, by decide +kernel, by decide +kernel⟩
theorem b_l_plus : Bd "_law_plus" "_law_plus" s_l_plus ["_law_one", "_law_two"] := fun _ _ _ _ _ _ us hl => match us, hl with | [_, _], _ => rfl
abbrev s_l_by : Stmt := top 57
theorem c_l_by : FnScope ["_law_one", "_law_two"] ["_law_one", "_law_two"] (defScope s_l_by) := ⟨rfl, rfl, rfl, by decide +kernel, rfl, by decide +kernel, by decide +kernel⟩
theorem b_l_by : Bd "_law_by" "_law_by" s_l_by ["_law_one", "_law_two"] := fun _ _ _ _ _ _ us hl => match us, hl with | [_, _], _ => rfl
abbrev s_l_part : Stmt := top 58
theorem c_l_part : FnScope ["_law_draws_here", "_law_pick", "_law_bottom"] ["_law_draws_here"] (defScope s_l_part) := ⟨rfl, rfl, rfl, by decide +kernel, rfl, by decide +kernel, by decide +kernel⟩
theorem b_l_part : Bd "_law_part" "_law_part" s_l_part ["_law_draws_here"] := fun _ _ _ _ _ _ us hl => match us, hl with | [_], _ => rfl
abbrev s_l_moment : Stmt := top 59
theorem c_l_moment : FnScope ["_law_draws_here", "_law_part_here", "_law_pick", "_law_far"] ["_law_draws_here"] (defScope s_l_moment) := ⟨rfl, rfl, rfl, by decide +kernel, rfl, by decide +kernel, by decide +kernel⟩
theorem b_l_moment : Bd "_law_moment" "_law_moment" s_l_moment ["_law_draws_here"] := fun _ _ _ _ _ _ us hl => match us, hl with | [_], _ => rfl
abbrev s_l_four : Stmt := top 60
theorem c_l_four : FnScope ["_law_draws_here", "_law_pick", "_law_told", "_law_a_month", "_law_a_year", "_law_w", "_law_s", "_law_r"] ["_law_draws_here"] (defScope s_l_four) := ⟨rfl, rfl, rfl, by decide +kernel, rfl, by decide +kernel, by decide +kernel⟩
theorem b_l_four : Bd "_law_four" "_law_four" s_l_four ["_law_draws_here"] := fun _ _ _ _ _ _ us hl => match us, hl with | [_], _ => rfl
abbrev s_l_cal : Stmt := top 61
theorem c_l_cal : FnScope ["_law_draws_here", "_law_four_here", "_law_parts", "_law_one"] ["_law_draws_here", "_law_four_here"] (defScope s_l_cal) := ⟨rfl, rfl, rfl, by decide +kernel, rfl, by decide +kernel, by decide +kernel⟩
theorem b_l_cal : Bd "_law_cal" "_law_cal" s_l_cal ["_law_draws_here", "_law_four_here"] := fun _ _ _ _ _ _ us hl => match us, hl with | [_, _], _ => rfl
abbrev s_l_rows : Stmt := top 62
theorem c_l_rows : FnScope ["_law_book", "_law_first", "_law_many", "_law_rows_here", "_law_day", "_law_name"] ["_law_book", "_law_first", "_law_many"] (defScope s_l_rows) := ⟨rfl, rfl, rfl, by decide +kernel, rfl, by decide +kernel, by decide +kernel⟩
theorem b_l_rows : Bd "_law_rows" "_law_rows" s_l_rows ["_law_book", "_law_first", "_law_many"] := fun _ _ _ _ _ _ us hl => match us, hl with | [_, _, _], _ => rfl
abbrev s_l_right : Stmt := top 63
theorem c_l_right : FnScope ["_law_draws_here", "_law_calendar", "_law_book", "_law_feasts", "_law_k", "_law_pick", "_law_a_when", "_law_called", "_law_number", "_law_a_year", "_law_rows_here", "_law_day", "_law_name", "_law_more", "_law_feast", "_law_days", "_law_row"] ["_law_draws_here"] (defScope s_l_right) := ⟨rfl, rfl, rfl, by decide +kernel, rfl, by decide +kernel, by decide +kernel⟩
theorem b_l_right : Bd "_law_right" "_law_right" s_l_right ["_law_draws_here"] := fun _ _ _ _ _ _ us hl => match us, hl with | [_], _ => rfl
abbrev s_law : Stmt := top 64
theorem c_law : FnScope ["_law_script", "_law_cell"] ["_law_script"] (defScope s_law) := ⟨rfl, rfl, rfl, by decide +kernel, rfl, by decide +kernel, by decide +kernel⟩
theorem b_law : Bd "law" "law" s_law ["_law_script"] := fun _ _ _ _ _ _ us hl => match us, hl with | [_], _ => rfl
/-! ### the greatest common divisor -/
def spGcd : Sp := fun vs H Q _ => ∃ a b : Int, vs = [.int a, .int b] ∧ Q (.int (Int.gcd a b)) H
def mu2 (i : Nat) : L2.St → Hp → Nat := fun σ _ => match σ[i]? with
  | some (some (.int b)) => b.natAbs
  | _ => 0
theorem abs_gcd {a : Int} (c : Int) (h : Int.gcd a 0 = c) : (if a < 0 then -a else a) = c := by
  rw [Int.gcd_zero_right] at h
  split <;> omega
section
variable {P : Program} {w : World} {K : PySem.W.Frag} {mg : Str → Option Value} {base : Heap}
theorem ok_gcd (D : Df K mg "common_divisor" s_common_divisor []) (hab : mg "abs" = none) : Ca P w K mg base CX0 1 "common_divisor" s_common_divisor [] ["one", "two"] spGcd := by
  refine ca0 (k := 0) D c_common_divisor (fun vs H Q E h => ?_) fun f cdv A outer s H vs Q E hr h => ?_
  · obtain ⟨a, b, rfl, _⟩ := h
    rfl
  · obtain ⟨a, b, rfl, q⟩ := h
    refine ⟨_, pss_cons (ps_while PassesOwn.never (pt_cmpR op_ne (pv 1) pe_int (nomark _)) (pss_one (ps_par (i := 0) (j := 1) rfl c_common_divisor.nd rfl rfl (by decide) rfl rfl (pa_cons (pv 1) (pa_cons (pe_op op_modN (pv 0) (pv 1)) pa_nil)) rfl)))
      (pss_one (ps_ret (pe_callB call_abs rfl hab (by decide +kernel) (pa_cons (pv 0) pa_nil)))), ?_⟩
    refine while_by (fun σ H' => ∃ a' b' : Int, σ = [some (.int a'), some (.int b')] ∧ Int.gcd a' b' = Int.gcd a b ∧ H' = H) (mu2 1) ⟨a, b, rfl, rfl, rfl⟩ ?_ (fun σ H' R R' hq ⟨v, h1, h2, k, h3, h4⟩ => ⟨v, h1, h2, k, h3, hq _ _ h4⟩)
    rintro σ H' ⟨a', b', rfl, hg, rfl⟩
    refine ⟨_, rfl, rfl, _, rfl, ?_⟩
    by_cases hb : b' = 0
    · subst hb
      refine iteF ?_
      refine ⟨_, rfl, a', rfl, ?_⟩
      rw [abs_gcd _ (congrArg _ hg)]
      exact q
    · rw [show (!decide (V.int b' = V.int 0)) = true by simpa using hb]
      refine iteT ?_
      refine ⟨_, rfl, _, rfl, _, rfl, _, _, rfl, rfl, hb, _, _, rfl, ⟨b', a'.fmod b', rfl, ?_, rfl⟩, ?_⟩
      · rw [gcd_fmod]
        exact hg
      · exact fmod_lt a' hb
end
/-! ### lowest terms, as the law makes them -/
def spLow : Sp := fun vs H Q _ => ∃ t b : Int, vs = [.int t, .int b] ∧ b ≠ 0 ∧ Sz 8800 t ∧ Sz 8800 b ∧ ∀ p, H p = none → Q (.ref p) (upd H p (.tup [.int (Rat.divInt t b).num, .int (Rat.divInt t b).den]))
theorem gcd_sz {t b : Int} (h : b ≠ 0) (hb : Sz 8800 b) : Sz 8800 (Int.gcd t b : Int) := by
  unfold Sz
  rw [Int.natAbs_natCast]
  exact Nat.lt_of_le_of_lt (Nat.le_of_dvd (by omega) (Int.gcd_dvd_natAbs_right t b)) hb
theorem gs_sz {t b : Int} (h : b ≠ 0) (hb : Sz 8800 b) : Sz 8900 (gs t b) := by
  unfold gs
  split
  · exact (gcd_sz h hb).neg.mono (by decide)
  · exact (gcd_sz h hb).mono (by decide)
section
variable {P : Program} {w : World} {K : PySem.W.Frag} {mg : Str → Option Value} {base : Heap}
theorem ok_low (D : Df K mg "_law_low" s_l_low []) (hab : mg "abs" = none) : Ca P w K mg base CX0 1 "_law_low" s_l_low [] ["_law_top", "_law_bottom"] spLow := by
  refine ca0 (k := 0) D c_l_low (fun vs H Q E h => ?_) fun f cdv A outer s H vs Q E hr h => ?_
  · obtain ⟨t, b, rfl, _⟩ := h
    rfl
  · obtain ⟨t, b, rfl, hb, zt, zb, q⟩ := h
    refine ⟨_, pss_cons (ps_par (i := 2) (j := 3) rfl c_l_low.nd rfl rfl (by decide) rfl rfl (pa_cons (pe_callB call_abs rfl hab (by decide +kernel) (pa_cons (pv 0) pa_nil)) (pa_cons (pe_callB call_abs rfl hab (by decide +kernel) (pa_cons (pv 1) pa_nil)) pa_nil)) rfl)
      (pss_cons (ps_while PassesOwn.never (pt_cmpR op_gt (pv 3) pe_int (nomark _)) (pss_one (ps_par (i := 2) (j := 3) rfl c_l_low.nd rfl rfl (by decide) rfl rfl (pa_cons (pv 3) (pa_cons (pe_op op_mod (pv 2) (pv 3)) pa_nil)) rfl)))
      (pss_cons (ps_if (pt_cmpR op_lt (pv 1) pe_int (nomark _)) (pss_one (ps_set (i := 2) c_l_low.nd rfl (.inl rfl) (pe_op op_sub pe_int (pv 2)))) pss_nil)
      (pss_one (ps_ret (pe_tup (pa_cons (pe_op op_fdivA (pv 0) (pv 2)) (pa_cons (pe_op op_fdivA (pv 1) (pv 2)) pa_nil))))))), ?_⟩
    refine ⟨_, rfl, t, rfl, _, rfl, b, rfl, _, _, rfl, ?_⟩
    refine while_by (fun σ H' => ∃ c d : Int, σ = [some (.int t), some (.int b), some (.int c), some (.int d)] ∧ 0 ≤ c ∧ 0 ≤ d ∧ Int.gcd c d = Int.gcd t b ∧ H' = H) (mu2 3) ⟨_, _, rfl, ?_, ?_, ?_, rfl⟩ ?_ (fun σ H' R R' hq ⟨v, h1, i, j, h2, h3, k, h4, h5⟩ => ⟨v, h1, i, j, h2, h3, k, h4, hq _ _ h5⟩)
    · split <;> omega
    · split <;> omega
    · have e : ∀ x : Int, (if x < 0 then -x else x) = (x.natAbs : Int) := fun x => by split <;> omega
      rw [e, e]
      show Nat.gcd _ _ = Nat.gcd _ _
      rw [Int.natAbs_natCast, Int.natAbs_natCast]
    rintro σ H' ⟨c, d, rfl, hc, hd, hg, rfl⟩
    refine ⟨_, rfl, _, _, rfl, rfl, _, rfl, ?_⟩
    by_cases h0 : 0 < d
    · rw [decide_eq_true h0]
      refine iteT ?_
      refine ⟨_, rfl, _, rfl, _, rfl, _, _, rfl, rfl, h0, _, _, rfl, ⟨d, c % d, rfl, hd, Int.emod_nonneg _ (by omega), ?_, rfl⟩, ?_⟩
      · rw [gcd_emod']
        exact hg
      · have h1 := Int.emod_nonneg c (show d ≠ 0 by omega)
        have h2 := Int.emod_lt_of_pos c h0
        show (c % d).natAbs < d.natAbs
        omega
    · rw [decide_eq_false h0]
      refine iteF ?_
      have d0 : d = 0 := by omega
      subst d0
      have ec : c = (Int.gcd t b : Int) := by
        rw [← hg, Int.gcd_zero_right]
        omega
      subst ec
      have fin : ∀ σ' : L2.St, σ' = [some (.int t), some (.int b), some (.int (gs t b)), some (.int 0)] → (tRet (tTup (tCons (tOp (rI CDivA fun i j => .int (i.fdiv j)) (tVar 0) (tVar 2)) (tCons (tOp (rI CDivA fun i j => .int (i.fdiv j)) (tVar 1) (tVar 2)) tNil)))) { nx := fun _ H' => Q .non H', rt := Q } σ' H' := by
        rintro σ' rfl
        refine ⟨_, rfl, _, rfl, _, _, rfl, rfl, ⟨gs_ne hb, gs_sz hb zb⟩, _, rfl, _, rfl, _, _, rfl, rfl, ⟨gs_ne hb, gs_sz hb zb⟩, (by show 2 ≤ sizeLine; decide), fun p hp => ?_⟩
        have z := q p hp
        rw [← low_num hb, ← low_den hb] at z
        exact z
      refine ⟨_, rfl, _, _, rfl, rfl, _, rfl, ?_⟩
      by_cases hn : b < 0
      · rw [decide_eq_true hn]
        refine iteT ?_
        refine ⟨_, rfl, _, _, rfl, rfl, fin _ ?_⟩
        show [some (V.int t), some (V.int b), some (V.int (0 - (Int.gcd t b : Int))), some (V.int 0)] = _
        unfold gs
        rw [if_pos hn, Int.zero_sub]
      · rw [decide_eq_false hn]
        refine iteF (fin _ ?_)
        unfold gs
        rw [if_neg hn]
end
/-! ### the law's draws -/
theorem md {j : Int} (h : 0 < j := by decide) : 0 < j := h
/-- at l stand draws, of which at most n were taken -/
def Dr (H : Hp) (l : Addr) (n : Nat) : Prop := ∃ (d k : Int) (f : Bool), H l = some (.lst [.int d, .int k, .bl f]) ∧ 0 ≤ k ∧ k ≤ n
/-- all but what stands at l is as it was -/
def But (l : Addr) (H H' : Hp) : Prop := ∀ b o, b ≠ l → H b = some o → H' b = some o
theorem But.refl {l : Addr} {H : Hp} : But l H H := fun _ _ _ h => h
theorem But.trans {l : Addr} {H H1 H2 : Hp} (a : But l H H1) (b : But l H1 H2) : But l H H2 := fun c o hc h => b c o hc (a c o hc h)
theorem But.same {l : Addr} {H H1 : Hp} (a : Same H H1) : But l H H1 := fun c o _ h => a c o h
theorem But.upd {l : Addr} {H H1 : Hp} {p : Addr} {o : HO} (a : But l H H1) (h : H1 p = none) : But l H (upd H1 p o) := fun c u hc e => by
  rw [upd_ne (ne_of_none (a c u hc e) h)]
  exact a c u hc e
theorem But.tup {l p : Addr} {H H1 : Hp} {n : Nat} {xs : List V} (a : But l H H1) (d : Dr H l n) (h : H p = some (.tup xs)) : H1 p = some (.tup xs) := by
  obtain ⟨_, _, _, hl, _⟩ := d
  exact a _ _ (ne_of h hl (by intro z; cases z)) h
theorem But.ins {l p C dx : Addr} {H H1 : Hp} {n : Nat} {fs : List (Str × V)} (a : But l H H1) (d : Dr H l n) (h : H p = some (.ins C dx fs)) : H1 p = some (.ins C dx fs) := by
  obtain ⟨_, _, _, hl, _⟩ := d
  exact a _ _ (ne_of h hl (by intro z; cases z)) h
theorem Same.upd {H H1 : Hp} {p : Addr} {o : HO} (a : Same H H1) (h : H1 p = none) : Same H (upd H1 p o) := fun c u e => by
  rw [upd_ne (ne_of_none (a c u e) h)]
  exact a c u e
theorem Same.new {H : Hp} {p : Addr} {o : HO} (h : H p = none) : Same H (L2.upd H p o) := Same.upd (Same.refl H) h
theorem Dr.same {H H1 : Hp} {l : Addr} {n m : Nat} (d : Dr H l n) (s : Same H H1) (h : n ≤ m) : Dr H1 l m := by
  obtain ⟨d, k, f, hl, h1, h2⟩ := d
  exact ⟨d, k, f, s _ _ hl, h1, by omega⟩
theorem Dr.mono {H : Hp} {l : Addr} {n m : Nat} (d : Dr H l n) (h : n ≤ m) : Dr H l m := d.same (Same.refl H) h
theorem Dr.new {H : Hp} {l p : Addr} {n : Nat} {o : HO} (d : Dr H l n) (h : H p = none) : Dr (L2.upd H p o) l n := d.same (Same.new h) (Nat.le_refl _)
def spDraws : Sp := fun vs H Q _ => ∃ c : Int, vs = [.int c] ∧ ∀ p H', H p = none → Same H H' → Dr H' p 0 → Q (.ref p) H'
def spNext : Sp := fun vs H Q _ => ∃ (l : Addr) (n : Nat), vs = [.ref l] ∧ Dr H l n ∧ n ≤ 1000000 ∧ ∀ v H', 0 ≤ v → v < 306783369 → But l H H' → Dr H' l (n + 1) → Q (.int v) H'
section
variable {P : Program} {w : World} {K : PySem.W.Frag} {mg : Str → Option Value} {base : Heap}
theorem ok_draws (D : Df K mg "_law_draws" s_l_draws []) (hra : mg "range" = none) : Ca P w K mg base CX0 1 "_law_draws" s_l_draws [] ["_law_cell"] spDraws := by
  refine ca0 (k := 0) D c_l_draws (fun vs H Q E h => ?_) fun f cdv A outer s H vs Q E hr h => ?_
  · obtain ⟨c, rfl, _⟩ := h
    rfl
  · obtain ⟨c, rfl, q⟩ := h
    refine ⟨_, pss_cons (ps_set (i := 1) c_l_draws.nd rfl (.inl rfl) (pe_op op_pow pe_int pe_int))
      (pss_cons (ps_for PassesOwn.never rfl (pi_range1 rfl hra (pa_cons pe_int pa_nil)) (pg_name (i := 2) c_l_draws.nd rfl (.inl rfl)) (pss_one (ps_set (i := 1) c_l_draws.nd rfl (.inl rfl) (pe_op op_mulA (pv 1) (pv 1)))))
      (pss_one (ps_ret (pe_lst (pa_cons (pe_op op_mod (pv 0) (pv 1)) (pa_cons pe_int (pa_cons (pe_cmpR op_ge (pv 0) (pe_op op_pow pe_int pe_int) (nomark _)) pa_nil))))))), ?_⟩
    refine ⟨_, _, rfl, rfl, ⟨by decide, by decide, by decide⟩, 7, rfl, by decide, by decide, ?_⟩
    refine for_range (n := 7) (fun i σ H' => ∃ (z : Int) (v : Option V), σ = [some (.int c), some (.int z), v] ∧ 0 < z ∧ Sz (200 * 2 ^ i) z ∧ H' = H) ⟨_, _, rfl, by decide, (by show (10 ^ 60 : Int).natAbs < 2 ^ (200 * 2 ^ 0); decide), rfl⟩ ?_ ?_
    · rintro i σ H' hi ⟨z, v, rfl, h0, hz, rfl⟩
      have l1 : 2 ^ i ≤ 2 ^ 6 := Nat.pow_le_pow_right (by decide) (by omega)
      have hz' : Sz 100000 z := hz.mono (Nat.le_trans (Nat.mul_le_mul_left 200 l1) (by decide))
      refine ⟨_, rfl, _, rfl, _, _, rfl, rfl, ⟨hz', hz'⟩, ⟨z * z, _, rfl, Int.mul_pos h0 h0, ?_, rfl⟩⟩
      exact (hz.mul hz).mono (by rw [Nat.pow_succ]; omega)
    · rintro σ H' ⟨z, v, rfl, h0, hz, rfl⟩
      refine ⟨_, rfl, _, rfl, _, _, rfl, rfl, h0, _, rfl, _, _, rfl, rfl, ⟨by decide, by decide, by decide⟩, _, _, rfl, rfl, (by show 3 ≤ sizeLine; decide), fun p hp => ?_⟩
      exact q p _ hp (Same.new hp) ⟨_, _, _, upd_same, by decide, by decide⟩
end
section
variable {P : Program} {w : World} {K : PySem.W.Frag} {mg : Str → Option Value} {base : Heap}
theorem ok_next (D : Df K mg "_law_next" s_l_next []) : Ca P w K mg base CX0 1 "_law_next" s_l_next [] ["_law_draws_here"] spNext := by
  refine ca0 (k := 0) D c_l_next (fun vs H Q E h => ?_) fun f cdv A outer s H vs Q E hr h => ?_
  · obtain ⟨l, n, rfl, _⟩ := h
    rfl
  · obtain ⟨l, n, rfl, ⟨d, k, fl, hl, k0, k1⟩, hn, q⟩ := h
    refine ⟨_, pss_cons (ps_asg (pe_op op_add (pe_ix ix_list (pv 0) pe_int (fun _ _ => rfl)) pe_int) (pg_sub (pv 0) pe_int set_list))
      (pss_cons (ps_set (i := 1) c_l_next.nd rfl (.inl rfl) (pe_ix ix_list (pv 0) pe_int (fun _ _ => rfl)))
      (pss_cons (ps_if (pt_val (pe_ix ix_list (pv 0) pe_int (fun _ _ => rfl)))
        (pss_cons (ps_set (i := 2) c_l_next.nd rfl (.inl rfl) (pe_op op_mod (pe_ix ix_list (pv 0) pe_int (fun _ _ => rfl)) (pe_op op_pow pe_int pe_int)))
        (pss_cons (ps_asg (pe_op op_fdiv (pe_ix ix_list (pv 0) pe_int (fun _ _ => rfl)) (pe_op op_pow pe_int pe_int)) (pg_sub (pv 0) pe_int set_list))
        (pss_one (ps_ret (pv 2))))) pss_nil)
      (pss_cons (ps_set (i := 2) c_l_next.nd rfl (.inl rfl) (pe_op op_mod (pe_op op_mul (pe_op op_add (pe_op op_add (pe_op op_mod (pe_ix ix_list (pv 0) pe_int (fun _ _ => rfl)) pe_int) (pe_op op_mul (pe_op op_mul (pv 1) (pv 1)) pe_int)) (pv 1)) pe_int) pe_int))
      (pss_cons (ps_set (i := 2) c_l_next.nd rfl (.inl rfl) (pe_op op_mod (pe_op op_mul (pv 2) (pv 2)) pe_int))
      (pss_one (ps_ret (pe_op op_fdiv (pe_op op_mod (pe_op op_mul (pv 2) (pe_op op_add (pv 2) pe_int)) pe_int) pe_int))))))), ?_⟩
    refine ⟨_, rfl, l, _, _, _, rfl, rfl, SqL.of hl, rfl, _, _, rfl, rfl, _, rfl, l, _, _, _, rfl, rfl, hl, rfl, ?_⟩
    refine ⟨_, rfl, l, _, _, _, rfl, rfl, SqL.of upd_same, rfl, ?_⟩
    refine ⟨_, rfl, l, _, _, _, rfl, rfl, SqL.of upd_same, rfl, _, rfl, ?_⟩
    cases fl with
    | true =>
      refine iteT ?_
      refine ⟨_, rfl, l, _, _, _, rfl, rfl, SqL.of upd_same, rfl, _, _, rfl, rfl, ⟨by decide, by decide, by decide⟩, _, _, rfl, rfl, md, ?_⟩
      refine ⟨_, rfl, l, _, _, _, rfl, rfl, SqL.of upd_same, rfl, _, _, rfl, rfl, ⟨by decide, by decide, by decide⟩, _, _, rfl, rfl, ⟨by decide, by decide⟩, _, rfl, l, _, _, _, rfl, rfl, upd_same, rfl, ?_⟩
      refine ⟨_, rfl, ?_⟩
      have h1 := Int.emod_nonneg d (show (1000000 : Int) ≠ 0 by decide)
      have h2 := Int.emod_lt_of_pos d (show (0 : Int) < 1000000 by decide)
      refine q (d % 1000000) _ h1 (by omega) (fun b o hb e => ?_) ⟨_, _, _, upd_same, by omega, by omega⟩
      rw [upd_ne hb, upd_ne hb]
      exact e
    | false =>
      refine iteF ?_
      have g1 := Int.emod_nonneg ((d % 1000003 + (k + 1) * (k + 1) * 7919 + (k + 1)) * 48271) (show (2147483629 : Int) ≠ 0 by decide)
      have g2 := Int.emod_lt_of_pos ((d % 1000003 + (k + 1) * (k + 1) * 7919 + (k + 1)) * 48271) (show (0 : Int) < 2147483629 by decide)
      refine ⟨_, rfl, l, _, _, _, rfl, rfl, SqL.of upd_same, rfl, _, _, rfl, rfl, md, _, rfl, _, rfl, _, _, rfl, rfl, .inl ⟨by omega, by omega⟩, _, _, rfl, rfl, .inr ⟨by decide, by decide⟩, _, _, rfl, rfl, _, rfl, _, _, rfl, rfl, _, _, rfl, rfl, .inr ⟨by decide, by decide⟩, _, _, rfl, rfl, md, ?_⟩
      refine ⟨_, rfl, _, rfl, _, _, rfl, rfl, .inl ⟨Int.lt_of_lt_of_le (by decide) g1, Int.lt_trans g2 (by decide)⟩, _, _, rfl, rfl, md, ?_⟩
      generalize hz : ((d % 1000003 + (k + 1) * (k + 1) * 7919 + (k + 1)) * 48271 % 2147483629) * ((d % 1000003 + (k + 1) * (k + 1) * 7919 + (k + 1)) * 48271 % 2147483629) = z
      have i1 := Int.emod_nonneg z (show (2147483587 : Int) ≠ 0 by decide)
      have i2 := Int.emod_lt_of_pos z (show (0 : Int) < 2147483587 by decide)
      refine ⟨_, rfl, _, rfl, _, _, rfl, rfl, _, _, rfl, rfl, .inl ⟨Int.lt_of_lt_of_le (by decide) i1, Int.lt_trans i2 (by decide)⟩, _, _, rfl, rfl, md, _, _, rfl, rfl, ⟨by decide, by decide⟩, ?_⟩
      have j1 := Int.emod_nonneg (z % 2147483587 * (z % 2147483587 + 2)) (show (2147483579 : Int) ≠ 0 by decide)
      have j2 := Int.emod_lt_of_pos (z % 2147483587 * (z % 2147483587 + 2)) (show (0 : Int) < 2147483579 by decide)
      refine q (z % 2147483587 * (z % 2147483587 + 2) % 2147483579 / 7) _ (by omega) (by omega) (fun b o hb e => ?_) ⟨_, _, _, upd_same, by omega, by omega⟩
      rw [upd_ne hb]
      exact e
end
/-! ### Share -/
def sf (t b : Int) : List (Str × V) := putF "bottom" (.int b) (putF "top" (.int t) [])
theorem tb_ : ¬ (("top" : Str) = "bottom") := by decide +kernel
theorem sf_eq (t b : Int) : sf t b = ([("top", V.int t), ("bottom", V.int b)] : List (Str × V)) := by
  show (if ("top" : Str) = "bottom" then [(("top" : Str), V.int b)] else (("top" : Str), V.int t) :: putF "bottom" (V.int b) []) = _
  rw [if_neg tb_]
  rfl
theorem sf_top (t b : Int) : (sf t b).lookup ("top" : Str) = some (.int t) := by
  unfold sf
  rw [lookup_putF, if_neg tb_, lookup_putF, if_pos rfl]
theorem sf_bottom (t b : Int) : (sf t b).lookup ("bottom" : Str) = some (.int b) := by
  unfold sf
  rw [lookup_putF, if_pos rfl]
/-- what the top says of the class -/
structure ShT (K : PySem.W.Frag) (C : Addr) : Prop where
  cl : Cls K C
  nT : NoAttr K C "top"
  nB : NoAttr K C "bottom"
/-- at p a Share of q -/
def Sh (C : Addr) (H : Hp) (p : Addr) (q : Rat) : Prop := ∃ dx, H p = some (.ins C dx (sf q.num q.den))
theorem Sh.same {C p : Addr} {H H1 : Hp} {q : Rat} (h : Sh C H p q) (s : Same H H1) : Sh C H1 p q := by
  obtain ⟨dx, e⟩ := h
  exact ⟨dx, s _ _ e⟩
/-- Share's __init__, with no bottom of 0 -/
def spShI (C : Addr) : Sp := fun vs H Q _ => ∃ (p dx : Addr) (t b : Int), vs = [.ref p, .int t, .int b] ∧ H p = some (.ins C dx []) ∧ b ≠ 0 ∧ Sz 8800 t ∧ Sz 8800 b ∧
  Q .non (upd H p (.ins C dx (sf (Rat.divInt t b).num (Rat.divInt t b).den)))
section
variable {P : Program} {w : World} {K : PySem.W.Frag} {mg : Str → Option Value} {base : Heap} {C : Addr}
theorem ok_shI (D : Di K mg "Share" C "Share.__init__" s_Share_init [.int 1]) (T : ShT K C) (g : Ca P w K mg base CX0 1 "common_divisor" s_common_divisor [] ["one", "two"] spGcd) : Ci P w K mg base CX0 2 "Share" C "Share.__init__" s_Share_init [.int 1] ["self", "top", "bottom"] (spShI C) := by
  refine ci0 (k := 1) D c_Share_init (fun vs H Q E h => ?_) fun f cdv A outer s H vs Q E hr h => ?_
  · obtain ⟨p, dx, t, b, rfl, _⟩ := h
    rfl
  · obtain ⟨p, dx, t, b, rfl, hp, hb, zt, zb, q⟩ := h
    refine ⟨_, pss_cons (ps_if (pt_cmpR op_eq (pv 2) pe_int (nomark _)) (pss_one ps_never) pss_nil)
      (pss_cons (ps_set (i := 3) c_Share_init.nd rfl (.inl rfl) (pe_ca g b_common_divisor hr (by decide) pass0 rfl (pa_cons (pv 1) (pa_cons (pv 2) pa_nil))))
      (pss_cons (ps_if (pt_cmpR op_lt (pv 2) pe_int (nomark _)) (pss_one (ps_set (i := 3) c_Share_init.nd rfl (.inl rfl) (pe_un un_neg (pv 3)))) pss_nil)
      (pss_cons (ps_fld (pv 0) (pe_op op_fdivA (pv 1) (pv 3)) rfl) (pss_one (ps_fld (pv 0) (pe_op op_fdivA (pv 2) (pv 3)) rfl))))), ?_⟩
    refine ⟨_, rfl, rfl, _, rfl, ?_⟩
    rw [decide_eq_false (show ¬ V.int b = V.int 0 from fun z => hb (V.int.inj z))]
    refine iteF ?_
    refine ⟨_, rfl, _, rfl, t, b, rfl, ?_⟩
    have fin : ∀ σ' : L2.St, σ' = [some (.ref p), some (.int t), some (.int b), some (.int (gs t b))] →
        tSeq (sFld K (tVar 0) (tOp (rI CDivA fun i j => .int (i.fdiv j)) (tVar 1) (tVar 3)) "top") (sFld K (tVar 0) (tOp (rI CDivA fun i j => .int (i.fdiv j)) (tVar 2) (tVar 3)) "bottom") { nx := fun _ H' => Q .non H', rt := Q } σ' H := by
      rintro σ' rfl
      refine ⟨_, rfl, _, rfl, _, _, rfl, rfl, ⟨gs_ne hb, gs_sz hb zb⟩, _, rfl, p, C, dx, _, rfl, hp, T.cl, T.nT, (by show 0 < 1000; decide), ?_⟩
      refine ⟨_, rfl, _, rfl, _, _, rfl, rfl, ⟨gs_ne hb, gs_sz hb zb⟩, _, rfl, p, C, dx, _, rfl, upd_same, T.cl, T.nB, (by show 1 < 1000; decide), ?_⟩
      rw [upd_upd]
      rw [← low_num hb, ← low_den hb] at q
      exact q
    refine ⟨_, rfl, _, _, rfl, rfl, _, rfl, ?_⟩
    by_cases hn : b < 0
    · rw [decide_eq_true hn]
      refine iteT ?_
      refine ⟨_, rfl, _, rfl, fin _ ?_⟩
      unfold gs
      rw [if_pos hn]
      rfl
    · rw [decide_eq_false hn]
      refine iteF (fin _ ?_)
      unfold gs
      rw [if_neg hn]
      rfl
theorem bd_Share2 : Bd1 "__init__" "Share.__init__" s_Share_init ["self", "top", "bottom"] 3 1 1 := fun _ _ _ _ _ _ _ us its hu hi => match us, hu, its, hi with | [_, _, _], _, [_], _ => ⟨_, rfl, rfl⟩
theorem bd_Share1 : Bd1 "__init__" "Share.__init__" s_Share_init ["self", "top", "bottom"] 2 0 1 := fun _ _ _ _ _ _ _ us its hu hi => match us, hu, its, hi with | [_, _], _, [_], _ => ⟨_, rfl, rfl⟩
end
/-- a new Share, read as its maker's caller wants it -/
theorem made_sh {C : Addr} {H : Hp} {R : Addr → Hp → Prop} {E : XK} {t b : Int} (hb : b ≠ 0) (zt : Sz 8800 t) (zb : Sz 8800 b) (h : ∀ p H', H p = none → Same H H' → Sh C H' p (Rat.divInt t b) → R p H') :
    ∀ x dx, H x = none → H dx = none → dx ≠ x → spShI C [.ref x, .int t, .int b] (upd (upd H dx (.own x)) x (.ins C dx [])) (fun v H2 => v = .non ∧ R x H2) E := by
  intro x dx hx hd ne
  refine ⟨x, dx, t, b, rfl, upd_same, hb, zt, zb, rfl, ?_⟩
  rw [upd_upd]
  refine h x _ hx (Same.upd (Same.new hd) ?_) ⟨dx, upd_same⟩
  rw [upd_ne ne.symm]
  exact hx
/-! ### the module's functions over Shares and whole numbers -/
structure ShX (K : PySem.W.Frag) (C : Addr) : Prop extends ShT K C where
  ty : ∀ (H : Hp) (a dx : Addr) (fs : List (Str × V)), H a = some (.ins C dx fs) → TyX K H (.ref a) (.ref C)
  nInt : PySem.W.kitOne K (.type "int") (.ref C) = some false
theorem kit_self {K : PySem.W.Frag} {C : Addr} : PySem.W.kitOne K (.ref C) (.ref C) = some true := by
  unfold PySem.W.kitOne
  rw [if_pos (by simp)]
/-- v stands for q: a whole number, or a Share -/
def Rv (C : Addr) (H : Hp) (v : V) (q : Rat) : Prop := (∃ i : Int, v = .int i ∧ q = (i : Rat)) ∨ ∃ p, v = .ref p ∧ Sh C H p q
theorem Rv.same {C : Addr} {H H1 : Hp} {v : V} {q : Rat} (h : Rv C H v q) (s : Same H H1) : Rv C H1 v q := by
  rcases h with h | ⟨p, e, h⟩
  · exact .inl h
  · exact .inr ⟨p, e, h.same s⟩
theorem Rv.int {C : Addr} {H : Hp} {i : Int} : Rv C H (.int i) (i : Rat) := .inl ⟨i, rfl, rfl⟩
theorem Sh.rv {C p : Addr} {H : Hp} {q : Rat} (h : Sh C H p q) : Rv C H (.ref p) q := .inr ⟨p, rfl, h⟩
def spAs (C : Addr) : Sp := fun vs H Q _ => ∃ (v : V) (q : Rat), vs = [v] ∧ Rv C H v q ∧ Rz 8700 q ∧ ∀ p H', Same H H' → Sh C H' p q → Q (.ref p) H'
/-- a function of two that tells a Share -/
def spTwo (C : Addr) (ok : Rat → Rat → Prop) (g : Rat → Rat → Rat) : Sp := fun vs H Q _ => ∃ (v u : V) (a b : Rat), vs = [v, u] ∧ Rv C H v a ∧ Rv C H u b ∧ Rz 4300 a ∧ Rz 4300 b ∧ ok a b ∧ ∀ p H', H p = none → Same H H' → Sh C H' p (g a b) → Q (.ref p) H'
def spBefore (C : Addr) : Sp := fun vs H Q _ => ∃ (v u : V) (a b : Rat), vs = [v, u] ∧ Rv C H v a ∧ Rv C H u b ∧ Rz 4300 a ∧ Rz 4300 b ∧ ∀ H', Same H H' → Q (.bl (decide (a < b))) H'
def spOne (C : Addr) (g : Rat → Int) : Sp := fun vs H Q _ => ∃ (v : V) (a : Rat), vs = [v] ∧ Rv C H v a ∧ Rz 8700 a ∧ ∀ H', Same H H' → Q (.int (g a)) H'
theorem divInt_one (i : Int) : Rat.divInt i 1 = (i : Rat) := by
  have := Rat.num_divInt_den (i : Rat)
  exact this
section
variable {P : Program} {w : World} {K : PySem.W.Frag} {mg : Str → Option Value} {base : Heap} {C : Addr}
theorem ok_as (D : Df K mg "as_share" s_as_share []) (T : ShX K C) (his : mg "isinstance" = none) (hC : mg "Share" = some (.ref C)) (m : Ci P w K mg base CX0 2 "Share" C "Share.__init__" s_Share_init [.int 1] ["self", "top", "bottom"] (spShI C)) :
    Ca P w K mg base CX0 4 "as_share" s_as_share [] ["number"] (spAs C) := by
  refine ca0 (k := 3) D c_as_share (fun vs H Q E h => ?_) fun f cdv A outer s H vs Q E hr h => ?_
  · obtain ⟨v, q, rfl, _⟩ := h
    rfl
  · obtain ⟨v, a, rfl, hv, za, q⟩ := h
    refine ⟨_, pss_cons (ps_if (pt_val (pe_callB call_isi rfl his (by decide +kernel) (pa_cons (pv 0) (pa_cons (pe_glob (v := .ref C) rfl hC rfl) pa_nil)))) (pss_one (ps_ret (pv 0))) pss_nil)
      (pss_one (ps_ret (pe_ci m bd_Share1 (by decide) rfl hr (by decide) pass0 rfl (pa_cons (pv 0) pa_nil)))), ?_⟩
    rcases hv with ⟨i, rfl, rfl⟩ | ⟨p, rfl, hp⟩
    · refine ⟨_, rfl, _, _, _, _, _, rfl, .own C, .base (.int i), T.nInt, _, rfl, iteF ?_⟩
      refine ⟨_, rfl, ?_⟩
      refine made_sh (by decide) (za.1.mono (by decide)) (by show 1 < 2 ^ 8800; exact Nat.one_lt_two_pow (by decide)) fun p H' _ hs hp => ?_
      rw [divInt_one] at hp
      exact q p H' hs hp
    · obtain ⟨dx, e⟩ := id hp
      refine ⟨_, rfl, _, _, _, _, _, rfl, .own C, T.ty _ _ _ _ e, kit_self, _, rfl, iteT ?_⟩
      exact ⟨_, rfl, q p H (Same.refl H) hp⟩
/-- the fields of a Share at p -/
theorem rd_top {i : Nat} {σ : L2.St} {H : Hp} {p : Addr} {a : Rat} {Q : VK} (T : ShT K C) (hp : Sh C H p a) (e : σ[i]? = some (some (.ref p))) (q : Q (.int a.num) H) : tFld K (tVar i) "top" σ H Q := by
  obtain ⟨dx, h⟩ := hp
  exact ⟨_, e, p, C, dx, _, _, rfl, h, T.cl, T.nT, sf_top _ _, q⟩
theorem rd_bottom {i : Nat} {σ : L2.St} {H : Hp} {p : Addr} {a : Rat} {Q : VK} (T : ShT K C) (hp : Sh C H p a) (e : σ[i]? = some (some (.ref p))) (q : Q (.int a.den) H) : tFld K (tVar i) "bottom" σ H Q := by
  obtain ⟨dx, h⟩ := hp
  exact ⟨_, e, p, C, dx, _, _, rfl, h, T.cl, T.nB, sf_bottom _ _, q⟩
end
section
variable {P : Program} {w : World} {K : PySem.W.Frag} {mg : Str → Option Value} {base : Heap} {C : Addr}

theorem ok_plus (D : Df K mg "plus" s_plus []) (T : ShX K C) (a : Ca P w K mg base CX0 4 "as_share" s_as_share [] ["number"] (spAs C)) (m : Ci P w K mg base CX0 2 "Share" C "Share.__init__" s_Share_init [.int 1] ["self", "top", "bottom"] (spShI C)) :
    Ca P w K mg base CX0 5 "plus" s_plus [] ["one", "two"] (spTwo C (fun _ _ => True) (fun a b => a + b)) := by
  refine ca0 (k := 4) D c_plus (fun vs H Q E h => ?_) fun f cdv A outer s H vs Q E hr h => ?_
  · obtain ⟨v, u, x, y, rfl, _⟩ := h
    rfl
  · obtain ⟨v, u, x, y, rfl, hv, hu, zx, zy, ok, q⟩ := h
    refine ⟨_, pss_cons (ps_set (i := 2) c_plus.nd rfl (.inl rfl) (pe_ca a b_as_share hr (by decide) pass0 rfl (pa_cons (pv 0) pa_nil)))
      (pss_cons (ps_set (i := 3) c_plus.nd rfl (.inl rfl) (pe_ca a b_as_share hr (by decide) pass0 rfl (pa_cons (pv 1) pa_nil)))
      (pss_one (ps_ret (pe_ci m bd_Share2 (by decide) rfl hr (by decide) pass0 rfl (pa_cons (pe_op op_add (pe_op op_mulA (pe_fld (pv 2) rfl) (pe_fld (pv 3) rfl)) (pe_op op_mulA (pe_fld (pv 3) rfl) (pe_fld (pv 2) rfl))) (pa_cons (pe_op op_mulA (pe_fld (pv 2) rfl) (pe_fld (pv 3) rfl)) pa_nil)))))), ?_⟩
    refine ⟨_, rfl, v, x, rfl, hv, zx.mono (by decide), fun p1 H1 s1 h1 => ?_⟩
    refine ⟨_, rfl, u, y, rfl, hu.same s1, zy.mono (by decide), fun p2 H2 s2 h2 => ?_⟩
    obtain ⟨d1, e1⟩ := h1.same s2
    obtain ⟨d2, e2⟩ := h2
    have mz : ∀ i j : Int, Sz 4300 i → Sz 4300 j → CMulA i j := fun i j hi hj => ⟨hi.mono (by decide), hj.mono (by decide)⟩
    refine ⟨_, rfl, p1, C, d1, _, _, rfl, e1, T.cl, T.nT, sf_top _ _, _, rfl, p2, C, d2, _, _, rfl, e2, T.cl, T.nB, sf_bottom _ _, _, _, rfl, rfl, mz _ _ zx.1 zy.2, _, rfl, p2, C, d2, _, _, rfl, e2, T.cl, T.nT, sf_top _ _, _, rfl, p1, C, d1, _, _, rfl, e1, T.cl, T.nB, sf_bottom _ _, _, _, rfl, rfl, mz _ _ zy.1 zx.2, _, _, rfl, rfl, _, rfl, p1, C, d1, _, _, rfl, e1, T.cl, T.nB, sf_bottom _ _, _, rfl, p2, C, d2, _, _, rfl, e2, T.cl, T.nB, sf_bottom _ _, _, _, rfl, rfl, mz _ _ zx.2 zy.2, ?_⟩
    refine made_sh (Int.ne_of_gt (Int.mul_pos (den_pos x) (den_pos y))) (Sz.add (n := 8600) ((zx.1.mul zy.2).mono (by decide)) ((zy.1.mul zx.2).mono (by decide)) (by decide)) ((zx.2.mul zy.2).mono (by decide)) fun p H' hp hs hq => ?_
    refine q p H' ((s1.trans s2).free hp) (s1.trans (s2.trans hs)) ?_
    exact (congrArg (Sh C H' p) (add_eq x y)).mpr hq


theorem ok_minus (D : Df K mg "minus" s_minus []) (T : ShX K C) (a : Ca P w K mg base CX0 4 "as_share" s_as_share [] ["number"] (spAs C)) (m : Ci P w K mg base CX0 2 "Share" C "Share.__init__" s_Share_init [.int 1] ["self", "top", "bottom"] (spShI C)) :
    Ca P w K mg base CX0 5 "minus" s_minus [] ["one", "two"] (spTwo C (fun _ _ => True) (fun a b => a - b)) := by
  refine ca0 (k := 4) D c_minus (fun vs H Q E h => ?_) fun f cdv A outer s H vs Q E hr h => ?_
  · obtain ⟨v, u, x, y, rfl, _⟩ := h
    rfl
  · obtain ⟨v, u, x, y, rfl, hv, hu, zx, zy, ok, q⟩ := h
    refine ⟨_, pss_cons (ps_set (i := 2) c_minus.nd rfl (.inl rfl) (pe_ca a b_as_share hr (by decide) pass0 rfl (pa_cons (pv 0) pa_nil)))
      (pss_cons (ps_set (i := 3) c_minus.nd rfl (.inl rfl) (pe_ca a b_as_share hr (by decide) pass0 rfl (pa_cons (pv 1) pa_nil)))
      (pss_one (ps_ret (pe_ci m bd_Share2 (by decide) rfl hr (by decide) pass0 rfl (pa_cons (pe_op op_sub (pe_op op_mulA (pe_fld (pv 2) rfl) (pe_fld (pv 3) rfl)) (pe_op op_mulA (pe_fld (pv 3) rfl) (pe_fld (pv 2) rfl))) (pa_cons (pe_op op_mulA (pe_fld (pv 2) rfl) (pe_fld (pv 3) rfl)) pa_nil)))))), ?_⟩
    refine ⟨_, rfl, v, x, rfl, hv, zx.mono (by decide), fun p1 H1 s1 h1 => ?_⟩
    refine ⟨_, rfl, u, y, rfl, hu.same s1, zy.mono (by decide), fun p2 H2 s2 h2 => ?_⟩
    obtain ⟨d1, e1⟩ := h1.same s2
    obtain ⟨d2, e2⟩ := h2
    have mz : ∀ i j : Int, Sz 4300 i → Sz 4300 j → CMulA i j := fun i j hi hj => ⟨hi.mono (by decide), hj.mono (by decide)⟩
    refine ⟨_, rfl, p1, C, d1, _, _, rfl, e1, T.cl, T.nT, sf_top _ _, _, rfl, p2, C, d2, _, _, rfl, e2, T.cl, T.nB, sf_bottom _ _, _, _, rfl, rfl, mz _ _ zx.1 zy.2, _, rfl, p2, C, d2, _, _, rfl, e2, T.cl, T.nT, sf_top _ _, _, rfl, p1, C, d1, _, _, rfl, e1, T.cl, T.nB, sf_bottom _ _, _, _, rfl, rfl, mz _ _ zy.1 zx.2, _, _, rfl, rfl, _, rfl, p1, C, d1, _, _, rfl, e1, T.cl, T.nB, sf_bottom _ _, _, rfl, p2, C, d2, _, _, rfl, e2, T.cl, T.nB, sf_bottom _ _, _, _, rfl, rfl, mz _ _ zx.2 zy.2, ?_⟩
    refine made_sh (Int.ne_of_gt (Int.mul_pos (den_pos x) (den_pos y))) (Sz.sub (n := 8600) ((zx.1.mul zy.2).mono (by decide)) ((zy.1.mul zx.2).mono (by decide)) (by decide)) ((zx.2.mul zy.2).mono (by decide)) fun p H' hp hs hq => ?_
    refine q p H' ((s1.trans s2).free hp) (s1.trans (s2.trans hs)) ?_
    exact (congrArg (Sh C H' p) (sub_eq x y)).mpr hq


theorem ok_times (D : Df K mg "times" s_times []) (T : ShX K C) (a : Ca P w K mg base CX0 4 "as_share" s_as_share [] ["number"] (spAs C)) (m : Ci P w K mg base CX0 2 "Share" C "Share.__init__" s_Share_init [.int 1] ["self", "top", "bottom"] (spShI C)) :
    Ca P w K mg base CX0 5 "times" s_times [] ["one", "two"] (spTwo C (fun _ _ => True) (fun a b => a * b)) := by
  refine ca0 (k := 4) D c_times (fun vs H Q E h => ?_) fun f cdv A outer s H vs Q E hr h => ?_
  · obtain ⟨v, u, x, y, rfl, _⟩ := h
    rfl
  · obtain ⟨v, u, x, y, rfl, hv, hu, zx, zy, ok, q⟩ := h
    refine ⟨_, pss_cons (ps_set (i := 2) c_times.nd rfl (.inl rfl) (pe_ca a b_as_share hr (by decide) pass0 rfl (pa_cons (pv 0) pa_nil)))
      (pss_cons (ps_set (i := 3) c_times.nd rfl (.inl rfl) (pe_ca a b_as_share hr (by decide) pass0 rfl (pa_cons (pv 1) pa_nil)))
      (pss_one (ps_ret (pe_ci m bd_Share2 (by decide) rfl hr (by decide) pass0 rfl (pa_cons (pe_op op_mulA (pe_fld (pv 2) rfl) (pe_fld (pv 3) rfl)) (pa_cons (pe_op op_mulA (pe_fld (pv 2) rfl) (pe_fld (pv 3) rfl)) pa_nil)))))), ?_⟩
    refine ⟨_, rfl, v, x, rfl, hv, zx.mono (by decide), fun p1 H1 s1 h1 => ?_⟩
    refine ⟨_, rfl, u, y, rfl, hu.same s1, zy.mono (by decide), fun p2 H2 s2 h2 => ?_⟩
    obtain ⟨d1, e1⟩ := h1.same s2
    obtain ⟨d2, e2⟩ := h2
    have mz : ∀ i j : Int, Sz 4300 i → Sz 4300 j → CMulA i j := fun i j hi hj => ⟨hi.mono (by decide), hj.mono (by decide)⟩
    refine ⟨_, rfl, p1, C, d1, _, _, rfl, e1, T.cl, T.nT, sf_top _ _, _, rfl, p2, C, d2, _, _, rfl, e2, T.cl, T.nT, sf_top _ _, _, _, rfl, rfl, mz _ _ zx.1 zy.1, _, rfl, p1, C, d1, _, _, rfl, e1, T.cl, T.nB, sf_bottom _ _, _, rfl, p2, C, d2, _, _, rfl, e2, T.cl, T.nB, sf_bottom _ _, _, _, rfl, rfl, mz _ _ zx.2 zy.2, ?_⟩
    refine made_sh (Int.ne_of_gt (Int.mul_pos (den_pos x) (den_pos y))) ((zx.1.mul zy.1).mono (by decide)) ((zx.2.mul zy.2).mono (by decide)) fun p H' hp hs hq => ?_
    refine q p H' ((s1.trans s2).free hp) (s1.trans (s2.trans hs)) ?_
    exact (congrArg (Sh C H' p) (mul_eq x y)).mpr hq


theorem ok_over (D : Df K mg "over" s_over []) (T : ShX K C) (a : Ca P w K mg base CX0 4 "as_share" s_as_share [] ["number"] (spAs C)) (m : Ci P w K mg base CX0 2 "Share" C "Share.__init__" s_Share_init [.int 1] ["self", "top", "bottom"] (spShI C)) :
    Ca P w K mg base CX0 5 "over" s_over [] ["one", "two"] (spTwo C (fun _ b => b ≠ 0) (fun a b => a / b)) := by
  refine ca0 (k := 4) D c_over (fun vs H Q E h => ?_) fun f cdv A outer s H vs Q E hr h => ?_
  · obtain ⟨v, u, x, y, rfl, _⟩ := h
    rfl
  · obtain ⟨v, u, x, y, rfl, hv, hu, zx, zy, ok, q⟩ := h
    refine ⟨_, pss_cons (ps_set (i := 2) c_over.nd rfl (.inl rfl) (pe_ca a b_as_share hr (by decide) pass0 rfl (pa_cons (pv 0) pa_nil)))
      (pss_cons (ps_set (i := 3) c_over.nd rfl (.inl rfl) (pe_ca a b_as_share hr (by decide) pass0 rfl (pa_cons (pv 1) pa_nil)))
      (pss_one (ps_ret (pe_ci m bd_Share2 (by decide) rfl hr (by decide) pass0 rfl (pa_cons (pe_op op_mulA (pe_fld (pv 2) rfl) (pe_fld (pv 3) rfl)) (pa_cons (pe_op op_mulA (pe_fld (pv 2) rfl) (pe_fld (pv 3) rfl)) pa_nil)))))), ?_⟩
    refine ⟨_, rfl, v, x, rfl, hv, zx.mono (by decide), fun p1 H1 s1 h1 => ?_⟩
    refine ⟨_, rfl, u, y, rfl, hu.same s1, zy.mono (by decide), fun p2 H2 s2 h2 => ?_⟩
    obtain ⟨d1, e1⟩ := h1.same s2
    obtain ⟨d2, e2⟩ := h2
    have mz : ∀ i j : Int, Sz 4300 i → Sz 4300 j → CMulA i j := fun i j hi hj => ⟨hi.mono (by decide), hj.mono (by decide)⟩
    refine ⟨_, rfl, p1, C, d1, _, _, rfl, e1, T.cl, T.nT, sf_top _ _, _, rfl, p2, C, d2, _, _, rfl, e2, T.cl, T.nB, sf_bottom _ _, _, _, rfl, rfl, mz _ _ zx.1 zy.2, _, rfl, p1, C, d1, _, _, rfl, e1, T.cl, T.nB, sf_bottom _ _, _, rfl, p2, C, d2, _, _, rfl, e2, T.cl, T.nT, sf_top _ _, _, _, rfl, rfl, mz _ _ zx.2 zy.1, ?_⟩
    refine made_sh (Int.mul_ne_zero (Int.ne_of_gt (den_pos x)) (fun z => ok (Rat.num_eq_zero.mp z))) ((zx.1.mul zy.2).mono (by decide)) ((zx.2.mul zy.1).mono (by decide)) fun p H' hp hs hq => ?_
    refine q p H' ((s1.trans s2).free hp) (s1.trans (s2.trans hs)) ?_
    exact (congrArg (Sh C H' p) (div_eq x y ok)).mpr hq


theorem ok_before (D : Df K mg "before" s_before []) (T : ShX K C) (a : Ca P w K mg base CX0 4 "as_share" s_as_share [] ["number"] (spAs C)) : Ca P w K mg base CX0 5 "before" s_before [] ["one", "two"] (spBefore C) := by
  refine ca0 (k := 4) D c_before (fun vs H Q E h => ?_) fun f cdv A outer s H vs Q E hr h => ?_
  · obtain ⟨v, u, x, y, rfl, _⟩ := h
    rfl
  · obtain ⟨v, u, x, y, rfl, hv, hu, zx, zy, q⟩ := h
    refine ⟨_, pss_cons (ps_set (i := 2) c_before.nd rfl (.inl rfl) (pe_ca a b_as_share hr (by decide) pass0 rfl (pa_cons (pv 0) pa_nil)))
      (pss_cons (ps_set (i := 3) c_before.nd rfl (.inl rfl) (pe_ca a b_as_share hr (by decide) pass0 rfl (pa_cons (pv 1) pa_nil)))
      (pss_one (ps_ret (pe_cmpR op_lt (pe_op op_mulA (pe_fld (pv 2) rfl) (pe_fld (pv 3) rfl)) (pe_op op_mulA (pe_fld (pv 3) rfl) (pe_fld (pv 2) rfl)) (nomark _))))), ?_⟩
    refine ⟨_, rfl, v, x, rfl, hv, zx.mono (by decide), fun p1 H1 s1 h1 => ?_⟩
    refine ⟨_, rfl, u, y, rfl, hu.same s1, zy.mono (by decide), fun p2 H2 s2 h2 => ?_⟩
    obtain ⟨d1, e1⟩ := h1.same s2
    obtain ⟨d2, e2⟩ := h2
    have mz : ∀ i j : Int, Sz 4300 i → Sz 4300 j → CMulA i j := fun i j hi hj => ⟨hi.mono (by decide), hj.mono (by decide)⟩
    refine ⟨_, rfl, p1, C, d1, _, _, rfl, e1, T.cl, T.nT, sf_top _ _, _, rfl, p2, C, d2, _, _, rfl, e2, T.cl, T.nB, sf_bottom _ _, _, _, rfl, rfl, mz _ _ zx.1 zy.2, _, rfl, p2, C, d2, _, _, rfl, e2, T.cl, T.nT, sf_top _ _, _, rfl, p1, C, d1, _, _, rfl, e1, T.cl, T.nB, sf_bottom _ _, _, _, rfl, rfl, mz _ _ zy.1 zx.2, _, _, rfl, rfl, ?_⟩
    have e : decide (x.num * (y.den : Int) < y.num * (x.den : Int)) = decide (x < y) := by
      rw [decide_eq_decide]
      exact (lt_iff' x y).symm
    show Q (V.bl (decide (x.num * (y.den : Int) < y.num * (x.den : Int)))) _
    rw [e]
    exact q H2 (s1.trans s2)


theorem ok_whole (D : Df K mg "whole" s_whole []) (T : ShX K C) (a : Ca P w K mg base CX0 4 "as_share" s_as_share [] ["number"] (spAs C)) : Ca P w K mg base CX0 5 "whole" s_whole [] ["share"] (spOne C Rat.floor) := by
  refine ca0 (k := 4) D c_whole (fun vs H Q E h => ?_) fun f cdv A outer s H vs Q E hr h => ?_
  · obtain ⟨v, x, rfl, _⟩ := h
    rfl
  · obtain ⟨v, x, rfl, hv, zx, q⟩ := h
    refine ⟨_, pss_cons (ps_set (i := 1) c_whole.nd rfl (.inl rfl) (pe_ca a b_as_share hr (by decide) pass0 rfl (pa_cons (pv 0) pa_nil)))
      (pss_one (ps_ret (pe_op op_fdivA (pe_fld (pv 1) rfl) (pe_fld (pv 1) rfl)))), ?_⟩
    refine ⟨_, rfl, v, x, rfl, hv, zx, fun p1 H1 s1 h1 => ?_⟩
    obtain ⟨d1, e1⟩ := h1
    refine ⟨_, rfl, p1, C, d1, _, _, rfl, e1, T.cl, T.nT, sf_top _ _, _, rfl, p1, C, d1, _, _, rfl, e1, T.cl, T.nB, sf_bottom _ _, _, _, rfl, rfl, ⟨Int.ne_of_gt (den_pos x), zx.2.mono (by decide)⟩, ?_⟩
    have e : x.num.fdiv (x.den : Int) = x.floor := by rw [Rat.floor_def, Int.fdiv_eq_ediv_of_nonneg _ (Int.le_of_lt (den_pos x))]
    show Q (V.int (x.num.fdiv (x.den : Int))) _
    rw [e]
    exact q H1 s1
end
section
variable {P : Program} {w : World} {K : PySem.W.Frag} {mg : Str → Option Value} {base : Heap} {C : Addr}
theorem ok_rounded (D : Df K mg "rounded_up" s_rounded_up []) (T : ShX K C) (a : Ca P w K mg base CX0 4 "as_share" s_as_share [] ["number"] (spAs C)) : Ca P w K mg base CX0 5 "rounded_up" s_rounded_up [] ["share"] (spOne C Rat.ceil) := by
  refine ca0 (k := 4) D c_rounded_up (fun vs H Q E h => ?_) fun f cdv A outer s H vs Q E hr h => ?_
  · obtain ⟨v, x, rfl, _⟩ := h
    rfl
  · obtain ⟨v, x, rfl, hv, zx, q⟩ := h
    refine ⟨_, pss_cons (ps_set (i := 1) c_rounded_up.nd rfl (.inl rfl) (pe_ca a b_as_share hr (by decide) pass0 rfl (pa_cons (pv 0) pa_nil)))
      (pss_one (ps_ret (pe_un un_neg (pe_op op_fdivA (pe_un un_neg (pe_fld (pv 1) rfl)) (pe_fld (pv 1) rfl))))), ?_⟩
    refine ⟨_, rfl, v, x, rfl, hv, zx, fun p1 H1 s1 h1 => ?_⟩
    obtain ⟨d1, e1⟩ := h1
    refine ⟨_, rfl, p1, C, d1, _, _, rfl, e1, T.cl, T.nT, sf_top _ _, _, rfl, _, rfl, p1, C, d1, _, _, rfl, e1, T.cl, T.nB, sf_bottom _ _, _, _, rfl, rfl, ⟨Int.ne_of_gt (den_pos x), zx.2.mono (by decide)⟩, _, rfl, ?_⟩
    have e : -((-x.num).fdiv (x.den : Int)) = x.ceil := by rw [Int.fdiv_eq_ediv_of_nonneg _ (Int.le_of_lt (den_pos x)), neg_div_ceil]
    show Q (V.int (-((-x.num).fdiv (x.den : Int)))) _
    rw [e]
    exact q H1 s1
end
/-! ### Calendar's helpers -/
theorem twelve_ne : ((12 : Int) : Rat) ≠ 0 := by decide
theorem szi {n : Nat} (i : Int) (h : i.natAbs < 2 ^ n := by decide) : Sz n i := h
def spTw (C : Addr) : Sp := fun vs H Q _ => ∃ (v : V) (a : Rat), vs = [v] ∧ Rv C H v a ∧ Rz 4000 a ∧ ∀ p H', H p = none → Same H H' → Sh C H' p (a / 12) → Q (.ref p) H'
def spNth (C : Addr) : Sp := fun vs H Q _ => ∃ (v u : V) (a b : Rat) (n : Int), vs = [v, u, .int n] ∧ Rv C H v a ∧ Rv C H u b ∧ Rz 600 a ∧ Rz 600 b ∧ Sz 3000 n ∧ ∀ H', Same H H' → Q (.int (a + n * b).floor) H'
def spFrom (C : Addr) : Sp := fun vs H Q _ => ∃ (v u : V) (a b : Rat) (n : Int), vs = [v, u, .int n] ∧ Rv C H v a ∧ Rv C H u b ∧ Rz 600 a ∧ Rz 600 b ∧ Sz 3000 n ∧ b ≠ 0 ∧ ∀ H', Same H H' → Q (.int (((n : Rat) - a) / b).ceil) H'
def spUnfit (C : Addr) : Sp := fun vs H Q _ => ∃ (v u : V) (m y : Rat), vs = [v, u] ∧ Rv C H v m ∧ Rv C H u y ∧ Rz 600 m ∧ Rz 600 y ∧ Fit m y ∧ ∀ H', Same H H' → Q .non H'
/-- a moment that may not be told -/
def Mv (C : Addr) (H : Hp) (v : V) (q : Rat) : Prop := (v = .non ∧ q = 0) ∨ Rv C H v q
theorem Mv.same {C : Addr} {H H1 : Hp} {v : V} {q : Rat} (h : Mv C H v q) (s : Same H H1) : Mv C H1 v q := by
  rcases h with h | h
  · exact .inl h
  · exact .inr (h.same s)
def spMoment (C : Addr) : Sp := fun vs H Q _ => ∃ (v : V) (q : Rat), vs = [v] ∧ Mv C H v q ∧ Rz 600 q ∧ ∀ p H', Same H H' → Sh C H' p q → Q (.ref p) H'
/-- the functions over Shares that Calendar uses -/
structure ShF (P : Program) (w : World) (K : PySem.W.Frag) (mg : Str → Option Value) (base : Heap) (C : Addr) : Prop where
  T : ShX K C
  mkS : Ci P w K mg base CX0 2 "Share" C "Share.__init__" s_Share_init [.int 1] ["self", "top", "bottom"] (spShI C)
  asS : Ca P w K mg base CX0 4 "as_share" s_as_share [] ["number"] (spAs C)
  plus : Ca P w K mg base CX0 5 "plus" s_plus [] ["one", "two"] (spTwo C (fun _ _ => True) (fun a b => a + b))
  minus : Ca P w K mg base CX0 5 "minus" s_minus [] ["one", "two"] (spTwo C (fun _ _ => True) (fun a b => a - b))
  times : Ca P w K mg base CX0 5 "times" s_times [] ["one", "two"] (spTwo C (fun _ _ => True) (fun a b => a * b))
  over : Ca P w K mg base CX0 5 "over" s_over [] ["one", "two"] (spTwo C (fun _ b => b ≠ 0) (fun a b => a / b))
  before : Ca P w K mg base CX0 5 "before" s_before [] ["one", "two"] (spBefore C)
  whole : Ca P w K mg base CX0 5 "whole" s_whole [] ["share"] (spOne C Rat.floor)
  up : Ca P w K mg base CX0 5 "rounded_up" s_rounded_up [] ["share"] (spOne C Rat.ceil)
  marks : ∃ t, mg "MARKS" = some (.int 12 t)
section
variable {P : Program} {w : World} {K : PySem.W.Frag} {mg : Str → Option Value} {base : Heap} {C : Addr}
theorem ok_tw (D : Df K mg "twelfth" s_twelfth []) (F : ShF P w K mg base C) : Ca P w K mg base CX0 6 "twelfth" s_twelfth [] ["year"] (spTw C) := by
  refine ca0 (k := 5) D c_twelfth (fun vs H Q E h => ?_) fun f cdv A outer s H vs Q E hr h => ?_
  · obtain ⟨v, q, rfl, _⟩ := h
    rfl
  · obtain ⟨v, a, rfl, hv, za, q⟩ := h
    obtain ⟨tk, hM⟩ := F.marks
    refine ⟨_, pss_one (ps_ret (pe_ca F.over b_over hr (by decide) pass0 rfl (pa_cons (pv 0) (pa_cons (pe_glob (v := .int 12) rfl hM ⟨_, rfl⟩) pa_nil)))), ?_⟩
    exact ⟨_, rfl, v, .int 12, a, _, rfl, hv, Rv.int, za.mono (by decide), Rz.int (szi 12) (by decide), twelve_ne, q⟩
end
section
variable {P : Program} {w : World} {K : PySem.W.Frag} {mg : Str → Option Value} {base : Heap} {C : Addr}
theorem ok_nth (D : Df K mg "nth_day" s_nth_day []) (F : ShF P w K mg base C) : Ca P w K mg base CX0 6 "nth_day" s_nth_day [] ["first", "step", "n"] (spNth C) := by
  refine ca0 (k := 5) D c_nth_day (fun vs H Q E h => ?_) fun f cdv A outer s H vs Q E hr h => ?_
  · obtain ⟨v, u, a, b, n, rfl, _⟩ := h
    rfl
  · obtain ⟨v, u, a, b, n, rfl, hv, hu, za, zb, zn, q⟩ := h
    refine ⟨_, pss_one (ps_ret (pe_ca F.whole b_whole hr (by decide) pass0 rfl (pa_cons (pe_ca F.plus b_plus hr (by decide) pass0 rfl (pa_cons (pv 0) (pa_cons (pe_ca F.times b_times hr (by decide) pass0 rfl (pa_cons (pv 2) (pa_cons (pv 1) pa_nil))) pa_nil))) pa_nil))), ?_⟩
    have zi : Rz 3000 (n : Rat) := Rz.int zn (by decide)
    refine ⟨_, rfl, _, rfl, _, rfl, .int n, u, n, b, rfl, Rv.int, hu, zi.mono (by decide), zb.mono (by decide), trivial, fun p1 H1 n1 s1 h1 => ?_⟩
    have z1 : Rz 3700 (n * b) := zi.mul zb (by decide)
    refine ⟨v, .ref p1, a, _, rfl, hv.same s1, h1.rv, za.mono (by decide), z1.mono (by decide), trivial, fun p2 H2 n2 s2 h2 => ?_⟩
    have z2 : Rz 4500 (a + n * b) := za.add z1 (by decide)
    exact ⟨.ref p2, _, rfl, h2.rv, z2.mono (by decide), fun H3 s3 => q H3 (s1.trans (s2.trans s3))⟩
end
section
variable {P : Program} {w : World} {K : PySem.W.Frag} {mg : Str → Option Value} {base : Heap} {C : Addr}
theorem ok_from (D : Df K mg "first_from" s_first_from []) (F : ShF P w K mg base C) : Ca P w K mg base CX0 6 "first_from" s_first_from [] ["first", "step", "day"] (spFrom C) := by
  refine ca0 (k := 5) D c_first_from (fun vs H Q E h => ?_) fun f cdv A outer s H vs Q E hr h => ?_
  · obtain ⟨v, u, a, b, n, rfl, _⟩ := h
    rfl
  · obtain ⟨v, u, a, b, n, rfl, hv, hu, za, zb, zn, nb, q⟩ := h
    refine ⟨_, pss_one (ps_ret (pe_ca F.up b_rounded_up hr (by decide) pass0 rfl (pa_cons (pe_ca F.over b_over hr (by decide) pass0 rfl (pa_cons (pe_ca F.minus b_minus hr (by decide) pass0 rfl (pa_cons (pv 2) (pa_cons (pv 0) pa_nil))) (pa_cons (pv 1) pa_nil))) pa_nil))), ?_⟩
    have zi : Rz 3000 (n : Rat) := Rz.int zn (by decide)
    refine ⟨_, rfl, _, rfl, .int n, v, n, a, rfl, Rv.int, hv, zi.mono (by decide), za.mono (by decide), trivial, fun p1 H1 n1 s1 h1 => ?_⟩
    have z1 : Rz 3700 ((n : Rat) - a) := zi.sub za (by decide)
    refine ⟨_, rfl, .ref p1, u, _, b, rfl, h1.rv, hu.same s1, z1.mono (by decide), zb.mono (by decide), nb, fun p2 H2 n2 s2 h2 => ?_⟩
    have z2 : Rz 4500 (((n : Rat) - a) / b) := z1.div zb nb (by decide)
    exact ⟨.ref p2, _, rfl, h2.rv, z2.mono (by decide), fun H3 s3 => q H3 (s1.trans (s2.trans s3))⟩
end
section
variable {P : Program} {w : World} {K : PySem.W.Frag} {mg : Str → Option Value} {base : Heap} {C : Addr}
theorem ok_moment (D : Df K mg "moment_or_nought" s_moment_or_nought []) (F : ShF P w K mg base C) : Ca P w K mg base CX0 6 "moment_or_nought" s_moment_or_nought [] ["moment"] (spMoment C) := by
  refine ca0 (k := 5) D c_moment_or_nought (fun vs H Q E h => ?_) fun f cdv A outer s H vs Q E hr h => ?_
  · obtain ⟨v, q, rfl, _⟩ := h
    rfl
  · obtain ⟨v, a, rfl, hv, za, q⟩ := h
    refine ⟨_, pss_cons (ps_if (pt_cmp (pc_isN (pv 0))) (pss_one (ps_ret (pe_ci F.mkS bd_Share1 (by decide) rfl hr (by decide) pass0 rfl (pa_cons pe_int pa_nil)))) pss_nil)
      (pss_one (ps_ret (pe_ca F.asS b_as_share hr (by decide) pass0 rfl (pa_cons (pv 0) pa_nil)))), ?_⟩
    rcases hv with ⟨rfl, rfl⟩ | hv
    · refine ⟨_, rfl, _, rfl, iteT ?_⟩
      refine made_sh (by decide) (szi 0) (szi 1) fun p H' _ hs hp => ?_
      rw [divInt_one] at hp
      exact q p H' hs hp
    · have hn : v ≠ .non := by
        rcases hv with ⟨i, rfl, _⟩ | ⟨p, rfl, _⟩ <;> exact fun z => nomatch z
      refine ⟨_, rfl, _, rfl, ?_⟩
      rw [decide_eq_false hn]
      refine iteF ?_
      exact ⟨_, rfl, v, a, rfl, hv, za.mono (by decide), q⟩
end
section
variable {P : Program} {w : World} {K : PySem.W.Frag} {mg : Str → Option Value} {base : Heap} {C : Addr}
theorem ok_unfit (D : Df K mg "refuse_unfit" s_refuse_unfit []) (F : ShF P w K mg base C) (tw : Ca P w K mg base CX0 6 "twelfth" s_twelfth [] ["year"] (spTw C)) : Ca P w K mg base CX0 7 "refuse_unfit" s_refuse_unfit [] ["month", "year"] (spUnfit C) := by
  refine ca0 (k := 6) D c_refuse_unfit (fun vs H Q E h => ?_) fun f cdv A outer s H vs Q E hr h => ?_
  · obtain ⟨v, u, m, y, rfl, _⟩ := h
    rfl
  · obtain ⟨v, u, m, y, rfl, hv, hu, zm, zy, ft, q⟩ := h
    obtain ⟨tk, hM⟩ := F.marks
    refine ⟨_, pss_cons (ps_if (pt_val (pe_ca F.before b_before hr (by decide) pass0 rfl (pa_cons (pv 0) (pa_cons pe_int pa_nil)))) (pss_one ps_never) pss_nil)
      (pss_cons (ps_if (pt_val (pe_ca F.before b_before hr (by decide) pass0 rfl (pa_cons (pe_ca tw b_twelfth hr (by decide) pass0 rfl (pa_cons (pv 1) pa_nil)) (pa_cons (pe_ca F.up b_rounded_up hr (by decide) pass0 rfl (pa_cons (pv 0) pa_nil)) pa_nil)))) (pss_one ps_never) pss_nil)
      (pss_one (ps_if (pt_val (pe_ca F.before b_before hr (by decide) pass0 rfl (pa_cons (pe_ca F.times b_times hr (by decide) pass0 rfl (pa_cons (pe_op op_add (pe_glob (v := .int 12) rfl hM ⟨_, rfl⟩) pe_int) (pa_cons (pv 0) pa_nil)))
        (pa_cons (pe_ca F.plus b_plus hr (by decide) pass0 rfl (pa_cons (pv 1) (pa_cons pe_int pa_nil))) pa_nil)))) (pss_one ps_never) pss_nil))), ?_⟩
    refine ⟨_, rfl, v, .int 1, m, _, rfl, hv, Rv.int, zm.mono (by decide), Rz.int (szi 1) (by decide), fun H1 s1 => ⟨_, rfl, ?_⟩⟩
    rw [decide_eq_false (show ¬ m < ((1 : Int) : Rat) from Rat.not_lt.mpr ft.one)]
    refine iteF ?_
    refine ⟨_, rfl, u, y, rfl, hu.same s1, zy.mono (by decide), fun p2 H2 n2 s2 h2 => ?_⟩
    refine ⟨_, rfl, v, m, rfl, hv.same (s1.trans s2), zm.mono (by decide), fun H3 s3 => ?_⟩
    have z2 : Rz 700 (y / 12) := zy.div (l := 4) (Rz.int (szi 12) (by decide)) twelve_ne (by decide)
    refine ⟨.ref p2, .int m.ceil, _, _, rfl, (h2.same s3).rv, Rv.int, z2.mono (by decide), Rz.int ((Sz.ceil zm).mono (by decide)) (by decide), fun H4 s4 => ⟨_, rfl, ?_⟩⟩
    rw [decide_eq_false (show ¬ y / 12 < (m.ceil : Rat) from Rat.not_lt.mpr ft.between)]
    refine iteF ?_
    have s14 : Same H H4 := s1.trans (s2.trans (s3.trans s4))
    refine ⟨_, _, rfl, rfl, _, rfl, .int 13, v, _, m, rfl, Rv.int, hv.same s14, Rz.int (szi 13) (by decide), zm.mono (by decide), trivial, fun p5 H5 n5 s5 h5 => ?_⟩
    refine ⟨_, rfl, u, .int 1, y, _, rfl, hu.same (s14.trans s5), Rv.int, zy.mono (by decide), Rz.int (szi 1) (by decide), trivial, fun p6 H6 n6 s6 h6 => ?_⟩
    have z5 : Rz 700 (((13 : Int) : Rat) * m) := Rz.mul (n := 4) (Rz.int (szi 13) (by decide)) zm (by decide)
    have z6 : Rz 700 (y + ((1 : Int) : Rat)) := zy.add (l := 1) (Rz.int (szi 1) (by decide)) (by decide)
    refine ⟨.ref p5, .ref p6, _, _, rfl, (h5.same s6).rv, h6.rv, z5.mono (by decide), z6.mono (by decide), fun H7 s7 => ⟨_, rfl, ?_⟩⟩
    rw [decide_eq_false (show ¬ ((13 : Int) : Rat) * m < y + ((1 : Int) : Rat) from Rat.not_lt.mpr ft.thirteen)]
    refine iteF ?_
    exact q H7 (s14.trans (s5.trans (s6.trans s7)))
end
/-! ### Calendar -/
def cfs (a b c d : Addr) : List (Str × V) := putF "mark" (.ref d) (putF "moon" (.ref c) (putF "year" (.ref b) (putF "month" (.ref a) [])))
theorem my_ : ¬ (("month" : Str) = "year") := by decide +kernel
theorem mm_ : ¬ (("month" : Str) = "moon") := by decide +kernel
theorem mk_ : ¬ (("month" : Str) = "mark") := by decide +kernel
theorem ym_ : ¬ (("year" : Str) = "moon") := by decide +kernel
theorem yk_ : ¬ (("year" : Str) = "mark") := by decide +kernel
theorem ok_ : ¬ (("moon" : Str) = "mark") := by decide +kernel
theorem cf_month (a b c d : Addr) : (cfs a b c d).lookup ("month" : Str) = some (.ref a) := by
  unfold cfs
  rw [lookup_putF, if_neg mk_, lookup_putF, if_neg mm_, lookup_putF, if_neg my_, lookup_putF, if_pos rfl]
theorem cf_year (a b c d : Addr) : (cfs a b c d).lookup ("year" : Str) = some (.ref b) := by
  unfold cfs
  rw [lookup_putF, if_neg yk_, lookup_putF, if_neg ym_, lookup_putF, if_pos rfl]
theorem cf_moon (a b c d : Addr) : (cfs a b c d).lookup ("moon" : Str) = some (.ref c) := by
  unfold cfs
  rw [lookup_putF, if_neg ok_, lookup_putF, if_pos rfl]
theorem cf_mark (a b c d : Addr) : (cfs a b c d).lookup ("mark" : Str) = some (.ref d) := by
  unfold cfs
  rw [lookup_putF, if_pos rfl]
theorem cf_no (a b c d : Addr) {m : Str} (h1 : ¬ m = "mark" := by decide +kernel) (h2 : ¬ m = "moon" := by decide +kernel) (h3 : ¬ m = "year" := by decide +kernel) (h4 : ¬ m = "month" := by decide +kernel) : (cfs a b c d).lookup m = none := by
  unfold cfs
  rw [lookup_putF, if_neg h1, lookup_putF, if_neg h2, lookup_putF, if_neg h3, lookup_putF, if_neg h4]
  rfl
structure CaT (K : PySem.W.Frag) (C Cc : Addr) : Prop where
  cl : Cls K Cc
  n1 : NoAttr K Cc "month"
  n2 : NoAttr K Cc "year"
  n3 : NoAttr K Cc "moon"
  n4 : NoAttr K Cc "mark"
  ne : Cc ≠ C
/-- at p a Calendar of these four -/
def Cl (C Cc : Addr) (H : Hp) (p : Addr) (m y o k : Rat) : Prop := ∃ dx a b c d, H p = some (.ins Cc dx (cfs a b c d)) ∧ Sh C H a m ∧ Sh C H b y ∧ Sh C H c o ∧ Sh C H d k
theorem Cl.same {C Cc : Addr} {H H1 : Hp} {p : Addr} {m y o k : Rat} (h : Cl C Cc H p m y o k) (s : Same H H1) : Cl C Cc H1 p m y o k := by
  obtain ⟨dx, a, b, c, d, e, h1, h2, h3, h4⟩ := h
  exact ⟨dx, a, b, c, d, s _ _ e, h1.same s, h2.same s, h3.same s, h4.same s⟩
/-- one that can be reckoned with -/
structure Good (m y o k : Rat) : Prop where
  fit : Fit m y
  zm : Rz 70 m
  zy : Rz 70 y
  zo : Rz 70 o
  zk : Rz 70 k
theorem Sh.put {C Cc : Addr} {H : Hp} {p dx a : Addr} {fs gs : List (Str × V)} {q : Rat} (ne : Cc ≠ C) (hp : H p = some (.ins Cc dx fs)) (h : Sh C H a q) : Sh C (upd H p (.ins Cc dx gs)) a q := by
  obtain ⟨d, e⟩ := h
  refine ⟨d, ?_⟩
  rw [upd_ne (ne_of e hp fun z => ne (by injection z with z1 z2 z3; exact z1.symm))]
  exact e
theorem Rv.put {C Cc : Addr} {H : Hp} {p dx : Addr} {v : V} {fs gs : List (Str × V)} {q : Rat} (ne : Cc ≠ C) (hp : H p = some (.ins Cc dx fs)) (h : Rv C H v q) : Rv C (upd H p (.ins Cc dx gs)) v q := by
  rcases h with h | ⟨a, e, h⟩
  · exact .inl h
  · exact .inr ⟨a, e, h.put ne hp⟩
theorem Mv.put {C Cc : Addr} {H : Hp} {p dx : Addr} {v : V} {fs gs : List (Str × V)} {q : Rat} (ne : Cc ≠ C) (hp : H p = some (.ins Cc dx fs)) (h : Mv C H v q) : Mv C (upd H p (.ins Cc dx gs)) v q := by
  rcases h with h | h
  · exact .inl h
  · exact .inr (h.put ne hp)
theorem But.put {l : Addr} {H H1 : Hp} {o : HO} (a : But l H H1) : But l H (L2.upd H1 l o) := fun c u hc e => by
  rw [upd_ne hc]
  exact a c u hc e
/-! the methods -/
def spM1 (C Cc : Addr) (n : Nat) (g : Rat → Rat → Rat → Rat → Int → V) : Sp := fun vs H Q _ => ∃ (p : Addr) (i : Int) (m y o k : Rat), vs = [.ref p, .int i] ∧ Cl C Cc H p m y o k ∧ Good m y o k ∧ Sz n i ∧ ∀ H', Same H H' → Q (g m y o k i) H'
def miF (m y o k : Rat) (i : Int) : V := if mdF y k (jF y k (stF m o i)) < stF m o (i + 1) then .int (jF y k (stF m o i)) else .non
theorem Good.ztw {m y o k : Rat} (g : Good m y o k) : Rz 80 (y / 12) := g.zy.div (l := 4) (Rz.int (szi 12) (by decide)) twelve_ne (by decide)
theorem Good.zst {m y o k : Rat} (g : Good m y o k) {n l : Nat} {i : Int} (h : Sz n i) (h0 : 0 < n) (hl : n + 150 < l) : Sz l (stF m o i) := (Sz.floor (Rz.add (m := n + 150) g.zo (Rz.mul (m := n + 75) (Rz.int h h0) g.zm (by omega)) (by omega))).mono (by omega)
theorem Good.zmd {m y o k : Rat} (g : Good m y o k) {n l : Nat} {i : Int} (h : Sz n i) (h0 : 0 < n) (hl : n + 160 < l) : Sz l (mdF y k i) := (Sz.floor (Rz.add (m := n + 160) g.zk (Rz.mul (m := n + 85) (Rz.int h h0) g.ztw (by omega)) (by omega))).mono (by omega)
theorem Good.zj {m y o k : Rat} (g : Good m y o k) {n l : Nat} {i : Int} (h : Sz n i) (h0 : 0 < n) (hl : n + 160 < l) : Sz l (jF y k i) := (Sz.ceil (Rz.div (m := n + 160) (Rz.sub (m := n + 75) (Rz.int h h0) g.zk (by omega)) g.ztw (by have := g.fit.ypos; grind) (by omega))).mono (by omega)
def spCaI (C Cc : Addr) : Sp := fun vs H Q _ => ∃ (p dx : Addr) (v u x z : V) (m y o k : Rat), vs = [.ref p, v, u, x, z] ∧ H p = some (.ins Cc dx []) ∧ Rv C H v m ∧ Rv C H u y ∧ Mv C H x o ∧ Mv C H z k ∧ Good m y o k ∧
  ∀ H', But p H H' → Cl C Cc H' p m y o k → Q .non H'
section
variable {P : Program} {w : World} {K : PySem.W.Frag} {mg : Str → Option Value} {base : Heap} {C Cc : Addr}
theorem ok_caI (D : Di K mg "Calendar" Cc "Calendar.__init__" s_Calendar_init [.non, .non]) (T : CaT K C Cc) (F : ShF P w K mg base C) (un : Ca P w K mg base CX0 7 "refuse_unfit" s_refuse_unfit [] ["month", "year"] (spUnfit C))
    (mo : Ca P w K mg base CX0 6 "moment_or_nought" s_moment_or_nought [] ["moment"] (spMoment C)) :
    Ci P w K mg base CX0 8 "Calendar" Cc "Calendar.__init__" s_Calendar_init [.non, .non] ["self", "month", "year", "moon", "mark"] (spCaI C Cc) := by
  refine ci0 (k := 7) D c_Calendar_init (fun vs H Q E h => ?_) fun f cdv A outer s H vs Q E hr h => ?_
  · obtain ⟨p, dx, v, u, x, z, m, y, o, k, rfl, _⟩ := h
    rfl
  · obtain ⟨p, dx, v, u, x, z, m, y, o, k, rfl, hp, hv, hu, hx, hz, g, q⟩ := h
    refine ⟨_, pss_cons (ps_expr (pe_ca un b_refuse_unfit hr (by decide) pass0 rfl (pa_cons (pv 1) (pa_cons (pv 2) pa_nil))))
      (pss_cons (ps_fld (pv 0) (pe_ca F.asS b_as_share hr (by decide) pass0 rfl (pa_cons (pv 1) pa_nil)) rfl)
      (pss_cons (ps_fld (pv 0) (pe_ca F.asS b_as_share hr (by decide) pass0 rfl (pa_cons (pv 2) pa_nil)) rfl)
      (pss_cons (ps_fld (pv 0) (pe_ca mo b_moment_or_nought hr (by decide) pass0 rfl (pa_cons (pv 3) pa_nil)) rfl)
      (pss_one (ps_fld (pv 0) (pe_ca mo b_moment_or_nought hr (by decide) pass0 rfl (pa_cons (pv 4) pa_nil)) rfl))))), ?_⟩
    refine ⟨_, rfl, _, rfl, v, u, m, y, rfl, hv, hu, g.zm.mono (by decide), g.zy.mono (by decide), g.fit, fun H1 s1 => ?_⟩
    refine ⟨_, rfl, v, m, rfl, hv.same s1, g.zm.mono (by decide), fun a H2 s2 ha => ?_⟩
    have hp2 := s2 _ _ (s1 _ _ hp)
    refine ⟨_, rfl, p, Cc, dx, _, rfl, hp2, T.cl, T.n1, (by show 0 < 1000; decide), ?_⟩
    refine ⟨_, rfl, u, y, rfl, ((hu.same s1).same s2).put T.ne hp2, g.zy.mono (by decide), fun b H3 s3 hb => ?_⟩
    have hp3 := s3 _ _ (upd_same (H := H2) (a := p))
    refine ⟨_, rfl, p, Cc, dx, _, rfl, hp3, T.cl, T.n2, (by show 1 < 1000; decide), ?_⟩
    refine ⟨_, rfl, x, o, rfl, ((((hx.same s1).same s2).put T.ne hp2).same s3).put T.ne hp3, g.zo.mono (by decide), fun c H4 s4 hc => ?_⟩
    have hp4 := s4 _ _ (upd_same (H := H3) (a := p))
    refine ⟨_, rfl, p, Cc, dx, _, rfl, hp4, T.cl, T.n3, (by show 2 < 1000; decide), ?_⟩
    refine ⟨_, rfl, z, k, rfl, ((((((hz.same s1).same s2).put T.ne hp2).same s3).put T.ne hp3).same s4).put T.ne hp4, g.zk.mono (by decide), fun d H5 s5 hd => ?_⟩
    have hp5 := s5 _ _ (upd_same (H := H4) (a := p))
    refine ⟨_, rfl, p, Cc, dx, _, rfl, hp5, T.cl, T.n4, (by show 3 < 1000; decide), ?_⟩
    refine q _ ?_ ⟨dx, a, b, c, d, upd_same, ?_, ?_, ?_, hd.put T.ne hp5⟩
    · have b1 : But p H H2 := But.same (s1.trans s2)
      have b2 : But p H H3 := b1.put.trans (But.same s3)
      have b3 : But p H H4 := b2.put.trans (But.same s4)
      exact (b3.put.trans (But.same s5)).put
    · exact (((((((ha.put T.ne hp2).same s3).put T.ne hp3).same s4).put T.ne hp4).same s5).put T.ne hp5)
    · exact (((((hb.put T.ne hp3).same s4).put T.ne hp4).same s5).put T.ne hp5)
    · exact (((hc.put T.ne hp4).same s5).put T.ne hp5)
end
section
variable {P : Program} {w : World} {K : PySem.W.Frag} {mg : Str → Option Value} {base : Heap} {C Cc : Addr}
theorem ok_start (D : Dm K Cc "start" "Calendar.start" s_Calendar_start) (T : CaT K C Cc) (nth : Ca P w K mg base CX0 6 "nth_day" s_nth_day [] ["first", "step", "n"] (spNth C)) :
    Cm P w K mg base CX0 7 Cc "start" "Calendar.start" s_Calendar_start ["self", "k"] (spM1 C Cc 3000 fun m _ o _ i => .int (stF m o i)) := by
  refine cm0 (k := 6) D c_Calendar_start (fun vs H Q E h => ?_) fun f cdv A outer s H vs Q E hr h => ?_
  · obtain ⟨p, i, m, y, o, k, rfl, _⟩ := h
    rfl
  · obtain ⟨p, i, m, y, o, k, rfl, ⟨dx, a, b, c, d, e, h1, h2, h3, h4⟩, g, zi, q⟩ := h
    refine ⟨_, pss_one (ps_ret (pe_ca nth b_nth_day hr (by decide) pass0 rfl (pa_cons (pe_fld (pv 0) rfl) (pa_cons (pe_fld (pv 0) rfl) (pa_cons (pv 1) pa_nil))))), ?_⟩
    exact ⟨_, rfl, p, Cc, dx, _, _, rfl, e, T.cl, T.n3, cf_moon _ _ _ _, _, rfl, p, Cc, dx, _, _, rfl, e, T.cl, T.n1, cf_month _ _ _ _, _, rfl, _, _, o, m, i, rfl, h3.rv, h1.rv, g.zo.mono (by decide), g.zm.mono (by decide), zi, q⟩
end
section
variable {P : Program} {w : World} {K : PySem.W.Frag} {mg : Str → Option Value} {base : Heap} {C Cc : Addr}
theorem ok_month_at (D : Dm K Cc "month_at" "Calendar.month_at" s_Calendar_month_at) (T : CaT K C Cc) (fr : Ca P w K mg base CX0 6 "first_from" s_first_from [] ["first", "step", "day"] (spFrom C)) :
    Cm P w K mg base CX0 7 Cc "month_at" "Calendar.month_at" s_Calendar_month_at ["self", "day"] (spM1 C Cc 2900 fun m _ o _ i => .int (maF m o i)) := by
  refine cm0 (k := 6) D c_Calendar_month_at (fun vs H Q E h => ?_) fun f cdv A outer s H vs Q E hr h => ?_
  · obtain ⟨p, i, m, y, o, k, rfl, _⟩ := h
    rfl
  · obtain ⟨p, i, m, y, o, k, rfl, ⟨dx, a, b, c, d, e, h1, h2, h3, h4⟩, g, zi, q⟩ := h
    refine ⟨_, pss_one (ps_ret (pe_op op_sub (pe_ca fr b_first_from hr (by decide) pass0 rfl (pa_cons (pe_fld (pv 0) rfl) (pa_cons (pe_fld (pv 0) rfl) (pa_cons (pe_op op_add (pv 1) pe_int) pa_nil)))) pe_int)), ?_⟩
    refine ⟨_, rfl, p, Cc, dx, _, _, rfl, e, T.cl, T.n3, cf_moon _ _ _ _, _, rfl, p, Cc, dx, _, _, rfl, e, T.cl, T.n1, cf_month _ _ _ _, _, rfl, _, _, rfl, rfl, _, _, o, m, i + 1, rfl, h3.rv, h1.rv, g.zo.mono (by decide), g.zm.mono (by decide), ?_, (by have := g.fit.pos; grind), fun H' hs => ⟨_, _, rfl, rfl, q H' hs⟩⟩
    exact Sz.add (n := 2900) zi (szi 1 (Nat.one_lt_two_pow (by decide))) (by decide)
end
section
variable {P : Program} {w : World} {K : PySem.W.Frag} {mg : Str → Option Value} {base : Heap} {C Cc : Addr}
theorem ok_mark_day (D : Dm K Cc "mark_day" "Calendar.mark_day" s_Calendar_mark_day) (T : CaT K C Cc) (nth : Ca P w K mg base CX0 6 "nth_day" s_nth_day [] ["first", "step", "n"] (spNth C)) (tw : Ca P w K mg base CX0 6 "twelfth" s_twelfth [] ["year"] (spTw C)) :
    Cm P w K mg base CX0 7 Cc "mark_day" "Calendar.mark_day" s_Calendar_mark_day ["self", "j"] (spM1 C Cc 3000 fun _ y _ k i => .int (mdF y k i)) := by
  refine cm0 (k := 6) D c_Calendar_mark_day (fun vs H Q E h => ?_) fun f cdv A outer s H vs Q E hr h => ?_
  · obtain ⟨p, i, m, y, o, k, rfl, _⟩ := h
    rfl
  · obtain ⟨p, i, m, y, o, k, rfl, ⟨dx, a, b, c, d, e, h1, h2, h3, h4⟩, g, zi, q⟩ := h
    refine ⟨_, pss_one (ps_ret (pe_ca nth b_nth_day hr (by decide) pass0 rfl (pa_cons (pe_fld (pv 0) rfl) (pa_cons (pe_ca tw b_twelfth hr (by decide) pass0 rfl (pa_cons (pe_fld (pv 0) rfl) pa_nil)) (pa_cons (pv 1) pa_nil))))), ?_⟩
    refine ⟨_, rfl, p, Cc, dx, _, _, rfl, e, T.cl, T.n4, cf_mark _ _ _ _, _, rfl, p, Cc, dx, _, _, rfl, e, T.cl, T.n2, cf_year _ _ _ _, _, y, rfl, h2.rv, g.zy.mono (by decide), fun p1 H1 n1 s1 t1 => ?_⟩
    exact ⟨_, rfl, _, _, k, _, i, rfl, (h4.same s1).rv, t1.rv, g.zk.mono (by decide), g.ztw.mono (by decide), zi, fun H' hs => q H' (s1.trans hs)⟩
end
section
variable {P : Program} {w : World} {K : PySem.W.Frag} {mg : Str → Option Value} {base : Heap} {C Cc : Addr}
theorem ok_month_with (D : Dm K Cc "month_with" "Calendar.month_with" s_Calendar_month_with) (T : CaT K C Cc)
    (ma : Cm P w K mg base CX0 7 Cc "month_at" "Calendar.month_at" s_Calendar_month_at ["self", "day"] (spM1 C Cc 2900 fun m _ o _ i => .int (maF m o i)))
    (md : Cm P w K mg base CX0 7 Cc "mark_day" "Calendar.mark_day" s_Calendar_mark_day ["self", "j"] (spM1 C Cc 3000 fun _ y _ k i => .int (mdF y k i))) :
    Cm P w K mg base CX0 8 Cc "month_with" "Calendar.month_with" s_Calendar_month_with ["self", "j"] (spM1 C Cc 2000 fun m y o k i => .int (maF m o (mdF y k i))) := by
  refine cm0 (k := 7) D c_Calendar_month_with (fun vs H Q E h => ?_) fun f cdv A outer s H vs Q E hr h => ?_
  · obtain ⟨p, i, m, y, o, k, rfl, _⟩ := h
    rfl
  · obtain ⟨p, i, m, y, o, k, rfl, hc, g, zi, q⟩ := h
    obtain ⟨dx, a, b, c, d, e, h1, h2, h3, h4⟩ := id hc
    refine ⟨_, pss_one (ps_ret (pe_cm ma b_Calendar_month_at hr (by decide) pass0 (pv 0) (pa_cons (pe_cm md b_Calendar_mark_day hr (by decide) pass0 (pv 0) (pa_cons (pv 1) pa_nil)) pa_nil))), ?_⟩
    refine ⟨_, rfl, p, dx, _, rfl, e, cf_no _ _ _ _, _, rfl, p, dx, _, rfl, e, cf_no _ _ _ _, _, rfl, p, i, m, y, o, k, rfl, hc, g, zi.mono (by decide), fun H1 s1 => ?_⟩
    exact ⟨p, _, m, y, o, k, rfl, hc.same s1, g, g.zmd zi (by decide) (by decide), fun H2 s2 => q H2 (s1.trans s2)⟩
end
section
variable {P : Program} {w : World} {K : PySem.W.Frag} {mg : Str → Option Value} {base : Heap} {C Cc : Addr}
theorem ok_mark_in (D : Dm K Cc "mark_in" "Calendar.mark_in" s_Calendar_mark_in) (T : CaT K C Cc) (fr : Ca P w K mg base CX0 6 "first_from" s_first_from [] ["first", "step", "day"] (spFrom C)) (tw : Ca P w K mg base CX0 6 "twelfth" s_twelfth [] ["year"] (spTw C))
    (stt : Cm P w K mg base CX0 7 Cc "start" "Calendar.start" s_Calendar_start ["self", "k"] (spM1 C Cc 3000 fun m _ o _ i => .int (stF m o i)))
    (md : Cm P w K mg base CX0 7 Cc "mark_day" "Calendar.mark_day" s_Calendar_mark_day ["self", "j"] (spM1 C Cc 3000 fun _ y _ k i => .int (mdF y k i))) :
    Cm P w K mg base CX0 8 Cc "mark_in" "Calendar.mark_in" s_Calendar_mark_in ["self", "k"] (spM1 C Cc 1400 miF) := by
  refine cm0 (k := 7) D c_Calendar_mark_in (fun vs H Q E h => ?_) fun f cdv A outer s H vs Q E hr h => ?_
  · obtain ⟨p, i, m, y, o, k, rfl, _⟩ := h
    rfl
  · obtain ⟨p, i, m, y, o, k, rfl, hc, g, zi, q⟩ := h
    obtain ⟨dx, a, b, c, d, e, h1, h2, h3, h4⟩ := id hc
    refine ⟨_, pss_cons (ps_set (i := 2) c_Calendar_mark_in.nd rfl (.inl rfl) (pe_ca fr b_first_from hr (by decide) pass0 rfl (pa_cons (pe_fld (pv 0) rfl) (pa_cons (pe_ca tw b_twelfth hr (by decide) pass0 rfl (pa_cons (pe_fld (pv 0) rfl) pa_nil)) (pa_cons (pe_cm stt b_Calendar_start hr (by decide) pass0 (pv 0) (pa_cons (pv 1) pa_nil)) pa_nil)))))
      (pss_cons (ps_if (pt_cmpR op_lt (pe_cm md b_Calendar_mark_day hr (by decide) pass0 (pv 0) (pa_cons (pv 2) pa_nil)) (pe_cm stt b_Calendar_start hr (by decide) pass0 (pv 0) (pa_cons (pe_op op_add (pv 1) pe_int) pa_nil)) (nomark _)) (pss_one (ps_ret (pv 2))) pss_nil)
      (pss_one (ps_ret pe_non))), ?_⟩
    have zs : Sz 2100 (stF m o i) := g.zst zi (by decide) (by decide)
    have zj : Sz 2900 (jF y k (stF m o i)) := g.zj zs (by decide) (by decide)
    refine ⟨_, rfl, p, Cc, dx, _, _, rfl, e, T.cl, T.n4, cf_mark _ _ _ _, _, rfl, p, Cc, dx, _, _, rfl, e, T.cl, T.n2, cf_year _ _ _ _, _, y, rfl, h2.rv, g.zy.mono (by decide), fun p1 H1 n1 s1 t1 => ?_⟩
    refine ⟨_, rfl, p, dx, _, rfl, s1 _ _ e, cf_no _ _ _ _, _, rfl, p, i, m, y, o, k, rfl, hc.same s1, g, zi.mono (by decide), fun H2 s2 => ?_⟩
    have s12 : Same H H2 := s1.trans s2
    refine ⟨_, _, k, _, _, rfl, (h4.same s12).rv, (t1.same s2).rv, g.zk.mono (by decide), g.ztw.mono (by decide), zs.mono (by decide), (by have := g.fit.ypos; grind), fun H3 s3 => ?_⟩
    have s13 : Same H H3 := s12.trans s3
    refine ⟨_, rfl, p, dx, _, rfl, s13 _ _ e, cf_no _ _ _ _, _, rfl, p, _, m, y, o, k, rfl, hc.same s13, g, zj.mono (by decide), fun H4 s4 => ?_⟩
    have s14 : Same H H4 := s13.trans s4
    refine ⟨_, rfl, p, dx, _, rfl, s14 _ _ e, cf_no _ _ _ _, _, rfl, _, _, rfl, rfl, p, _, m, y, o, k, rfl, hc.same s14, g, Sz.add (n := 1400) zi (szi 1 (Nat.one_lt_two_pow (by decide))) (by decide), fun H5 s5 => ⟨_, _, rfl, rfl, _, rfl, ?_⟩⟩
    have s15 : Same H H5 := s14.trans s5
    have q5 := q H5 s15
    unfold miF at q5
    refine ite2 (fun hb => ?_) (fun hb => ?_)
    · rw [if_pos (show mdF y k (jF y k (stF m o i)) < stF m o (i + 1) from of_decide_eq_true hb)] at q5
      exact ⟨_, rfl, q5⟩
    · rw [if_neg (show ¬ mdF y k (jF y k (stF m o i)) < stF m o (i + 1) from fun z => hb (decide_eq_true z))] at q5
      exact q5
end
/-! ### the law's own fractions: tuples in lowest terms -/
theorem int_num (i : Int) : ((i : Rat)).num = i := rfl
theorem int_den (i : Int) : ((i : Rat)).den = 1 := rfl
def Tp (H : Hp) (a : Addr) (q : Rat) : Prop := H a = some (.tup [.int q.num, .int q.den])
theorem Tp.same {H H1 : Hp} {a : Addr} {q : Rat} (h : Tp H a q) (s : Same H H1) : Tp H1 a q := s _ _ h
/-- a fraction not always in lowest terms -/
def Tq (H : Hp) (a : Addr) (n : Nat) (q : Rat) : Prop := ∃ t b : Int, H a = some (.tup [.int t, .int b]) ∧ b ≠ 0 ∧ q = Rat.divInt t b ∧ Sz n t ∧ Sz n b
theorem Tp.tq {H : Hp} {a : Addr} {n : Nat} {q : Rat} (h : Tp H a q) (z : Rz n q) : Tq H a n q := ⟨q.num, q.den, h, Int.ne_of_gt (den_pos q), (Rat.num_divInt_den q).symm, z.1, z.2⟩
theorem Tq.same {H H1 : Hp} {a : Addr} {n : Nat} {q : Rat} (h : Tq H a n q) (s : Same H H1) : Tq H1 a n q := by
  obtain ⟨t, b, e, r⟩ := h
  exact ⟨t, b, s _ _ e, r⟩
def spT2 (g : Rat → Rat → Rat) : Sp := fun vs H Q _ => ∃ (a b : Addr) (x y : Rat), vs = [.ref a, .ref b] ∧ Tq H a 4300 x ∧ Tq H b 4300 y ∧ ∀ r H', H r = none → Same H H' → Tp H' r (g x y) → Q (.ref r) H'
theorem int_div (i : Int) {n : Nat} (h : Sz n i) (h0 : 0 < n) {H : Hp} {t : Addr} : Tq (L2.upd H t (.tup [.int i, .int 1])) t n (i : Rat) := ⟨i, 1, upd_same, by decide, (divInt_one i).symm, h, szi 1 (Nat.one_lt_two_pow (by omega))⟩
section
variable {P : Program} {w : World} {K : PySem.W.Frag} {mg : Str → Option Value} {base : Heap}
theorem ok_lplus (D : Df K mg "_law_plus" s_l_plus []) (lo : Ca P w K mg base CX0 1 "_law_low" s_l_low [] ["_law_top", "_law_bottom"] spLow) : Ca P w K mg base CX0 2 "_law_plus" s_l_plus [] ["_law_one", "_law_two"] (spT2 fun a b => a + b) := by
  refine ca0 (k := 1) D c_l_plus (fun vs H Q E h => ?_) fun f cdv A outer s H vs Q E hr h => ?_
  · obtain ⟨a, b, x, y, rfl, _⟩ := h
    rfl
  · obtain ⟨a, b, x, y, rfl, ⟨t, u, ha, hu, rfl, zt, zu⟩, ⟨t', u', hb, hu', rfl, zt', zu'⟩, q⟩ := h
    refine ⟨_, pss_one (ps_ret (pe_ca lo b_l_low hr (by decide) pass0 rfl (pa_cons (pe_op op_add (pe_op op_mulA (pe_ix ix_tup (pv 0) pe_int (fun _ _ => rfl)) (pe_ix ix_tup (pv 1) pe_int (fun _ _ => rfl))) (pe_op op_mulA (pe_ix ix_tup (pv 1) pe_int (fun _ _ => rfl)) (pe_ix ix_tup (pv 0) pe_int (fun _ _ => rfl))))
      (pa_cons (pe_op op_mulA (pe_ix ix_tup (pv 0) pe_int (fun _ _ => rfl)) (pe_ix ix_tup (pv 1) pe_int (fun _ _ => rfl))) pa_nil)))), ?_⟩
    have mz : ∀ i j : Int, Sz 4300 i → Sz 4300 j → CMulA i j := fun i j hi hj => ⟨hi.mono (by decide), hj.mono (by decide)⟩
    have ha' := SqT.of (K := K) ha
    have hb' := SqT.of (K := K) hb
    refine ⟨_, rfl, a, _, _, _, rfl, rfl, ha', rfl, _, rfl, b, _, _, _, rfl, rfl, hb', rfl, _, _, rfl, rfl, mz _ _ zt zu', _, rfl, b, _, _, _, rfl, rfl, hb', rfl, _, rfl, a, _, _, _, rfl, rfl, ha', rfl, _, _, rfl, rfl, mz _ _ zt' zu, _, _, rfl, rfl,
      _, rfl, a, _, _, _, rfl, rfl, ha', rfl, _, rfl, b, _, _, _, rfl, rfl, hb', rfl, _, _, rfl, rfl, mz _ _ zu zu', _, _, rfl, Int.mul_ne_zero hu hu', ?_, ?_, fun r hr' => ?_⟩
    · exact Sz.add (n := 8600) ((zt.mul zu').mono (by decide)) ((zt'.mul zu).mono (by decide)) (by decide)
    · exact (zu.mul zu').mono (by decide)
    · refine q r _ hr' (Same.new hr') ?_
      show L2.upd H r _ r = _
      rw [upd_same, ← Rat.divInt_add_divInt t t' hu hu']
theorem ok_lby (D : Df K mg "_law_by" s_l_by []) (lo : Ca P w K mg base CX0 1 "_law_low" s_l_low [] ["_law_top", "_law_bottom"] spLow) : Ca P w K mg base CX0 2 "_law_by" s_l_by [] ["_law_one", "_law_two"] (spT2 fun a b => a * b) := by
  refine ca0 (k := 1) D c_l_by (fun vs H Q E h => ?_) fun f cdv A outer s H vs Q E hr h => ?_
  · obtain ⟨a, b, x, y, rfl, _⟩ := h
    rfl
  · obtain ⟨a, b, x, y, rfl, ⟨t, u, ha, hu, rfl, zt, zu⟩, ⟨t', u', hb, hu', rfl, zt', zu'⟩, q⟩ := h
    refine ⟨_, pss_one (ps_ret (pe_ca lo b_l_low hr (by decide) pass0 rfl (pa_cons (pe_op op_mulA (pe_ix ix_tup (pv 0) pe_int (fun _ _ => rfl)) (pe_ix ix_tup (pv 1) pe_int (fun _ _ => rfl)))
      (pa_cons (pe_op op_mulA (pe_ix ix_tup (pv 0) pe_int (fun _ _ => rfl)) (pe_ix ix_tup (pv 1) pe_int (fun _ _ => rfl))) pa_nil)))), ?_⟩
    have mz : ∀ i j : Int, Sz 4300 i → Sz 4300 j → CMulA i j := fun i j hi hj => ⟨hi.mono (by decide), hj.mono (by decide)⟩
    have ha' := SqT.of (K := K) ha
    have hb' := SqT.of (K := K) hb
    refine ⟨_, rfl, a, _, _, _, rfl, rfl, ha', rfl, _, rfl, b, _, _, _, rfl, rfl, hb', rfl, _, _, rfl, rfl, mz _ _ zt zt',
      _, rfl, a, _, _, _, rfl, rfl, ha', rfl, _, rfl, b, _, _, _, rfl, rfl, hb', rfl, _, _, rfl, rfl, mz _ _ zu zu', _, _, rfl, Int.mul_ne_zero hu hu', ?_, ?_, fun r hr' => ?_⟩
    · exact (zt.mul zt').mono (by decide)
    · exact (zu.mul zu').mono (by decide)
    · refine q r _ hr' (Same.new hr') ?_
      show L2.upd H r _ r = _
      rw [upd_same, ← Rat.divInt_mul_divInt t t']
end
/-! the law's calendars -/
def Fo (H : Hp) (r : Addr) (m y o k : Rat) : Prop := ∃ a b c d, H r = some (.tup [.ref a, .ref b, .ref c, .ref d]) ∧ Tp H a m ∧ Tp H b y ∧ Tp H c o ∧ Tp H d k
theorem Fo.same {H H1 : Hp} {r : Addr} {m y o k : Rat} (h : Fo H r m y o k) (s : Same H H1) : Fo H1 r m y o k := by
  obtain ⟨a, b, c, d, e, h1, h2, h3, h4⟩ := h
  exact ⟨a, b, c, d, s _ _ e, h1.same s, h2.same s, h3.same s, h4.same s⟩
theorem Good.zma {m y o k : Rat} (g : Good m y o k) {n l : Nat} {i : Int} (h : Sz n i) (h0 : 0 < n) (hl : n + 150 < l) : Sz l (maF m o i) := by
  have z1 : Sz (n + 1) (i + 1) := Sz.add h (szi 1 (Nat.one_lt_two_pow (by omega))) (by omega)
  have z2 : Sz (n + 146) ((((i + 1 : Int) : Rat) - o) / m).ceil := Sz.ceil (Rz.div (m := n + 146) (Rz.sub (m := n + 75) (Rz.int z1 (by omega)) g.zo (by omega)) g.zm (by have := g.fit.pos; grind) (by omega))
  exact (Sz.sub z2 (szi 1 (Nat.one_lt_two_pow (by omega))) (by omega : n + 146 < n + 150)).mono (by omega)
/-! ### names of months -/
theorem mi_ahead {m y o k : Rat} (f : Fit m y) (i : Int) (h : ¬ mdF y k (jF y k (stF m o i)) < stF m o (i + 1)) : mdF y k (jF y k (stF m o (i - 1))) < stF m o i := by
  have two := two_months (m := m) (y := y) (o := o) (k := k) f i
  apply Int.not_le.mp
  intro hge
  have hlt : mdF y k (jF y k (stF m o (i - 1)) - 1) < stF m o (i - 1) := (md_lt f.ypos).mpr (by omega)
  have st0 := st_step (o := o) f.one (i - 1)
  rw [show i - 1 + 1 = i by omega] at st0
  have h1 : jF y k (stF m o (i - 1)) - 1 < jF y k (stF m o i) := (md_lt f.ypos).mp (by omega)
  have h2 : ¬ jF y k (stF m o (i - 1)) < jF y k (stF m o i) := fun z => by
    have := (md_lt f.ypos).mpr z
    omega
  have h3 : jF y k (stF m o (i - 1)) = jF y k (stF m o i) := by omega
  rw [h3] at two
  exact h two
/-- the mark that names a month, and whether it is the month's own -/
def nmJ (m y o k : Rat) (i : Int) : Int := if mdF y k (jF y k (stF m o i)) < stF m o (i + 1) then jF y k (stF m o i) else jF y k (stF m o (i - 1))
def nmO (m y o k : Rat) (i : Int) : Bool := !decide (mdF y k (jF y k (stF m o i)) < stF m o (i + 1))
def nmL (m y o k : Rat) (i : Int) : List V := [.int (nmJ m y o k i / 12), .int (nmJ m y o k i % 12 + 1), .bl (nmO m y o k i)]
theorem nm_own {m y o k : Rat} {i : Int} (h : mdF y k (jF y k (stF m o i)) < stF m o (i + 1)) : miF m y o k i = .int (nmJ m y o k i) ∧ nmO m y o k i = false := by
  unfold miF nmJ nmO
  rw [if_pos h, if_pos h, decide_eq_true h]
  exact ⟨rfl, rfl⟩
theorem nm_odd {m y o k : Rat} (f : Fit m y) {i : Int} (h : ¬ mdF y k (jF y k (stF m o i)) < stF m o (i + 1)) : miF m y o k i = .non ∧ miF m y o k (i - 1) = .int (nmJ m y o k i) ∧ nmO m y o k i = true ∧ nmO m y o k (i - 1) = false ∧ nmJ m y o k (i - 1) = nmJ m y o k i := by
  have a := mi_ahead f i h
  have a' : mdF y k (jF y k (stF m o (i - 1))) < stF m o (i - 1 + 1) := by rw [show i - 1 + 1 = i by omega]; exact a
  unfold miF nmJ nmO
  rw [if_neg h, if_neg h, decide_eq_false h, if_pos a', if_pos a', decide_eq_true a']
  exact ⟨rfl, rfl, rfl, rfl, rfl⟩
def spName (C Cc : Addr) : Sp := fun vs H Q _ => ∃ (p : Addr) (i : Int) (m y o k : Rat), vs = [.ref p, .int i] ∧ Cl C Cc H p m y o k ∧ Good m y o k ∧ Sz 1390 i ∧ ∀ r H', H r = none → Same H H' → H' r = some (.tup (nmL m y o k i)) → Q (.ref r) H'
def spLName : Sp := fun vs H Q _ => ∃ (r : Addr) (i : Int) (m y o k : Rat), vs = [.ref r, .int i] ∧ Fo H r m y o k ∧ Good m y o k ∧ Sz 1390 i ∧ ∀ r' H', H r' = none → Same H H' → H' r' = some (.tup (nmL m y o k i)) → Q (.ref r') H'
def spIsName : Sp := fun vs H Q _ => ∃ (r : Addr) (a b : Int) (c : Bool), vs = [.ref r] ∧ H r = some (.tup [.int a, .int b, .bl c]) ∧ Q (.bl true) H
section
variable {P : Program} {w : World} {K : PySem.W.Frag} {mg : Str → Option Value} {base : Heap} {C Cc : Addr}
theorem ok_name (D : Dm K Cc "name_of" "Calendar.name_of" s_Calendar_name_of) (f_mark_in : Cm P w K mg base CX0 8 Cc "mark_in" "Calendar.mark_in" s_Calendar_mark_in ["self", "k"] (spM1 C Cc 1400 miF)) {tk : Tok} (h_MARKS : mg "MARKS" = some (.int 12 tk)) : Cm P w K mg base CX0 9 Cc "name_of" "Calendar.name_of" s_Calendar_name_of ["self", "k"] (spName C Cc) := by
  refine cm0 (k := 8) D c_Calendar_name_of (fun vs H Q E h => ?_) fun f cdv A outer s H vs Q E hr h => ?_
  · obtain ⟨p, i, m, y, o, k, rfl, _⟩ := h
    rfl
  · obtain ⟨p, i, m, y, o, k, rfl, hc, g, zi, q⟩ := h
    obtain ⟨dx, a, b, c, d, e, h1, h2, h3, h4⟩ := id hc
    refine ⟨_, (pss_cons (ps_set (i := 2) c_Calendar_name_of.nd rfl (.inl rfl) (pe_cm f_mark_in b_Calendar_mark_in hr (by decide) pass0 (pv 0) (pa_cons (pv 1) pa_nil)))
      (pss_cons (ps_set (i := 3) c_Calendar_name_of.nd rfl (.inl rfl) (pe_cmp (pc_isN (pv 2))))
      (pss_cons (ps_if (pt_val (pv 3)) (pss_one (ps_set (i := 2) c_Calendar_name_of.nd rfl (.inl rfl) (pe_cm f_mark_in b_Calendar_mark_in hr (by decide) pass0 (pv 0) (pa_cons (pe_op op_sub (pv 1) pe_int) pa_nil)))) pss_nil)
      (pss_one (ps_ret (pe_tup (pa_cons (pe_op op_fdiv (pv 2) (pe_glob (v := .int 12) rfl h_MARKS ⟨_, rfl⟩)) (pa_cons (pe_op op_add (pe_op op_mod (pv 2) (pe_glob (v := .int 12) rfl h_MARKS ⟨_, rfl⟩)) pe_int) (pa_cons (pv 3) pa_nil))))))))), ?_⟩
    refine ⟨_, rfl, p, dx, _, rfl, e, cf_no _ _ _ _, _, rfl, p, i, m, y, o, k, rfl, hc, g, zi.mono (by decide), fun H1 s1 => ?_⟩
    refine ⟨_, rfl, _, rfl, _, rfl, ?_⟩
    by_cases hmi : mdF y k (jF y k (stF m o i)) < stF m o (i + 1)
    · obtain ⟨e1, e2⟩ := nm_own hmi
      rw [e1]
      refine iteF ?_
      refine ⟨_, rfl, _, _, rfl, rfl, ⟨by decide, by decide⟩, _, rfl, _, _, rfl, rfl, md, _, _, rfl, rfl, _, rfl, (by show 3 ≤ sizeLine; decide), fun r hr' => ?_⟩
      refine q r _ (s1.free hr') (Same.upd s1 hr') ?_
      rw [upd_same]
      unfold nmL
      rw [e2]
      rfl
    · obtain ⟨e1, e2, e3, _⟩ := nm_odd g.fit hmi
      rw [e1]
      refine iteT ?_
      refine ⟨_, rfl, p, dx, _, rfl, s1 _ _ e, cf_no _ _ _ _, _, rfl, _, _, rfl, rfl, p, _, m, y, o, k, rfl, hc.same s1, g, Sz.sub (n := 1390) zi (szi 1 (Nat.one_lt_two_pow (by decide))) (by decide), fun H2 s2 => ?_⟩
      rw [e2]
      refine ⟨_, rfl, _, _, rfl, rfl, ⟨by decide, by decide⟩, _, rfl, _, _, rfl, rfl, md, _, _, rfl, rfl, _, rfl, (by show 3 ≤ sizeLine; decide), fun r hr' => ?_⟩
      refine q r _ ((s1.trans s2).free hr') (Same.upd (s1.trans s2) hr') ?_
      rw [upd_same]
      unfold nmL
      rw [e3]
      rfl
end
/-! ### the months of a year -/
/-- the month with a mark -/
def mwF (m y o k : Rat) (j : Int) : Int := maF m o (mdF y k j)
theorem mw_in {m y o k : Rat} (f : Fit m y) (j : Int) : stF m o (mwF m y o k j) ≤ mdF y k j ∧ mdF y k j < stF m o (mwF m y o k j + 1) := ⟨st_ma f.pos _, ma_st f.pos _⟩
theorem mw_step {m y o k : Rat} (f : Fit m y) (j : Int) : mwF m y o k j + 1 ≤ mwF m y o k (j + 1) := by
  have h1 := mw_in (o := o) (k := k) f j
  have h2 := mw_in (o := o) (k := k) f (j + 1)
  have h3 : mdF y k j ≤ mdF y k (j + 1) := md_mono f.ypos (by omega)
  have h4 : mwF m y o k j ≤ mwF m y o k (j + 1) := (st_le f.pos).mp (Int.le_trans h1.1 h3)
  rcases Int.lt_or_eq_of_le h4 with h | h
  · omega
  · rw [← h] at h2
    have a := one_mark f h1.1 h1.2
    have b := one_mark f h2.1 h2.2
    omega
theorem mw_add {m y o k : Rat} (f : Fit m y) (j : Int) : ∀ t : Nat, mwF m y o k j + t ≤ mwF m y o k (j + t)
  | 0 => by rw [show j + ((0 : Nat) : Int) = j by omega]; omega
  | t + 1 => by
    have h1 := mw_add (o := o) (k := k) f j t
    have h2 := mw_step (o := o) (k := k) f (j + t)
    rw [show j + ((t + 1 : Nat) : Int) = j + t + 1 by omega]
    omega
theorem mw_lt {m y o k : Rat} (f : Fit m y) {i j : Int} (h : i < j) : mwF m y o k i < mwF m y o k j := by
  obtain ⟨t, rfl⟩ : ∃ t : Nat, j = i + t := ⟨(j - i).toNat, by omega⟩
  have := mw_add (o := o) (k := k) f i t
  omega
theorem mw_most {m y o k : Rat} (f : Fit m y) (j : Int) : mwF m y o k (j + 12) ≤ mwF m y o k j + 13 := by
  have h1 := mw_in (o := o) (k := k) f j
  have h2 := mw_in (o := o) (k := k) f (j + 12)
  generalize mwF m y o k j = M at *
  apply Int.not_lt.mp
  intro hlt
  have h3 : stF m o (M + 14) ≤ mdF y k (j + 12) := Int.le_trans ((st_le f.pos).mpr (by rw [show mwF m y o k (j + 12) = maF m o (mdF y k (j + 12)) from rfl] at hlt; rw [show maF m o (mdF y k (j + 12)) = maF m o (mdF y k (j + 12)) from rfl]; omega)) (Int.le_refl _)
  have f13 := f.thirteen
  have a1 : k + (j : Rat) * (y / 12) < ((stF m o (M + 1) : Int) : Rat) := by
    have := (floor_le_iff (q := k + (j : Rat) * (y / 12)) (i := stF m o (M + 1) - 1)).mp (by have : mdF y k j < stF m o (M + 1) := h1.2; unfold mdF at this; omega)
    rw [show stF m o (M + 1) - 1 + 1 = stF m o (M + 1) by omega] at this
    exact this
  have a2 : ((stF m o (M + 1) : Int) : Rat) ≤ o + ((M + 1 : Int) : Rat) * m := int_le_floor.mp (Int.le_refl _)
  have a3 : ((stF m o (M + 14) : Int) : Rat) ≤ k + ((j + 12 : Int) : Rat) * (y / 12) := int_le_floor.mp h3
  have a4 : o + ((M + 14 : Int) : Rat) * m < ((stF m o (M + 14) + 1 : Int) : Rat) := floor_le_iff.mp (Int.le_refl _)
  have c1 : ((M + 1 : Int) : Rat) = (M : Rat) + 1 := cast_add1 M
  have c14 : ((M + 14 : Int) : Rat) = (M : Rat) + 14 := by rw [Rat.intCast_add]; rfl
  have c12 : ((j + 12 : Int) : Rat) = (j : Rat) + 12 := by rw [Rat.intCast_add]; rfl
  rw [cast_add1] at a4
  rw [c1] at a2
  rw [c14] at a4
  rw [c12] at a3
  generalize ((stF m o (M + 1) : Int) : Rat) = S1 at *
  generalize ((stF m o (M + 14) : Int) : Rat) = S2 at *
  generalize (M : Rat) = Mq at *
  generalize (j : Rat) = jq at *
  grind
/-- a month with a mark, and one without -/
theorem nm_with {m y o k : Rat} (f : Fit m y) {i j : Int} (h : mwF m y o k j = i) : nmJ m y o k i = j ∧ nmO m y o k i = false := by
  have h1 := mw_in (o := o) (k := k) f j
  rw [h] at h1
  have e := one_mark f h1.1 h1.2
  have h2 : mdF y k (jF y k (stF m o i)) < stF m o (i + 1) := by rw [e]; exact h1.2
  unfold nmJ nmO
  rw [if_pos h2, e, decide_eq_true (by rw [← e]; exact h2)]
  exact ⟨rfl, rfl⟩
theorem nm_without {m y o k : Rat} (f : Fit m y) {i : Int} (h : ∀ j, mwF m y o k j ≠ i) : nmO m y o k i = true ∧ nmJ m y o k i = nmJ m y o k (i - 1) := by
  by_cases c : mdF y k (jF y k (stF m o i)) < stF m o (i + 1)
  · exact absurd (ma_of f.pos (md_ge f.ypos _) c) (h _)
  · obtain ⟨_, _, h3, _, h5⟩ := nm_odd f c
    exact ⟨h3, h5.symm⟩
/-- p is the place of the odd month, 12 where there is none -/
structure YrN (m y o k : Rat) (a : Int) (p e : Nat) : Prop where
  e1 : e ≤ 1
  p1 : 1 ≤ p
  p12 : p ≤ 12
  pe : e = 0 → p = 12
  last : mwF m y o k (12 * a + 12) = mwF m y o k (12 * a) + 12 + e
  nm : ∀ i : Nat, i < 12 + e → nmO m y o k (mwF m y o k (12 * a) + i) = decide (i = p) ∧ nmJ m y o k (mwF m y o k (12 * a) + i) = 12 * a + (if i < p then (i : Int) else (i : Int) - 1)
theorem year_names {m y o k : Rat} (f : Fit m y) (a : Int) : ∃ p e : Nat, YrN m y o k a p e := by
  generalize hF : mwF m y o k (12 * a) = F
  have up : ∀ t : Nat, F + t ≤ mwF m y o k (12 * a + t) := fun t => by rw [← hF]; exact mw_add f _ t
  have l12 := mw_most (o := o) (k := k) f (12 * a)
  rw [hF] at l12
  have u12 := up 12
  have dn : ∀ t : Nat, t ≤ 12 → mwF m y o k (12 * a + t) + (12 - t : Nat) ≤ mwF m y o k (12 * a + 12) := fun t ht => by
    have := mw_add (o := o) (k := k) f (12 * a + t) (12 - t)
    rw [show 12 * a + (t : Int) + ((12 - t : Nat) : Int) = 12 * a + 12 by omega] at this
    exact this
  have u12' : F + 12 ≤ mwF m y o k (12 * a + 12) := u12
  by_cases c : mwF m y o k (12 * a + 12) = F + 12
  · refine ⟨12, 0, by omega, by omega, by omega, fun _ => rfl, by rw [hF, c]; omega, fun i hi => ?_⟩
    have e : mwF m y o k (12 * a + i) = F + i := by
      have := up i
      have := dn i (by omega)
      omega
    rw [hF]
    obtain ⟨h1, h2⟩ := nm_with f e
    rw [h1, h2, if_pos (by omega), decide_eq_false (by omega)]
    exact ⟨rfl, rfl⟩
  · have c13 : mwF m y o k (12 * a + 12) = F + 13 := by omega
    have two : ∀ t : Nat, t ≤ 12 → mwF m y o k (12 * a + t) = F + t ∨ mwF m y o k (12 * a + t) = F + t + 1 := fun t ht => by
      have := up t
      have := dn t ht
      omega
    -- the least t that is put off
    have ex : ∃ p : Nat, p ≤ 12 ∧ mwF m y o k (12 * a + p) = F + p + 1 ∧ ∀ t : Nat, t < p → mwF m y o k (12 * a + t) = F + t := by
      have go : ∀ n : Nat, n ≤ 12 → (∀ t : Nat, t < n → mwF m y o k (12 * a + t) = F + t) ∨ ∃ p : Nat, p ≤ 12 ∧ mwF m y o k (12 * a + p) = F + p + 1 ∧ ∀ t : Nat, t < p → mwF m y o k (12 * a + t) = F + t := by
        intro n
        induction n with
        | zero => intro _; exact .inl fun t ht => absurd ht (Nat.not_lt_zero t)
        | succ n ih =>
          intro hn
          rcases ih (by omega) with h | h
          · rcases two n (by omega) with h2 | h2
            · refine .inl fun t ht => ?_
              by_cases e : t = n
              · rw [e]
                exact h2
              · exact h t (by omega)
            · exact .inr ⟨n, by omega, h2, h⟩
          · exact .inr h
      rcases go 12 (by omega) with h | h
      · exact ⟨12, by omega, by rw [show 12 * a + ((12 : Nat) : Int) = 12 * a + 12 from rfl, c13]; omega, h⟩
      · exact h
    obtain ⟨p, p12, hp, hlt⟩ := ex
    have p1 : 1 ≤ p := by
      apply Nat.one_le_iff_ne_zero.mpr
      intro z
      subst z
      rw [show 12 * a + ((0 : Nat) : Int) = 12 * a by omega, hF] at hp
      omega
    refine ⟨p, 1, by omega, p1, p12, fun z => absurd z (by decide), by rw [hF, c13]; omega, fun i hi => ?_⟩
    rw [hF]
    by_cases c1 : i < p
    · obtain ⟨h1, h2⟩ := nm_with f (hlt i c1)
      rw [h1, h2, if_pos c1, decide_eq_false (by omega)]
      exact ⟨rfl, rfl⟩
    · rw [if_neg c1]
      by_cases c2 : i = p
      · subst c2
        rw [decide_eq_true rfl]
        have no : ∀ j, mwF m y o k j ≠ F + i := fun j hj => by
          have h1 : 12 * a + ((i - 1 : Nat) : Int) < j := by
            apply Int.not_le.mp
            intro z
            have e1 := hlt (i - 1) (by omega)
            rcases Int.lt_or_eq_of_le z with z | z
            · have := mw_lt (o := o) (k := k) f z
              omega
            · rw [z] at hj
              omega
          have h2 : j < 12 * a + (i : Int) := by
            apply Int.not_le.mp
            intro z
            rcases Int.lt_or_eq_of_le z with z | z
            · have := mw_lt (o := o) (k := k) f z
              omega
            · rw [← z] at hj
              omega
          omega
        obtain ⟨h1, h2⟩ := nm_without f no
        refine ⟨h1, ?_⟩
        rw [h2, show F + (i : Int) - 1 = F + ((i - 1 : Nat) : Int) by omega, (nm_with f (hlt (i - 1) (by omega))).1]
        omega
      · have e : mwF m y o k (12 * a + ((i - 1 : Nat) : Int)) = F + (i : Int) := by
          have h1 := two (i - 1) (by omega)
          have h2 := mw_add (o := o) (k := k) f (12 * a + p) (i - 1 - p)
          rw [show 12 * a + (p : Int) + ((i - 1 - p : Nat) : Int) = 12 * a + ((i - 1 : Nat) : Int) by omega, hp] at h2
          omega
        obtain ⟨h1, h2⟩ := nm_with f e
        rw [h1, h2, decide_eq_false c2]
        exact ⟨rfl, by omega⟩
/-- the name of the i-th month of a year -/
def nfN (p i : Nat) : Int := if i < p then (i : Int) + 1 else (i : Int)
theorem YrN.name {m y o k : Rat} {a : Int} {p e : Nat} (h : YrN m y o k a p e) {i : Nat} (hi : i < 12 + e) : nmL m y o k (mwF m y o k (12 * a) + i) = [.int a, .int (nfN p i), .bl (decide (i = p))] := by
  obtain ⟨h1, h2⟩ := h.nm i hi
  have p1 := h.p1
  have p12 := h.p12
  have e1 := h.e1
  have pe := h.pe
  have r : ∀ u : Int, 0 ≤ u → u < 12 → (12 * a + u) / 12 = a ∧ (12 * a + u) % 12 = u := fun u h0 h1 => by constructor <;> omega
  unfold nmL nfN
  rw [h1, h2]
  by_cases c : i < p
  · obtain ⟨r1, r2⟩ := r i (by omega) (by omega)
    rw [if_pos c, if_pos c, r1, r2]
  · obtain ⟨r1, r2⟩ := r ((i : Int) - 1) (by omega) (by omega)
    rw [if_neg c, if_neg c, r1, r2, show (i : Int) - 1 + 1 = i by omega]
theorem all_p {P : Nat → Nat → Prop} (h0 : P 12 0) (h1 : ∀ p, 1 ≤ p → p ≤ 12 → P p 1) {m y o k : Rat} {a : Int} {p e : Nat} (h : YrN m y o k a p e) : P p e := by
  have e1 := h.e1
  rcases Nat.le_one_iff_eq_zero_or_eq_one.mp e1 with z | z
  · rw [z, h.pe z]
    exact h0
  · rw [z]
    exact h1 p h.p1 h.p12
theorem plain_all {m y o k : Rat} {a : Int} {p e : Nat} (h : YrN m y o k a p e) : ((List.range (12 + e)).filter (fun i => !decide (i = p))).map (nfN p) = [1, 2, 3, 4, 5, 6, 7, 8, 9, 10, 11, 12] := by
  refine all_p (P := fun p e => ((List.range (12 + e)).filter (fun i => !decide (i = p))).map (nfN p) = [1, 2, 3, 4, 5, 6, 7, 8, 9, 10, 11, 12]) (by decide) (fun p h1 h2 => ?_) h
  have : ∀ p : Nat, p < 13 → 1 ≤ p → ((List.range (12 + 1)).filter (fun i => !decide (i = p))).map (nfN p) = [1, 2, 3, 4, 5, 6, 7, 8, 9, 10, 11, 12] := by decide
  exact this p (by omega) h1
theorem odd_all {m y o k : Rat} {a : Int} {p e : Nat} (h : YrN m y o k a p e) : ((List.range (12 + e)).filter (fun i => decide (i = p))).length = e := by
  refine all_p (P := fun p e => ((List.range (12 + e)).filter (fun i => decide (i = p))).length = e) (by decide) (fun p h1 h2 => ?_) h
  have : ∀ p : Nat, p < 13 → 1 ≤ p → ((List.range (12 + 1)).filter (fun i => decide (i = p))).length = 1 := by decide
  exact this p (by omega) h1
theorem rise_all {m y o k : Rat} {a : Int} {p e : Nat} (h : YrN m y o k a p e) : ((List.range (12 + e)).map fun i => (nfN p i, decide (i = p))).Pairwise (fun x y => SrtO.lexB (kB y) (kB x) = false) := by
  refine all_p (P := fun p e => ((List.range (12 + e)).map fun i => (nfN p i, decide (i = p))).Pairwise (fun x y => SrtO.lexB (kB y) (kB x) = false)) (by decide) (fun p h1 h2 => ?_) h
  have : ∀ p : Nat, p < 13 → 1 ≤ p → ((List.range (12 + 1)).map fun i => (nfN p i, decide (i = p))).Pairwise (fun x y => SrtO.lexB (kB y) (kB x) = false) := by decide
  exact this p (by omega) h1
/-- how long months are -/
theorem st_len {m o : Rat} (h1 : 1 ≤ m) (i : Int) : 1 ≤ stF m o (i + 1) - stF m o i ∧ m.floor ≤ stF m o (i + 1) - stF m o i ∧ stF m o (i + 1) - stF m o i ≤ m.floor + 1 := by
  have a := st_step (o := o) h1 i
  have b1 : ((stF m o i : Int) : Rat) ≤ o + (i : Rat) * m := int_le_floor.mp (Int.le_refl _)
  have b2 : o + (i : Rat) * m < ((stF m o i + 1 : Int) : Rat) := floor_le_iff.mp (Int.le_refl _)
  have c1 : ((stF m o (i + 1) : Int) : Rat) ≤ o + ((i + 1 : Int) : Rat) * m := int_le_floor.mp (Int.le_refl _)
  have c2 : o + ((i + 1 : Int) : Rat) * m < ((stF m o (i + 1) + 1 : Int) : Rat) := floor_le_iff.mp (Int.le_refl _)
  have d1 : ((m.floor : Int) : Rat) ≤ m := int_le_floor.mp (Int.le_refl _)
  have d2 : m < ((m.floor + 1 : Int) : Rat) := floor_le_iff.mp (Int.le_refl _)
  rw [cast_add1] at b2 c1 c2 d2
  rw [cast_add1] at c2
  refine ⟨by omega, ?_, ?_⟩
  · apply Int.not_lt.mp
    intro z
    have z2 : stF m o (i + 1) + 1 ≤ stF m o i + m.floor := by omega
    have z3 : ((stF m o (i + 1) + 1 : Int) : Rat) ≤ ((stF m o i + m.floor : Int) : Rat) := by exact_mod_cast z2
    rw [Rat.intCast_add, Rat.intCast_add] at z3
    have : ((1 : Int) : Rat) = 1 := rfl
    grind
  · apply Int.not_lt.mp
    intro z
    have z2 : stF m o i + m.floor + 2 ≤ stF m o (i + 1) := by omega
    have z3 : ((stF m o i + m.floor + 2 : Int) : Rat) ≤ ((stF m o (i + 1) : Int) : Rat) := by exact_mod_cast z2
    rw [Rat.intCast_add, Rat.intCast_add] at z3
    have : ((2 : Int) : Rat) = 2 := rfl
    grind
theorem znat {n : Nat} (j : Nat) (h : j < 1024) (hn : 10 ≤ n) : Sz n (j : Int) := Nat.lt_of_lt_of_le (show (j : Int).natAbs < 2 ^ 10 by omega) (Nat.pow_le_pow_right (by decide) hn)
theorem zadd {n l : Nat} {i : Int} (h : Sz n i) (c : Int) (hc : c.natAbs ≤ 16 := by decide) (h4 : 5 ≤ n := by decide) (hl : n < l := by decide) : Sz l (i + c) := by
  refine Sz.add h (n := n) ?_ hl
  exact Nat.lt_of_lt_of_le (Nat.lt_of_le_of_lt hc (by decide : 16 < 2 ^ 5)) (Nat.pow_le_pow_right (by decide) h4)
theorem zsub {n l : Nat} {i : Int} (h : Sz n i) (c : Int) (hc : c.natAbs ≤ 16 := by decide) (h4 : 5 ≤ n := by decide) (hl : n < l := by decide) : Sz l (i - c) := by
  refine Sz.sub h (n := n) ?_ hl
  exact Nat.lt_of_lt_of_le (Nat.lt_of_le_of_lt hc (by decide : 16 < 2 ^ 5)) (Nat.pow_le_pow_right (by decide) h4)
theorem zdiv {n : Nat} {i : Int} (h : Sz n i) : Sz n (i / 12) := Nat.lt_of_le_of_lt (natAbs_ediv_le (b := 12) i) h
theorem Good.znm {m y o k : Rat} (g : Good m y o k) {n l : Nat} {i : Int} (h : Sz n i) (h0 : 5 ≤ n) (hl : n + 320 < l) : Sz l (nmJ m y o k i) := by
  have z1 : Sz (n + 151) (stF m o i) := g.zst h (by omega) (by omega)
  have z2 : Sz (n + 152) (stF m o (i - 1)) := g.zst (zsub (l := n + 1) h 1 (by decide) h0 (by omega)) (by omega) (by omega)
  unfold nmJ
  split
  · exact g.zj z1 (by omega) (by omega)
  · exact g.zj z2 (by omega) (by omega)
def dtY (m y o k : Rat) (i : Int) : Int := nmJ m y o k (maF m o i) / 12
def dtN (m y o k : Rat) (i : Int) : Int := nmJ m y o k (maF m o i) % 12 + 1
def dtD (m o : Rat) (i : Int) : Int := i - stF m o (maF m o i) + 1
def dtO (m y o k : Rat) (i : Int) : Bool := nmO m y o k (maF m o i)
/-- a year is no greater than its day, but for what month and mark bring -/
theorem Good.zdY {m y o k : Rat} (g : Good m y o k) {n : Nat} {i : Int} (h : Sz n i) (hn : 75 ≤ n) : Sz (n + 2) (dtY m y o k i) := by
  have f := g.fit
  have s1 := st_ma (o := o) f.pos i
  have s2 := ma_st (o := o) f.pos i
  have w1 := st_w (o := o) f (maF m o i)
  have w0 := st_w (o := o) f (maF m o i - 1)
  rw [show maF m o i - 1 + 1 = maF m o i by omega] at w0
  have zc : Sz 70 m.ceil := Sz.ceil g.zm
  have zk : Sz 70 k.floor := Sz.floor g.zk
  have mk : stF m o (maF m o i - 1) ≤ mdF y k (nmJ m y o k (maF m o i)) ∧ mdF y k (nmJ m y o k (maF m o i)) < stF m o (maF m o i + 1) := by
    by_cases hm : mdF y k (jF y k (stF m o (maF m o i))) < stF m o (maF m o i + 1)
    · have e1 : nmJ m y o k (maF m o i) = jF y k (stF m o (maF m o i)) := by unfold nmJ; rw [if_pos hm]
      rw [e1]
      have a1 := md_ge (y := y) (k := k) f.ypos (stF m o (maF m o i))
      have a2 := st_step (o := o) f.one (maF m o i - 1)
      rw [show maF m o i - 1 + 1 = maF m o i by omega] at a2
      exact ⟨by omega, hm⟩
    · have e1 : nmJ m y o k (maF m o i) = jF y k (stF m o (maF m o i - 1)) := by unfold nmJ; rw [if_neg hm]
      rw [e1]
      have a1 := md_ge (y := y) (k := k) f.ypos (stF m o (maF m o i - 1))
      have a2 := mi_ahead (o := o) (k := k) f (maF m o i) hm
      have a3 := st_step (o := o) f.one (maF m o i)
      exact ⟨a1, by omega⟩
  have t1 : 1 ≤ y / 12 := by
    have b1 := f.one
    have b2 := f.between
    have b3 : m ≤ (m.ceil : Rat) := by
      apply Rat.not_lt.mp
      intro z
      have := lt_ceil_iff (q := m) (i := m.ceil) |>.mpr z
      omega
    grind
  generalize hJ : nmJ m y o k (maF m o i) = J at mk
  have md1 := int_le_floor (i := mdF y k J) (x := k + (J : Rat) * (y / 12)) |>.mp (Int.le_refl _)
  have md2 := floor_le_iff (q := k + (J : Rat) * (y / 12)) (i := mdF y k J) |>.mp (Int.le_refl _)
  rw [cast_add1] at md2
  have kf := int_le_floor (i := k.floor) (x := k) |>.mp (Int.le_refl _)
  have kl := floor_le_iff (q := k) (i := k.floor) |>.mp (Int.le_refl _)
  rw [cast_add1] at kl
  have up : 0 ≤ J → J ≤ mdF y k J - k.floor + 1 := fun h0 => by
    have c0 : (0 : Rat) ≤ (J : Rat) := by exact_mod_cast h0
    have c1 := Rat.mul_le_mul_of_nonneg_left t1 c0
    have c2 : ((J : Int) : Rat) ≤ ((mdF y k J - k.floor + 1 : Int) : Rat) := by
      rw [cast_add1, Rat.intCast_sub]
      grind
    exact_mod_cast c2
  have dn : J ≤ 0 → mdF y k J - k.floor - 1 ≤ J := fun h0 => by
    have c0 : (J : Rat) ≤ 0 := by exact_mod_cast h0
    have c1 : (J : Rat) * (y / 12) ≤ (J : Rat) := by
      have := Rat.mul_le_mul_of_nonneg_left t1 (show (0 : Rat) ≤ -(J : Rat) by grind)
      grind
    have c2 : ((mdF y k J - k.floor - 1 : Int) : Rat) ≤ ((J : Int) : Rat) := by
      rw [Rat.intCast_sub, Rat.intCast_sub]
      have : ((1 : Int) : Rat) = 1 := rfl
      grind
    exact_mod_cast c2
  have zJ : Sz (n + 2) J := by
    have p1 : (2 : Nat) ^ 75 ≤ 2 ^ n := Nat.pow_le_pow_right (by decide) hn
    have p2 : (2 : Nat) ^ (n + 2) = 2 ^ n * 4 := by rw [Nat.pow_add]
    have p3 : (2 : Nat) ^ 75 = 2 ^ 70 * 32 := by decide
    unfold Sz at *
    omega
  unfold dtY
  rw [hJ]
  exact Nat.lt_of_le_of_lt (Int.natAbs_ediv_le_natAbs _ _) zJ
def spDaysOf (C Cc : Addr) : Sp := fun vs H Q _ => ∃ (p : Addr) (i j : Int) (m y o k : Rat), vs = [.ref p, .int i, .int j] ∧ Cl C Cc H p m y o k ∧ Good m y o k ∧ Sz 1500 i ∧ Sz 1500 j ∧ ∀ H', Same H H' → Q (.int (stF m o (i + j) - stF m o i)) H'
section
variable {P : Program} {w : World} {K : PySem.W.Frag} {mg : Str → Option Value} {base : Heap} {C Cc : Addr}
theorem ok_daysof (D : Df K mg "days_of" s_days_of []) (f_start : Cm P w K mg base CX0 7 Cc "start" "Calendar.start" s_Calendar_start ["self", "k"] (spM1 C Cc 3000 fun m _ o _ i => .int (stF m o i))) : Ca P w K mg base CX0 8 "days_of" s_days_of [] ["calendar", "k", "many"] (spDaysOf C Cc) := by
  refine ca0 (k := 7) D c_days_of (fun vs H Q E h => ?_) fun f cdv A outer s H vs Q E hr h => ?_
  · obtain ⟨p, i, j, m, y, o, k, rfl, _⟩ := h
    rfl
  · obtain ⟨p, i, j, m, y, o, k, rfl, hc, g, zi, zj, q⟩ := h
    obtain ⟨dx, a, b, c, d, e, h1, h2, h3, h4⟩ := id hc
    refine ⟨_, (pss_one (ps_ret (pe_op op_sub (pe_cm f_start b_Calendar_start hr (by decide) pass0 (pv 0) (pa_cons (pe_op op_add (pv 1) (pv 2)) pa_nil)) (pe_cm f_start b_Calendar_start hr (by decide) pass0 (pv 0) (pa_cons (pv 1) pa_nil))))), ?_⟩
    refine ⟨_, rfl, p, dx, _, rfl, e, cf_no _ _ _ _, _, rfl, _, rfl, _, _, rfl, rfl, p, _, m, y, o, k, rfl, hc, g, (Sz.add zi zj (by decide : 1500 < 1600)).mono (by decide), fun H1 s1 => ?_⟩
    refine ⟨_, rfl, p, dx, _, rfl, s1 _ _ e, cf_no _ _ _ _, _, rfl, p, i, m, y, o, k, rfl, hc.same s1, g, zi.mono (by decide), fun H2 s2 => ⟨_, _, rfl, rfl, q H2 (s1.trans s2)⟩⟩
end
/-! ### months of dates -/
def pmF (m y o k : Rat) (a b : Int) : Int := maF m o (mdF y k (12 * a + b - 1))
def hasM (m y o k : Rat) (i : Int) : Prop := mdF y k (jF y k (stF m o i)) < stF m o (i + 1)
instance {m y o k : Rat} {i : Int} : Decidable (hasM m y o k i) := by
  unfold hasM
  exact inferInstance
theorem miF_eq (m y o k : Rat) (i : Int) : miF m y o k i = if hasM m y o k i then .int (jF y k (stF m o i)) else .non := rfl
/-- the month of a date, or why there is none -/
def moF (m y o k : Rat) (a b : Int) (od : Bool) : Sum Str Int := if b < 1 then .inl "number" else if 12 < b then .inl "number" else if od = true then (if hasM m y o k (pmF m y o k a b + 1) then .inl "odd" else .inr (pmF m y o k a b + 1)) else .inr (pmF m y o k a b)
def dyF (m y o k : Rat) (a b c : Int) (od : Bool) : Sum Str Int := match moF m y o k a b od with
  | .inl w => .inl w
  | .inr i => if c < 1 then .inl "day" else if stF m o (i + 1) - stF m o i < c then .inl "day" else .inr (stF m o i + c - 1)
theorem Good.zpm {m y o k : Rat} (g : Good m y o k) {a b : Int} (ha : Sz 900 a) (hb : Sz 900 b) : Sz 906 (12 * a + b - 1) ∧ Sz 1218 (pmF m y o k a b) := by
  have h1 : Sz 904 (12 * a) := Sz.mul (szi (n := 4) 12) ha
  have h2 : Sz 905 (12 * a + b) := Sz.add h1 (hb.mono (by decide)) (by decide)
  have h3 : Sz 906 (12 * a + b - 1) := zsub h2 1
  have h4 : Sz 1067 (mdF y k (12 * a + b - 1)) := g.zmd h3 (by decide) (by decide)
  exact ⟨h3, g.zma h4 (by decide) (by decide)⟩
def spPlain (C Cc : Addr) : Sp := fun vs H Q _ => ∃ (p : Addr) (a b : Int) (m y o k : Rat), vs = [.ref p, .int a, .int b] ∧ Cl C Cc H p m y o k ∧ Good m y o k ∧ Sz 900 a ∧ Sz 900 b ∧ ∀ H', Same H H' → Q (.int (pmF m y o k a b)) H'
def spOddM (C Cc : Addr) : Sp := fun vs H Q _ => ∃ (p : Addr) (a b : Int) (m y o k : Rat), vs = [.ref p, .int a, .int b] ∧ Cl C Cc H p m y o k ∧ Good m y o k ∧ Sz 900 a ∧ Sz 900 b ∧ ∀ H', Same H H' → Q (if hasM m y o k (pmF m y o k a b + 1) then .non else .int (pmF m y o k a b + 1)) H'
def spDayIn (C Cc : Addr) : Sp := fun vs H Q _ => ∃ (p : Addr) (a b : Int) (m y o k : Rat), vs = [.ref p, .int a, .int b] ∧ Cl C Cc H p m y o k ∧ Good m y o k ∧ Sz 2000 a ∧ ∀ H', Same H H' → Q (.int (stF m o a + b - 1)) H'
section
variable {P : Program} {w : World} {K : PySem.W.Frag} {mg : Str → Option Value} {base : Heap} {C Cc Cd CD : Addr}
theorem ok_plain (D : Df K mg "plain_month" s_plain_month []) (f_month_with : Cm P w K mg base CX0 8 Cc "month_with" "Calendar.month_with" s_Calendar_month_with ["self", "j"] (spM1 C Cc 2000 fun m y o k i => .int (maF m o (mdF y k i)))) {tk : Tok} (h_MARKS : mg "MARKS" = some (.int 12 tk)) : Ca P w K mg base CX0 9 "plain_month" s_plain_month [] ["calendar", "year", "number"] (spPlain C Cc) := by
  refine ca0 (k := 8) D c_plain_month (fun vs H Q E h => ?_) fun f cdv A outer s H vs Q E hr h => ?_
  · obtain ⟨p, a, b, m, y, o, k, rfl, _⟩ := h
    rfl
  · obtain ⟨p, a, b, m, y, o, k, rfl, hc, g, za, zb, q⟩ := h
    obtain ⟨dx, a1, b1, c1, d1, e, _⟩ := id hc
    refine ⟨_, (pss_one (ps_ret (pe_cm f_month_with b_Calendar_month_with hr (by decide) pass0 (pv 0) (pa_cons (pe_op op_sub (pe_op op_add (pe_op op_mul (pe_glob (v := .int 12) rfl h_MARKS ⟨_, rfl⟩) (pv 1)) (pv 2)) pe_int) pa_nil)))), ?_⟩
    exact ⟨_, rfl, p, dx, _, rfl, e, cf_no _ _ _ _, _, rfl, _, _, rfl, rfl, .inl ⟨by decide, by decide⟩, _, rfl, _, _, rfl, rfl, _, _, rfl, rfl, p, _, m, y, o, k, rfl, hc, g, (g.zpm za zb).1.mono (by decide), fun H' s' => q H' s'⟩
theorem ok_oddm (D : Df K mg "odd_month" s_odd_month []) (f_plain_month : Ca P w K mg base CX0 9 "plain_month" s_plain_month [] ["calendar", "year", "number"] (spPlain C Cc)) (f_mark_in : Cm P w K mg base CX0 8 Cc "mark_in" "Calendar.mark_in" s_Calendar_mark_in ["self", "k"] (spM1 C Cc 1400 miF)) : Ca P w K mg base CX0 10 "odd_month" s_odd_month [] ["calendar", "year", "number"] (spOddM C Cc) := by
  refine ca0 (k := 9) D c_odd_month (fun vs H Q E h => ?_) fun f cdv A outer s H vs Q E hr h => ?_
  · obtain ⟨p, a, b, m, y, o, k, rfl, _⟩ := h
    rfl
  · obtain ⟨p, a, b, m, y, o, k, rfl, hc, g, za, zb, q⟩ := h
    obtain ⟨dx, a1, b1, c1, d1, e, _⟩ := id hc
    refine ⟨_, (pss_cons (ps_set (i := 3) c_odd_month.nd rfl (.inl rfl) (pe_op op_add (pe_ca f_plain_month b_plain_month hr (by decide) pass0 rfl (pa_cons (pv 0) (pa_cons (pv 1) (pa_cons (pv 2) pa_nil)))) pe_int))
      (pss_cons (ps_if (pt_cmp (pc_isN (pe_cm f_mark_in b_Calendar_mark_in hr (by decide) pass0 (pv 0) (pa_cons (pv 3) pa_nil)))) (pss_one (ps_ret (pv 3))) pss_nil)
      (pss_one (ps_ret pe_non)))), ?_⟩
    refine ⟨_, rfl, _, rfl, _, rfl, p, a, b, m, y, o, k, rfl, hc, g, za, zb, fun H1 s1 => ⟨_, _, rfl, rfl, ?_⟩⟩
    refine ⟨_, rfl, p, dx, _, rfl, s1 _ _ e, cf_no _ _ _ _, _, rfl, p, _, m, y, o, k, rfl, hc.same s1, g, zadd ((g.zpm za zb).2.mono (by decide : 1218 ≤ 1300)) 1, fun H2 s2 => ⟨_, rfl, ?_⟩⟩
    have q2 := q H2 (s1.trans s2)
    rw [miF_eq]
    by_cases hm : hasM m y o k (pmF m y o k a b + 1)
    · rw [if_pos hm] at q2 ⊢
      exact iteF q2
    · rw [if_neg hm] at q2 ⊢
      exact iteT ⟨_, rfl, q2⟩
theorem ok_dayin (D : Df K mg "day_in" s_day_in []) (f_start : Cm P w K mg base CX0 7 Cc "start" "Calendar.start" s_Calendar_start ["self", "k"] (spM1 C Cc 3000 fun m _ o _ i => .int (stF m o i))) : Ca P w K mg base CX0 8 "day_in" s_day_in [] ["calendar", "k", "count"] (spDayIn C Cc) := by
  refine ca0 (k := 7) D c_day_in (fun vs H Q E h => ?_) fun f cdv A outer s H vs Q E hr h => ?_
  · obtain ⟨p, a, b, m, y, o, k, rfl, _⟩ := h
    rfl
  · obtain ⟨p, a, b, m, y, o, k, rfl, hc, g, za, q⟩ := h
    obtain ⟨dx, a1, b1, c1, d1, e, _⟩ := id hc
    refine ⟨_, (pss_one (ps_ret (pe_op op_sub (pe_op op_add (pe_cm f_start b_Calendar_start hr (by decide) pass0 (pv 0) (pa_cons (pv 1) pa_nil)) (pv 2)) pe_int))), ?_⟩
    exact ⟨_, rfl, p, dx, _, rfl, e, cf_no _ _ _ _, _, rfl, p, a, m, y, o, k, rfl, hc, g, za.mono (by decide), fun H' s' => ⟨_, rfl, _, _, rfl, rfl, _, _, rfl, rfl, q H' s'⟩⟩
end
/-! ### later -/
def miyF (m y o k : Rat) (a b : Int) (od : Bool) : Int := if od = true then (if hasM m y o k (pmF m y o k a b + 1) then pmF m y o k a b else pmF m y o k a b + 1) else pmF m y o k a b
def heldF (m o : Rat) (i c : Int) : Int := if stF m o (i + 1) - stF m o i < c then stF m o (i + 1) - stF m o i else c
theorem Good.zpmG {m y o k : Rat} (g : Good m y o k) {n : Nat} {a b : Int} (h5 : 5 ≤ n) (ha : Sz n a) (hb : Sz n b) : Sz (n + 6) (12 * a + b - 1) ∧ Sz (n + 318) (pmF m y o k a b) := by
  have h1 : Sz (n + 4) (12 * a) := (Sz.mul (szi (n := 4) 12) ha).mono (by omega)
  have h2 : Sz (n + 5) (12 * a + b) := Sz.add h1 (hb.mono (by omega)) (by omega)
  have h3 : Sz (n + 6) (12 * a + b - 1) := zsub h2 1 (by decide) (by omega) (by omega)
  have h4 : Sz (n + 167) (mdF y k (12 * a + b - 1)) := g.zmd h3 (by omega) (by omega)
  exact ⟨h3, g.zma h4 (by omega) (by omega)⟩
theorem Good.zmiy {m y o k : Rat} (g : Good m y o k) {n : Nat} {a b : Int} {od : Bool} (h5 : 5 ≤ n) (ha : Sz n a) (hb : Sz n b) : Sz (n + 319) (miyF m y o k a b od) := by
  have hz := (g.zpmG h5 ha hb).2
  unfold miyF
  split
  · split
    · exact hz.mono (by omega)
    · exact zadd hz 1 (by decide) (by omega) (by omega)
  · exact hz.mono (by omega)
theorem zheld {m o : Rat} {n : Nat} {i c : Int} (h1 : Sz n (stF m o (i + 1) - stF m o i)) (h2 : Sz n c) : Sz n (heldF m o i c) := by
  unfold heldF
  split
  · exact h1
  · exact h2
def spMiy (C Cc : Addr) : Sp := fun vs H Q _ => ∃ (p : Addr) (a b : Int) (od : Bool) (m y o k : Rat), vs = [.ref p, .int a, .int b, .bl od] ∧ Cl C Cc H p m y o k ∧ Good m y o k ∧ Sz 900 a ∧ Sz 900 b ∧ ∀ H', Same H H' → Q (.int (miyF m y o k a b od)) H'
def spHeld (C Cc : Addr) : Sp := fun vs H Q _ => ∃ (p : Addr) (i c : Int) (m y o k : Rat), vs = [.ref p, .int i, .int c] ∧ Cl C Cc H p m y o k ∧ Good m y o k ∧ Sz 1500 i ∧ ∀ H', Same H H' → Q (.int (heldF m o i c)) H'
section
variable {P : Program} {w : World} {K : PySem.W.Frag} {mg : Str → Option Value} {base : Heap} {C Cc Cd CD : Addr}
theorem ok_miy (D : Df K mg "month_in_year" s_month_in_year []) (f_plain_month : Ca P w K mg base CX0 9 "plain_month" s_plain_month [] ["calendar", "year", "number"] (spPlain C Cc)) (f_odd_month : Ca P w K mg base CX0 10 "odd_month" s_odd_month [] ["calendar", "year", "number"] (spOddM C Cc)) : Ca P w K mg base CX0 11 "month_in_year" s_month_in_year [] ["calendar", "year", "number", "odd"] (spMiy C Cc) := by
  refine ca0 (k := 10) D c_month_in_year (fun vs H Q E h => ?_) fun f cdv A outer s H vs Q E hr h => ?_
  · obtain ⟨p, a, b, od, m, y, o, k, rfl, _⟩ := h
    rfl
  · obtain ⟨p, a, b, od, m, y, o, k, rfl, hc, g, za, zb, q⟩ := h
    refine ⟨_, (pss_cons (ps_set (i := 4) c_month_in_year.nd rfl (.inl rfl) (pe_ifExp (pt_val (pv 3)) (pe_ca f_odd_month b_odd_month hr (by decide) pass0 rfl (pa_cons (pv 0) (pa_cons (pv 1) (pa_cons (pv 2) pa_nil)))) pe_non))
      (pss_cons (ps_if (pt_cmp (pc_isN (pv 4))) (pss_one (ps_ret (pe_ca f_plain_month b_plain_month hr (by decide) pass0 rfl (pa_cons (pv 0) (pa_cons (pv 1) (pa_cons (pv 2) pa_nil)))))) pss_nil)
      (pss_one (ps_ret (pv 4))))), ?_⟩
    refine ⟨_, rfl, _, rfl, ?_⟩
    cases od with
    | false =>
      refine iteF ?_
      refine ⟨_, rfl, _, rfl, iteT ?_⟩
      exact ⟨_, rfl, _, rfl, _, rfl, p, a, b, m, y, o, k, rfl, hc, g, za, zb, fun H1 s1 => q H1 s1⟩
    | true =>
      refine iteT ?_
      refine ⟨_, rfl, _, rfl, _, rfl, p, a, b, m, y, o, k, rfl, hc, g, za, zb, fun H1 s1 => ?_⟩
      by_cases hm : hasM m y o k (pmF m y o k a b + 1)
      · rw [if_pos hm]
        refine ⟨_, rfl, _, rfl, iteT ?_⟩
        refine ⟨_, rfl, _, rfl, _, rfl, p, a, b, m, y, o, k, rfl, hc.same s1, g, za, zb, fun H2 s2 => ?_⟩
        have q2 := q H2 (s1.trans s2)
        unfold miyF at q2
        rw [if_pos rfl, if_pos hm] at q2
        exact q2
      · rw [if_neg hm]
        refine ⟨_, rfl, _, rfl, iteF ⟨_, rfl, ?_⟩⟩
        have q2 := q H1 s1
        unfold miyF at q2
        rw [if_pos rfl, if_neg hm] at q2
        exact q2
theorem ok_held (D : Df K mg "held_in" s_held_in []) (f_days_of : Ca P w K mg base CX0 8 "days_of" s_days_of [] ["calendar", "k", "many"] (spDaysOf C Cc)) (g_min : mg "min" = none) : Ca P w K mg base CX0 9 "held_in" s_held_in [] ["calendar", "k", "count"] (spHeld C Cc) := by
  refine ca0 (k := 8) D c_held_in (fun vs H Q E h => ?_) fun f cdv A outer s H vs Q E hr h => ?_
  · obtain ⟨p, i, c, m, y, o, k, rfl, _⟩ := h
    rfl
  · obtain ⟨p, i, c, m, y, o, k, rfl, hc, g, zi, q⟩ := h
    refine ⟨_, (pss_one (ps_ret (pe_callB (call_min2 rfl) rfl g_min (by decide +kernel) (pa_cons (pv 2) (pa_cons (pe_ca f_days_of b_days_of hr (by decide) pass0 rfl (pa_cons (pv 0) (pa_cons (pv 1) (pa_cons pe_int pa_nil)))) pa_nil))))), ?_⟩
    exact ⟨_, rfl, _, rfl, _, rfl, p, i, 1, m, y, o, k, rfl, hc, g, zi, szi 1 (Nat.one_lt_two_pow (by decide)), fun H1 s1 => ⟨_, _, rfl, q H1 s1⟩⟩
end
/-! ### stretches -/
theorem getI (F : Nat → Int) {n i : Nat} (h : i < n) : (((List.range n).map F).map V.int)[i]? = some (.int (F i)) := by
  rw [List.getElem?_map, List.getElem?_map, List.getElem?_range h]
  rfl
theorem cut_tail (xs : List V) : cutV xs (some 1) none = xs.drop 1 := by
  cases xs with
  | nil => rfl
  | cons x xs =>
    have h1 : HT.sIx (x :: xs).length 0 (some 1) = 1 := by simp [HT.sIx]
    have h2 : HT.sIx (x :: xs).length (x :: xs).length none = (x :: xs).length := rfl
    unfold cutV
    rw [h1, h2]
    refine List.take_of_length_le ?_
    simp
def spSteps : Sp := fun vs H Q _ => ∃ (a : Addr) (F : Nat → Int) (n : Nat), vs = [.ref a] ∧ H a = some (.lst (((List.range (n + 1)).map F).map V.int)) ∧ n < 1000 ∧ ∀ r H', H r = none → Same H H' → H' r = some (.lst ((stp F n).map V.int)) → Q (.ref r) H'
def spLen (C Cc : Addr) : Sp := fun vs H Q _ => ∃ (p : Addr) (i : Int) (n : Nat) (m y o k : Rat), vs = [.ref p, .int i, .int (n : Nat)] ∧ Cl C Cc H p m y o k ∧ Good m y o k ∧ Sz 1500 i ∧ n < 500 ∧ ∀ r H', H r = none → Same H H' → H' r = some (.lst ((stp (fun j => stF m o (i + (j : Nat))) n).map V.int)) → Q (.ref r) H'
section
variable {P : Program} {w : World} {K : PySem.W.Frag} {mg : Str → Option Value} {base : Heap} {C Cc : Addr}
abbrev TE_steps1 : TE := tOp (rI0 fun i j => .int (i - j)) (tVar 2) (tVar 1)
abbrev TE_lengths_from1 (C Cc : Addr) : TE := tMeth Cc "start" (spM1 C Cc 3000 fun m _ o _ i => .int (stF m o i)) [] E0 (tVar 0) (tCons (tVar 3) tNil)
theorem ok_steps (D : Df K mg "steps" s_steps []) (g_zip : mg "zip" = none) : Ca P w K mg base CX0 1 "steps" s_steps [] ["days"] spSteps := by
  refine ca0 (k := 0) D c_steps (fun vs H Q E h => ?_) fun f cdv A outer s H vs Q E hr h => ?_
  · obtain ⟨a, F, n, rfl, _⟩ := h
    rfl
  · obtain ⟨a, F, n, rfl, e, hn, q⟩ := h
    refine ⟨_, (pss_one (ps_ret (pe_lc (own := [("day", 1), ("behind", 2)]) (g := gTup K 2 (gCons (gName 1) (gCons (gName 2) gNil))) (tt := tYes) (te := TE_steps1 ) rfl c_steps.nd (pi_zip rfl g_zip (pa_cons (pv 0) (pa_cons (pe_slice sl_list (pv 0) (po_some pe_int) po_none) pa_nil))) (blkOk_by (N := ["days", "day", "behind"]) (sc := defScope s_steps) (by decide +kernel)) (fun _ _ _ _ _ => (pg_tup rfl (pgs_cons (pg_name (i := 1) c_steps.nd rfl (.inl rfl)) (pgs_cons (pg_name (i := 2) c_steps.nd rfl (.inl rfl)) pgs_nil)))) (fun _ _ _ _ _ => by exact pts_nil) (fun _ _ _ _ _ => by exact (pe_op op_sub (pv 2) (pv 1)))))), ?_⟩
    refine ⟨_, rfl, _, rfl, _, rfl, a, _, rfl, SqL.of e, fun p1 n1 => ?_⟩
    have s1 := Same.new (o := .lst (cutV (((List.range (n + 1)).map F).map V.int) (some 1) none)) n1
    have e1 := s1 _ _ e
    refine ⟨a, p1, _, _, rfl, SqL.of e1, SqL.of upd_same, fun D0 hD => ?_⟩
    have hl : (((List.range (n + 1)).map F).map V.int).length = n + 1 := by simp
    refine lc_ints (walk_zip (n := n) (K := K) (a := a) (b := p1) (xs := ((List.range (n + 1)).map F).map V.int) (ys := cutV (((List.range (n + 1)).map F).map V.int) (some 1) none) ?_) yPair_same hD (by show n < 2 ^ 24; omega) (fun i => F (i + 1) - F i) (fun H' s' => ⟨SqL.of (s' _ _ e1), SqL.of (s' _ _ upd_same)⟩) ?_ ?_
    · rw [cut_tail, List.length_drop, hl]
      omega
    · rintro i x H1 H2 R hi s2 ⟨T, x1, x2, rfl, nT, rfl, g1, g2⟩ k1
      have g1 : (((List.range (n + 1)).map F).map V.int)[i]? = some x1 := g1
      have g2 : (cutV (((List.range (n + 1)).map F).map V.int) (some 1) none)[i]? = some x2 := g2
      rw [getI F (by omega)] at g1
      rw [cut_tail, List.getElem?_drop, Nat.add_comm 1 i, getI F (by omega)] at g2
      cases g1
      cases g2
      refine ⟨T, _, rfl, SqT.of upd_same, rfl, _, _, rfl, _, _, rfl, rfl, rfl, ?_⟩
      exact ⟨_, rfl, _, rfl, _, _, rfl, rfl, k1 _ (Same.refl _)⟩
    · intro H' h1 h2
      exact q D0 H' (s1.free hD) (s1.trans h2) h1
theorem ok_len (D : Df K mg "lengths_from" s_lengths_from []) (f_steps : Ca P w K mg base CX0 1 "steps" s_steps [] ["days"] spSteps) (f_start : Cm P w K mg base CX0 7 Cc "start" "Calendar.start" s_Calendar_start ["self", "k"] (spM1 C Cc 3000 fun m _ o _ i => .int (stF m o i))) (g_range : mg "range" = none) : Ca P w K mg base CX0 9 "lengths_from" s_lengths_from [] ["calendar", "k", "many"] (spLen C Cc) := by
  refine ca0 (k := 8) D c_lengths_from (fun vs H Q E h => ?_) fun f cdv A outer s H vs Q E hr h => ?_
  · obtain ⟨p, i, n, m, y, o, k, rfl, _⟩ := h
    rfl
  · obtain ⟨p, i, n, m, y, o, k, rfl, hc, g, zi, hn, q⟩ := h
    obtain ⟨dx, a, b, c, d, e, h1, h2, h3, h4⟩ := id hc
    refine ⟨_, (pss_one (ps_ret (pe_ca f_steps b_steps hr (by decide) pass0 rfl (pa_cons (pe_lc (own := [("n", 3)]) (g := gName 3) (tt := tYes) (te := TE_lengths_from1 C Cc) rfl c_lengths_from.nd (pi_rangeA rfl g_range (pa_cons (pv 1) (pa_cons (pe_op op_add (pe_op op_add (pv 1) (pv 2)) pe_int) pa_nil))) (blkOk_by (N := ["calendar", "k", "many", "n"]) (sc := defScope s_lengths_from) (by decide +kernel)) (fun _ _ _ _ _ => (pg_name (i := 3) c_lengths_from.nd rfl (.inl rfl))) (fun _ _ _ _ _ => by exact pts_nil) (fun _ _ _ _ _ => by exact (pe_cm f_start b_Calendar_start hr (by decide) pass0 (pv 0) (pa_cons (pv 3) pa_nil)))) pa_nil)))), ?_⟩
    refine ⟨_, rfl, _, rfl, _, rfl, _, _, rfl, rfl, _, _, rfl, rfl, _, _, rfl, fun D0 hD => ?_⟩
    have en : (i + (n : Int) + 1 - i).toNat = n + 1 := by omega
    rw [en]
    refine lc_ints (walk_range (lo := i) (n := n + 1)) yFn_same hD (by show n + 1 < 2 ^ 24; omega) (fun j => stF m o (i + (j : Nat))) (fun _ _ => trivial) ?_ ?_
    · rintro j x H1 H2 R hj s1 ⟨rfl, rfl⟩ k1
      refine ⟨rfl, ?_⟩
      refine ⟨_, rfl, p, dx, _, rfl, s1 _ _ e, cf_no _ _ _ _, _, rfl, p, _, m, y, o, k, rfl, hc.same s1, g, ?_, fun H3 s3 => k1 H3 s3⟩
      exact (Sz.add (n := 1500) zi (znat j (by omega) (by decide)) (by decide : 1500 < 1600)).mono (by decide)
    · intro H' h1 h2
      exact ⟨D0, _, n, rfl, h1, by omega, fun r H2 nr s2 er => q r H2 (h2.free nr) (h2.trans s2) er⟩
end
/-! ### years as wholes -/
def yfs (y f n l o : V) : List (Str × V) := putF "odd" o (putF "lengths" l (putF "names" n (putF "first" f (putF "number" y []))))
theorem yk {a b : Str} (h : decide (a = b) = false := by decide +kernel) : ¬ (a = b) := of_decide_eq_false h
theorem yf_number (y f n l o : V) : (yfs y f n l o).lookup ("number" : Str) = some y := by
  unfold yfs
  rw [lookup_putF, if_neg yk, lookup_putF, if_neg yk, lookup_putF, if_neg yk, lookup_putF, if_neg yk, lookup_putF, if_pos rfl]
theorem yf_first (y f n l o : V) : (yfs y f n l o).lookup ("first" : Str) = some f := by
  unfold yfs
  rw [lookup_putF, if_neg yk, lookup_putF, if_neg yk, lookup_putF, if_neg yk, lookup_putF, if_pos rfl]
theorem yf_names (y f n l o : V) : (yfs y f n l o).lookup ("names" : Str) = some n := by
  unfold yfs
  rw [lookup_putF, if_neg yk, lookup_putF, if_neg yk, lookup_putF, if_pos rfl]
theorem yf_lengths (y f n l o : V) : (yfs y f n l o).lookup ("lengths" : Str) = some l := by
  unfold yfs
  rw [lookup_putF, if_neg yk, lookup_putF, if_pos rfl]
theorem yf_odd (y f n l o : V) : (yfs y f n l o).lookup ("odd" : Str) = some o := by
  unfold yfs
  rw [lookup_putF, if_pos rfl]
theorem yf_names4 (y f n l : V) : (putF "lengths" l (putF "names" n (putF "first" f (putF "number" y [])))).lookup ("names" : Str) = some n := by
  rw [lookup_putF, if_neg yk, lookup_putF, if_pos rfl]
theorem yf_no (y f n l o : V) : (yfs y f n l o).lookup ("days_in" : Str) = none := by
  unfold yfs
  rw [lookup_putF, if_neg yk, lookup_putF, if_neg yk, lookup_putF, if_neg yk, lookup_putF, if_neg yk, lookup_putF, if_neg yk]
  rfl
structure YrT (K : PySem.W.Frag) (C Cc Cy : Addr) : Prop where
  cl : Cls K Cy
  n1 : NoAttr K Cy "number"
  n2 : NoAttr K Cy "first"
  n3 : NoAttr K Cy "names"
  n4 : NoAttr K Cy "lengths"
  n5 : NoAttr K Cy "odd"
  e1 : Cy ≠ C
  e2 : Cy ≠ Cc
/-- at p a Year of these fields -/
def Yr (Cy : Addr) (H : Hp) (p : Addr) (a f : Int) (D1 D2 : Addr) (v : V) : Prop := ∃ dx, H p = some (.ins Cy dx (yfs (.int a) (.int f) (.ref D1) (.ref D2) v))
def nm2 (m y o k : Rat) (i : Int) : Int × Bool := (nmJ m y o k i % 12 + 1, nmO m y o k i)
/-- how many months a year has -/
def yN (m y o k : Rat) (a : Int) : Nat := (mwF m y o k (12 * a + 12) - mwF m y o k (12 * a)).toNat
theorem yN_fact {m y o k : Rat} (g : Good m y o k) (a : Int) : ((yN m y o k a : Nat) : Int) = mwF m y o k (12 * a + 12) - mwF m y o k (12 * a) ∧ yN m y o k a ≤ 13 := by
  obtain ⟨p, e, h⟩ := year_names (o := o) (k := k) g.fit a
  have h1 := h.last
  have h2 := h.e1
  unfold yN
  omega
def ynL (m y o k : Rat) (a : Int) : List (Int × Bool) := (List.range (yN m y o k a)).map fun j => nm2 m y o k (mwF m y o k (12 * a) + (j : Nat))
def ylL (m y o k : Rat) (a : Int) : List Int := stp (fun j => stF m o (mwF m y o k (12 * a) + (j : Nat))) (yN m y o k a)
theorem ynL_len (m y o k : Rat) (a : Int) : (ynL m y o k a).length = yN m y o k a := by simp [ynL]
theorem ylL_len (m y o k : Rat) (a : Int) : (ylL m y o k a).length = yN m y o k a := by simp [ylL, stp]
def odV (ks : List (Int × Bool)) : V := match ks.find? (·.2) with
  | some q => .int q.1
  | none => .non
/-- a list of names -/
def NmB (H : Hp) (us : List V) (ks : List (Int × Bool)) : Prop := us.length = ks.length ∧ ∀ (j : Nat) (v : V), us[j]? = some v → ∃ (r : Addr) (q : Int × Bool), v = .ref r ∧ ks[j]? = some q ∧ H r = some (.tup [.int q.1, .bl q.2])
theorem NmB.same {H H1 : Hp} {us : List V} {ks : List (Int × Bool)} (h : NmB H us ks) (s : ∀ r xs, H r = some (.tup xs) → H1 r = some (.tup xs)) : NmB H1 us ks := ⟨h.1, fun j v hj => by
  obtain ⟨r, q, e1, e2, e3⟩ := h.2 j v hj
  exact ⟨r, q, e1, e2, s _ _ e3⟩⟩
theorem tup_upd {H : Hp} {D : Addr} {o u : HO} (hD : H D = some o) (n : ∀ xs, o ≠ .tup xs) : ∀ r xs, H r = some (.tup xs) → L2.upd H D u r = some (.tup xs) := fun r xs e => by
  rw [upd_ne (ne_of e hD fun z => n _ z.symm)]
  exact e
theorem mw_pm (m y o k : Rat) (a : Int) : pmF m y o k a 1 = mwF m y o k (12 * a) := by
  unfold pmF mwF
  rw [show 12 * a + 1 - 1 = 12 * a by omega]
def spFd (C Cc : Addr) : Sp := fun vs H Q _ => ∃ (p : Addr) (a : Int) (m y o k : Rat), vs = [.ref p, .int a] ∧ Cl C Cc H p m y o k ∧ Good m y o k ∧ Sz 560 a ∧ ∀ H', Same H H' → Q (.int (fdF m y o k a)) H'
def spMin (C Cc : Addr) : Sp := fun vs H Q _ => ∃ (p : Addr) (a : Int) (m y o k : Rat), vs = [.ref p, .int a] ∧ Cl C Cc H p m y o k ∧ Good m y o k ∧ Sz 560 a ∧ ∀ H', Same H H' → Q (.int ((yN m y o k a : Nat) : Int)) H'
def spOddN : Sp := fun vs H Q _ => ∃ (l : Addr) (us : List V) (ks : List (Int × Bool)), vs = [.ref l] ∧ H l = some (.lst us) ∧ NmB H us ks ∧ Q (odV ks) H
def spYrI (C Cc Cy : Addr) : Sp := fun vs H Q _ => ∃ (p dx c : Addr) (a : Int) (m y o k : Rat), vs = [.ref p, .ref c, .int a] ∧ H p = some (.ins Cy dx []) ∧ Cl C Cc H c m y o k ∧ Good m y o k ∧ Sz 560 a ∧
  ∀ H' D1 D2 (us : List V), But p H H' → Yr Cy H' p a (fdF m y o k a) D1 D2 (odV (ynL m y o k a)) → H D1 = none → H D2 = none → D1 ≠ D2 → H' D1 = some (.lst us) → NmB H' us (ynL m y o k a) → H' D2 = some (.lst ((ylL m y o k a).map V.int)) → Q .non H'
def spYl (Cy : Addr) : Sp := fun vs H Q _ => ∃ (p : Addr) (a f : Int) (D1 D2 : Addr) (v : V) (us : List V), vs = [.ref p] ∧ Yr Cy H p a f D1 D2 v ∧ H D1 = some (.lst us) ∧ Q (.int us.length) H
def spYd (Cy : Addr) : Sp := fun vs H Q _ => ∃ (p : Addr) (a f : Int) (D1 D2 : Addr) (v : V) (ls : List Int), vs = [.ref p] ∧ Yr Cy H p a f D1 D2 v ∧ H D2 = some (.lst (ls.map V.int)) ∧ Q (.int ls.sum) H
abbrev TE_Year_init1 (K : PySem.W.Frag) (C Cc : Addr) : TE := L2.tSl (rSlT K) (tMeth Cc "name_of" (spName C Cc) [] E0 (tVar 1) (tCons (tVar 5) tNil)) (tPart (tC (.int 1))) tNoPart
section
variable {P : Program} {w : World} {K : PySem.W.Frag} {mg : Str → Option Value} {base : Heap} {C Cc Cy : Addr}
theorem ok_fd (D : Df K mg "first_day" s_first_day []) (f_start : Cm P w K mg base CX0 7 Cc "start" "Calendar.start" s_Calendar_start ["self", "k"] (spM1 C Cc 3000 fun m _ o _ i => .int (stF m o i))) (f_plain_month : Ca P w K mg base CX0 9 "plain_month" s_plain_month [] ["calendar", "year", "number"] (spPlain C Cc)) : Ca P w K mg base CX0 10 "first_day" s_first_day [] ["calendar", "year"] (spFd C Cc) := by
  refine ca0 (k := 9) D c_first_day (fun vs H Q E h => ?_) fun f cdv A outer s H vs Q E hr h => ?_
  · obtain ⟨p, a, m, y, o, k, rfl, _⟩ := h
    rfl
  · obtain ⟨p, a, m, y, o, k, rfl, hc, g, za, q⟩ := h
    obtain ⟨dx, a1, b1, c1, d1, e, _⟩ := id hc
    refine ⟨_, (pss_one (ps_ret (pe_cm f_start b_Calendar_start hr (by decide) pass0 (pv 0) (pa_cons (pe_ca f_plain_month b_plain_month hr (by decide) pass0 rfl (pa_cons (pv 0) (pa_cons (pv 1) (pa_cons pe_int pa_nil)))) pa_nil)))), ?_⟩
    refine ⟨_, rfl, p, dx, _, rfl, e, cf_no _ _ _ _, _, rfl, _, rfl, p, a, 1, m, y, o, k, rfl, hc, g, za.mono (by decide), szi 1 (Nat.one_lt_two_pow (by decide)), fun H1 s1 => ?_⟩
    rw [mw_pm]
    have zm : Sz 2000 (mwF m y o k (12 * a)) := by
      rw [← mw_pm]
      exact (g.zpm (za.mono (by decide)) (szi 1 (Nat.one_lt_two_pow (by decide)))).2.mono (by decide)
    refine ⟨p, _, m, y, o, k, rfl, hc.same s1, g, zm.mono (by decide), fun H2 s2 => ?_⟩
    exact q H2 (s1.trans s2)
theorem ok_min (D : Df K mg "months_in" s_months_in []) (f_plain_month : Ca P w K mg base CX0 9 "plain_month" s_plain_month [] ["calendar", "year", "number"] (spPlain C Cc)) : Ca P w K mg base CX0 10 "months_in" s_months_in [] ["calendar", "year"] (spMin C Cc) := by
  refine ca0 (k := 9) D c_months_in (fun vs H Q E h => ?_) fun f cdv A outer s H vs Q E hr h => ?_
  · obtain ⟨p, a, m, y, o, k, rfl, _⟩ := h
    rfl
  · obtain ⟨p, a, m, y, o, k, rfl, hc, g, za, q⟩ := h
    refine ⟨_, (pss_one (ps_ret (pe_op op_sub (pe_ca f_plain_month b_plain_month hr (by decide) pass0 rfl (pa_cons (pv 0) (pa_cons (pe_op op_add (pv 1) pe_int) (pa_cons pe_int pa_nil)))) (pe_ca f_plain_month b_plain_month hr (by decide) pass0 rfl (pa_cons (pv 0) (pa_cons (pv 1) (pa_cons pe_int pa_nil))))))), ?_⟩
    refine ⟨_, rfl, _, rfl, _, _, rfl, rfl, p, a + 1, 1, m, y, o, k, rfl, hc, g, (zadd za 1 (l := 561)).mono (by decide), szi 1 (Nat.one_lt_two_pow (by decide)), fun H1 s1 => ?_⟩
    refine ⟨_, rfl, _, rfl, p, a, 1, m, y, o, k, rfl, hc.same s1, g, za.mono (by decide), szi 1 (Nat.one_lt_two_pow (by decide)), fun H2 s2 => ⟨_, _, rfl, rfl, ?_⟩⟩
    dsimp only
    rw [mw_pm, mw_pm, show 12 * (a + 1) = 12 * a + 12 by omega, ← (yN_fact g a).1]
    exact q H2 (s1.trans s2)
theorem ok_oddn (D : Df K mg "odd_number" s_odd_number []) : Ca P w K mg base CX0 1 "odd_number" s_odd_number [] ["names"] spOddN := by
  refine ca0 (k := 0) D c_odd_number (fun vs H Q E h => ?_) fun f cdv A outer s H vs Q E hr h => ?_
  · obtain ⟨l, us, ks, rfl, _⟩ := h
    rfl
  · obtain ⟨l, us, ks, rfl, hl, hN, q⟩ := h
    refine ⟨_, (pss_cons (ps_for PassesOwn.never rfl (pi_list (pv 0)) (pg_tup rfl (pgs_cons (pg_name (i := 1) c_odd_number.nd rfl (.inl rfl)) (pgs_cons (pg_name (i := 2) c_odd_number.nd rfl (.inl rfl)) pgs_nil))) (pss_one (ps_if (pt_val (pv 2)) (pss_one (ps_ret (pv 1))) pss_nil)))
      (pss_one (ps_ret pe_non))), ?_⟩
    refine ⟨_, rfl, l, rfl, ⟨_, SqL.of hl⟩, for_list (K := K) (a := l) (xs := us) (fun i σ H' => ∃ v1 v2 : Option V, σ = [some (.ref l), v1, v2] ∧ H' = H ∧ (ks.take i).find? (·.2) = none)
      ⟨_, _, rfl, rfl, rfl⟩ (fun i σ H' _ ⟨_, _, _, e, _⟩ => by rw [e]; exact SqL.of hl) ?_ ?_⟩
    · rintro i x σ H' hi ⟨v1, v2, rfl, rfl, hf⟩
      obtain ⟨r, z, rfl, hz, er⟩ := hN.2 i x hi
      refine ⟨r, _, rfl, SqT.of er, rfl, _, _, rfl, _, _, rfl, rfl, _, rfl, _, rfl, ?_⟩
      cases hb : z.2 with
      | true =>
        refine iteT ⟨_, rfl, ?_⟩
        have : odV ks = .int z.1 := by
          unfold odV
          have hs : ks = ks.take i ++ z :: ks.drop (i + 1) := by
            have hl := (List.getElem?_eq_some_iff.mp hz).1
            have he := (List.getElem?_eq_some_iff.mp hz).2
            rw [← he, List.getElem_cons_drop, List.take_append_drop]
          rw [hs, List.find?_append, hf]
          simp [hb]
        rw [this] at q
        exact q
      | false =>
        refine iteF ⟨_, _, rfl, rfl, ?_⟩
        rw [List.take_add_one, hz, List.find?_append, hf]
        simp [hb]
    · rintro σ H' ⟨v1, v2, rfl, rfl, hf⟩
      have hx : ks.take us.length = ks := by rw [hN.1, List.take_length]
      rw [hx] at hf
      have : odV ks = .non := by
        unfold odV
        rw [hf]
      rw [this] at q
      exact q
theorem ok_yrL (D : Dm K Cy "__len__" "Year.__len__" s_Year_len) (T : YrT K C Cc Cy) (g_len : mg "len" = none) : Cm P w K mg base CX0 1 Cy "__len__" "Year.__len__" s_Year_len ["self"] (spYl Cy) := by
  refine cm0 (k := 0) D c_Year_len (fun vs H Q E h => ?_) fun f cdv A outer s H vs Q E hr h => ?_
  · obtain ⟨p, a, f, D1, D2, v, us, rfl, _⟩ := h
    rfl
  · obtain ⟨p, a, f, D1, D2, v, us, rfl, ⟨dx, e⟩, e1, q⟩ := h
    refine ⟨_, (pss_one (ps_ret (pe_callB call_len_seq rfl g_len (by decide +kernel) (pa_cons (pe_fld (pv 0) rfl) pa_nil)))), ?_⟩
    exact ⟨_, rfl, p, Cy, dx, _, _, rfl, e, T.cl, T.n3, yf_names _ _ _ _ _, D1, us, rfl, .inl (SqL.of e1), q⟩
theorem ok_yrD (D : Dm K Cy "days_in" "Year.days_in" s_Year_days_in) (T : YrT K C Cc Cy) (g_sum : mg "sum" = none) : Cm P w K mg base CX0 1 Cy "days_in" "Year.days_in" s_Year_days_in ["self"] (spYd Cy) := by
  refine cm0 (k := 0) D c_Year_days_in (fun vs H Q E h => ?_) fun f cdv A outer s H vs Q E hr h => ?_
  · obtain ⟨p, a, f, D1, D2, v, ls, rfl, _⟩ := h
    rfl
  · obtain ⟨p, a, f, D1, D2, v, ls, rfl, ⟨dx, e⟩, e1, q⟩ := h
    refine ⟨_, (pss_one (ps_ret (pe_callB (cr_sum rfl) rfl g_sum (by decide +kernel) (pa_cons (pe_fld (pv 0) rfl) pa_nil)))), ?_⟩
    exact ⟨_, rfl, p, Cy, dx, _, _, rfl, e, T.cl, T.n4, yf_lengths _ _ _ _ _, D2, ls, rfl, SqL.of e1, q⟩
end
/-! ### a year made -/
theorem But.putI {p : Addr} {H H1 : Hp} {o : HO} (b : But p H H1) : But p H (L2.upd H1 p o) := b.put
theorem Cl.putY {C Cc Cy D : Addr} {H : Hp} {p dx : Addr} {m y o k : Rat} {fs : List (Str × V)} {u : HO} (e1 : Cy ≠ C) (e2 : Cy ≠ Cc) (h : Cl C Cc H p m y o k) (hD : H D = some (.ins Cy dx fs)) : Cl C Cc (L2.upd H D u) p m y o k := by
  obtain ⟨dx', a, b, c, d, e, ⟨x1, h1⟩, ⟨x2, h2⟩, ⟨x3, h3⟩, ⟨x4, h4⟩⟩ := h
  have kp : ∀ {a c dx : Addr} {fs : List (Str × V)}, c ≠ Cy → H a = some (.ins c dx fs) → L2.upd H D u a = some (.ins c dx fs) := fun {a c dx fs} n e => by
    rw [upd_ne (ne_of e hD (by intro z; injection z with z1; exact n z1))]
    exact e
  exact ⟨dx', a, b, c, d, kp (Ne.symm e2) e, ⟨x1, kp (Ne.symm e1) h1⟩, ⟨x2, kp (Ne.symm e1) h2⟩, ⟨x3, kp (Ne.symm e1) h3⟩, ⟨x4, kp (Ne.symm e1) h4⟩⟩
theorem Good.zmw {m y o k : Rat} (g : Good m y o k) {n l : Nat} {i : Int} (h : Sz n i) (h0 : 0 < n) (hl : n + 320 < l) : Sz l (mwF m y o k i) := g.zma (n := n + 161) (g.zmd h h0 (by omega)) (by omega) (by omega)
section
variable {P : Program} {w : World} {K : PySem.W.Frag} {mg : Str → Option Value} {base : Heap} {C Cc Cy : Addr}
set_option maxHeartbeats 8000000 in
theorem ok_yrI (D : Di K mg "Year" Cy "Year.__init__" s_Year_init []) (T : YrT K C Cc Cy) (g_range : mg "range" = none) (f_name_of : Cm P w K mg base CX0 9 Cc "name_of" "Calendar.name_of" s_Calendar_name_of ["self", "k"] (spName C Cc)) (f_plain_month : Ca P w K mg base CX0 9 "plain_month" s_plain_month [] ["calendar", "year", "number"] (spPlain C Cc)) (f_lengths_from : Ca P w K mg base CX0 9 "lengths_from" s_lengths_from [] ["calendar", "k", "many"] (spLen C Cc)) (f_months_in : Ca P w K mg base CX0 10 "months_in" s_months_in [] ["calendar", "year"] (spMin C Cc)) (f_first_day : Ca P w K mg base CX0 10 "first_day" s_first_day [] ["calendar", "year"] (spFd C Cc)) (f_odd_number : Ca P w K mg base CX0 1 "odd_number" s_odd_number [] ["names"] spOddN) : Ci P w K mg base CX0 11 "Year" Cy "Year.__init__" s_Year_init [] ["self", "calendar", "number"] (spYrI C Cc Cy) := by
  refine ci0 (k := 10) D c_Year_init (fun vs H Q E h => ?_) fun f cdv A outer s H vs Q E hr h => ?_
  · obtain ⟨p, dx, c, a, m, y, o, k, rfl, _⟩ := h
    rfl
  · obtain ⟨p, dx, c, a, m, y, o, k, rfl, hp, hc, g, za, q⟩ := h
    refine ⟨_, (pss_cons (ps_set (i := 3) c_Year_init.nd rfl (.inl rfl) (pe_ca f_plain_month b_plain_month hr (by decide) pass0 rfl (pa_cons (pv 1) (pa_cons (pv 2) (pa_cons pe_int pa_nil)))))
      (pss_cons (ps_set (i := 4) c_Year_init.nd rfl (.inl rfl) (pe_ca f_months_in b_months_in hr (by decide) pass0 rfl (pa_cons (pv 1) (pa_cons (pv 2) pa_nil))))
      (pss_cons (ps_fld (pv 0) (pv 2) rfl)
      (pss_cons (ps_fld (pv 0) (pe_ca f_first_day b_first_day hr (by decide) pass0 rfl (pa_cons (pv 1) (pa_cons (pv 2) pa_nil))) rfl)
      (pss_cons (ps_fld (pv 0) (pe_lc (own := [("n", 5)]) (g := gName 5) (tt := tYes) (te := TE_Year_init1 K C Cc) rfl c_Year_init.nd (pi_rangeA rfl g_range (pa_cons (pv 3) (pa_cons (pe_op op_add (pv 3) (pv 4)) pa_nil))) (blkOk_by (N := ["self", "calendar", "number", "k", "many", "n"]) (sc := defScope s_Year_init) (by decide +kernel)) (fun _ _ _ _ _ => (pg_name (i := 5) c_Year_init.nd rfl (.inl rfl))) (fun _ _ _ _ _ => by exact pts_nil) (fun _ _ _ _ _ => by exact (pe_slice sl_tup (pe_cm f_name_of b_Calendar_name_of hr (by decide) pass0 (pv 1) (pa_cons (pv 5) pa_nil)) (po_some pe_int) po_none))) rfl)
      (pss_cons (ps_fld (pv 0) (pe_ca f_lengths_from b_lengths_from hr (by decide) pass0 rfl (pa_cons (pv 1) (pa_cons (pv 3) (pa_cons (pv 4) pa_nil)))) rfl)
      (pss_one (ps_fld (pv 0) (pe_ca f_odd_number b_odd_number hr (by decide) pass0 rfl (pa_cons (pe_fld (pv 0) rfl) pa_nil)) rfl)))))))), ?_⟩
    have zm : Sz 1300 (mwF m y o k (12 * a)) := g.zmw (n := 565) ((Sz.mul (n := 4) (szi 12) za).mono (by decide)) (by decide) (by decide)
    obtain ⟨hN, hN13⟩ := yN_fact g a
    refine ⟨_, rfl, _, rfl, c, a, 1, m, y, o, k, rfl, hc, g, za.mono (by decide), szi 1 (Nat.one_lt_two_pow (by decide)), fun H1 s1 => ?_⟩
    rw [mw_pm]
    refine ⟨_, rfl, _, rfl, c, a, m, y, o, k, rfl, hc.same s1, g, za, fun H2 s2 => ?_⟩
    have s02 := s1.trans s2
    have hp2 := s02 _ _ hp
    have hc2 := hc.same s02
    have b2 : But p H H2 := But.same s02
    refine ⟨_, rfl, _, rfl, p, Cy, dx, _, rfl, hp2, T.cl, T.n1, (by show 0 < 1000; decide), ?_⟩
    have hp3 : (L2.upd H2 p (.ins Cy dx (putF "number" (.int a) []))) p = some (.ins Cy dx (putF "number" (.int a) [])) := upd_same
    have hc3 := hc2.putY (u := .ins Cy dx (putF "number" (.int a) [])) T.e1 T.e2 hp2
    have b3 : But p H (L2.upd H2 p (.ins Cy dx (putF "number" (.int a) []))) := b2.put
    generalize L2.upd H2 p (.ins Cy dx (putF "number" (.int a) [])) = H3 at *
    refine ⟨_, rfl, _, rfl, c, a, m, y, o, k, rfl, hc3, g, za, fun H4 s4 => ?_⟩
    have hp4 := s4 _ _ hp3
    have hc4 := hc3.same s4
    have b4 := b3.trans (But.same s4)
    refine ⟨_, rfl, p, Cy, dx, _, rfl, hp4, T.cl, T.n2, (by show 1 < 1000; decide), ?_⟩
    have hp5 : (L2.upd H4 p (.ins Cy dx (putF "first" (.int (fdF m y o k a)) (putF "number" (.int a) [])))) p = some (.ins Cy dx (putF "first" (.int (fdF m y o k a)) (putF "number" (.int a) []))) := upd_same
    have hc5 := hc4.putY (u := .ins Cy dx (putF "first" (.int (fdF m y o k a)) (putF "number" (.int a) []))) T.e1 T.e2 hp4
    have b5 : But p H (L2.upd H4 p (.ins Cy dx (putF "first" (.int (fdF m y o k a)) (putF "number" (.int a) [])))) := b4.put
    generalize L2.upd H4 p (.ins Cy dx (putF "first" (.int (fdF m y o k a)) (putF "number" (.int a) []))) = H5 at *
    refine ⟨_, rfl, _, rfl, _, rfl, _, _, rfl, rfl, mwF m y o k (12 * a), _, rfl, fun D1 nD1 => ?_⟩
    have en : (mwF m y o k (12 * a) + ((yN m y o k a : Nat) : Int) - mwF m y o k (12 * a)).toNat = yN m y o k a := by omega
    rw [en]
    obtain ⟨dxc, _, _, _, _, ec, _⟩ := id hc5
    refine lc_all (walk_range (lo := mwF m y o k (12 * a)) (n := yN m y o k a)) yFn_same nD1 (Nat.lt_of_le_of_lt hN13 (by decide)) (fun (j : Nat) v H' => ∃ r : Addr, v = .ref r ∧ H' r = some (.tup [.int (nm2 m y o k (mwF m y o k (12 * a) + (j : Nat))).1, .bl (nm2 m y o k (mwF m y o k (12 * a) + (j : Nat))).2]))
      (fun j v Ha Hb s ⟨r, e1, e2⟩ => ⟨r, e1, s _ _ e2⟩) (fun j v Ha acc acc' hacc ⟨r, e1, e2⟩ => ⟨r, e1, by rw [upd_ne (ne_of e2 hacc (by intro z; cases z))]; exact e2⟩) (fun _ _ => trivial) ?_ ?_
    · rintro j x Ha Hb R hj sa ⟨rfl, rfl⟩ k1
      refine ⟨rfl, ?_⟩
      have zi : Sz 1310 (mwF m y o k (12 * a) + (j : Int)) := Sz.add (n := 1300) zm (znat j (by omega) (by decide)) (by decide)
      refine ⟨_, rfl, c, dxc, _, rfl, sa _ _ ec, cf_no _ _ _ _, _, rfl, c, _, m, y, o, k, rfl, hc5.same sa, g, zi.mono (by decide), fun r H6 nr s6 er => ?_⟩
      refine ⟨_, rfl, r, _, rfl, SqT.of er, (by show ¬ (HT.sIx 3 0 (some 1) = 0 ∧ HT.sIx 3 3 none = 3); decide), fun t nt => ?_⟩
      have st := Same.new (o := .tup (cutV (nmL m y o k (mwF m y o k (12 * a) + (j : Int))) (some 1) none)) nt
      exact k1 _ _ (s6.trans st) ⟨t, rfl, upd_same⟩
    · intro us H6 hl eD1 s6 hps
      have hp6 := s6 _ _ hp5
      have hc6 := hc5.same s6
      have nDp1 : D1 ≠ p := fun z => by
        rw [z, hp5] at nD1
        cases nD1
      have nD1H : H D1 = none := by
        cases hh : H D1 with
        | none => rfl
        | some o' => exact absurd (b5 _ _ nDp1 hh) (by rw [nD1]; exact fun z => by cases z)
      have b6 := b5.trans (But.same s6)
      have hNm : NmB H6 us (ynL m y o k a) := ⟨by rw [hl, ynL_len], fun j v hj => by
        obtain ⟨r, e1, e2⟩ := hps j v hj
        refine ⟨r, _, e1, ?_, e2⟩
        have hjl := (List.getElem?_eq_some_iff.mp hj).1
        unfold ynL
        rw [List.getElem?_map, List.getElem?_range (by omega)]
        rfl⟩
      refine ⟨_, rfl, p, Cy, dx, _, rfl, hp6, T.cl, T.n3, (by show 2 < 1000; decide), ?_⟩
      have hp7 : (L2.upd H6 p (.ins Cy dx (putF "names" (.ref D1) (putF "first" (.int (fdF m y o k a)) (putF "number" (.int a) []))))) p = some (.ins Cy dx (putF "names" (.ref D1) (putF "first" (.int (fdF m y o k a)) (putF "number" (.int a) [])))) := upd_same
      have hc7 := hc6.putY (u := .ins Cy dx (putF "names" (.ref D1) (putF "first" (.int (fdF m y o k a)) (putF "number" (.int a) [])))) T.e1 T.e2 hp6
      have b7 : But p H (L2.upd H6 p (.ins Cy dx (putF "names" (.ref D1) (putF "first" (.int (fdF m y o k a)) (putF "number" (.int a) []))))) := b6.put
      have eD17 : (L2.upd H6 p (.ins Cy dx (putF "names" (.ref D1) (putF "first" (.int (fdF m y o k a)) (putF "number" (.int a) []))))) D1 = some (.lst us) := by rw [upd_ne nDp1]; exact eD1
      have hNm7 := hNm.same (tup_upd (u := .ins Cy dx (putF "names" (.ref D1) (putF "first" (.int (fdF m y o k a)) (putF "number" (.int a) [])))) hp6 (fun _ z => by cases z))
      generalize L2.upd H6 p (.ins Cy dx (putF "names" (.ref D1) (putF "first" (.int (fdF m y o k a)) (putF "number" (.int a) [])))) = H7 at *
      refine ⟨_, rfl, _, rfl, _, rfl, c, _, yN m y o k a, m, y, o, k, rfl, hc7, g, zm.mono (by decide), by omega, fun D2 H8 nD2 s8 eD2 => ?_⟩
      have hp8 := s8 _ _ hp7
      have eD18 := s8 _ _ eD17
      have nDp2 : D2 ≠ p := fun z => by
        rw [z, hp7] at nD2
        cases nD2
      have nD12 : D1 ≠ D2 := ne_of_none eD17 nD2
      have nD2H : H D2 = none := by
        cases hh : H D2 with
        | none => rfl
        | some o' => exact absurd (b7 _ _ nDp2 hh) (by rw [nD2]; exact fun z => by cases z)
      have b8 := b7.trans (But.same s8)
      have hNm8 := hNm7.same fun r xs e => s8 _ _ e
      refine ⟨_, rfl, p, Cy, dx, _, rfl, hp8, T.cl, T.n4, (by show 3 < 1000; decide), ?_⟩
      have hp9 : (L2.upd H8 p (.ins Cy dx (putF "lengths" (.ref D2) (putF "names" (.ref D1) (putF "first" (.int (fdF m y o k a)) (putF "number" (.int a) [])))))) p = some (.ins Cy dx (putF "lengths" (.ref D2) (putF "names" (.ref D1) (putF "first" (.int (fdF m y o k a)) (putF "number" (.int a) []))))) := upd_same
      have b9 : But p H (L2.upd H8 p (.ins Cy dx (putF "lengths" (.ref D2) (putF "names" (.ref D1) (putF "first" (.int (fdF m y o k a)) (putF "number" (.int a) [])))))) := b8.put
      have eD19 : (L2.upd H8 p (.ins Cy dx (putF "lengths" (.ref D2) (putF "names" (.ref D1) (putF "first" (.int (fdF m y o k a)) (putF "number" (.int a) [])))))) D1 = some (.lst us) := by rw [upd_ne nDp1]; exact eD18
      have eD29 : (L2.upd H8 p (.ins Cy dx (putF "lengths" (.ref D2) (putF "names" (.ref D1) (putF "first" (.int (fdF m y o k a)) (putF "number" (.int a) [])))))) D2 = some (.lst ((ylL m y o k a).map V.int)) := by rw [upd_ne nDp2]; exact eD2
      have hNm9 := hNm8.same (tup_upd (u := .ins Cy dx (putF "lengths" (.ref D2) (putF "names" (.ref D1) (putF "first" (.int (fdF m y o k a)) (putF "number" (.int a) []))))) hp8 (fun _ z => by cases z))
      generalize L2.upd H8 p (.ins Cy dx (putF "lengths" (.ref D2) (putF "names" (.ref D1) (putF "first" (.int (fdF m y o k a)) (putF "number" (.int a) []))))) = H9 at *
      refine ⟨_, rfl, p, Cy, dx, _, _, rfl, hp9, T.cl, T.n3, yf_names4 _ _ _ _, D1, us, _, rfl, eD19, hNm9, ?_⟩
      refine ⟨_, rfl, p, Cy, dx, _, rfl, hp9, T.cl, T.n5, (by show 4 < 1000; decide), ?_⟩
      refine q _ D1 D2 us b9.put ⟨dx, upd_same⟩ nD1H nD2H nD12 (by rw [upd_ne nDp1]; exact eD19) (hNm9.same (tup_upd hp9 (fun _ z => by cases z))) (by rw [upd_ne nDp2]; exact eD29)
end
/-! ### years that begin together -/
def spYw (C Cc : Addr) : Sp := fun vs H Q _ => ∃ (p : Addr) (a : Int) (m y o k : Rat), vs = [.ref p, .int a] ∧ Cl C Cc H p m y o k ∧ Good m y o k ∧ Sz 1200 a ∧ ∀ H', Same H H' → Q (.int (dtY m y o k a)) H'
theorem Good.zfd {m y o k : Rat} (g : Good m y o k) {n l : Nat} {a : Int} (h : Sz n a) (h5 : 5 ≤ n) (hl : n + 470 < l) : Sz l (fdF m y o k a) := by
  have h1 : Sz (n + 4) (12 * a) := (Sz.mul (szi (n := 4) 12) h).mono (by omega)
  have h2 : Sz (n + 166) (mdF y k (12 * a)) := g.zmd h1 (by omega) (by omega)
  have h3 : Sz (n + 318) (maF m o (mdF y k (12 * a))) := g.zma h2 (by omega) (by omega)
  exact g.zst h3 (by omega) (by omega)
section
variable {P : Program} {w : World} {K : PySem.W.Frag} {mg : Str → Option Value} {base : Heap} {C Cc : Addr}
theorem ok_yw (D : Df K mg "year_with" s_year_with []) (f_month_at : Cm P w K mg base CX0 7 Cc "month_at" "Calendar.month_at" s_Calendar_month_at ["self", "day"] (spM1 C Cc 2900 fun m _ o _ i => .int (maF m o i))) (f_name_of : Cm P w K mg base CX0 9 Cc "name_of" "Calendar.name_of" s_Calendar_name_of ["self", "k"] (spName C Cc)) : Ca P w K mg base CX0 10 "year_with" s_year_with [] ["calendar", "day"] (spYw C Cc) := by
  refine ca0 (k := 9) D c_year_with (fun vs H Q E h => ?_) fun f cdv A outer s H vs Q E hr h => ?_
  · obtain ⟨p, a, m, y, o, k, rfl, _⟩ := h
    rfl
  · obtain ⟨p, i, m, y, o, k, rfl, hc, g, zi, q⟩ := h
    obtain ⟨dx, a1, b1, c1, d1, e, _⟩ := id hc
    have zk : Sz 1360 (maF m o i) := g.zma zi (by decide) (by decide)
    refine ⟨_, (pss_one (ps_ret (pe_ix ix_tup (pe_cm f_name_of b_Calendar_name_of hr (by decide) pass0 (pv 0) (pa_cons (pe_cm f_month_at b_Calendar_month_at hr (by decide) pass0 (pv 0) (pa_cons (pv 1) pa_nil)) pa_nil)) pe_int (fun _ _ => rfl)))), ?_⟩
    refine ⟨_, rfl, p, dx, _, rfl, e, cf_no _ _ _ _, _, rfl, p, dx, _, rfl, e, cf_no _ _ _ _, _, rfl, p, i, m, y, o, k, rfl, hc, g, zi.mono (by decide), fun H1 s1 => ?_⟩
    refine ⟨p, _, m, y, o, k, rfl, hc.same s1, g, zk.mono (by decide), fun t H2 nt s2 et => ?_⟩
    exact ⟨t, _, _, _, rfl, rfl, SqT.of et, rfl, q H2 (s1.trans s2)⟩
end
/-! ### Feast -/
def ffs (a n d w : V) : List (Str × V) := putF "when" w (putF "day" d (putF "number" n (putF "name" a [])))
theorem fnn_ : ¬ (("name" : Str) = "number") := by decide +kernel
theorem fnd_ : ¬ (("name" : Str) = "day") := by decide +kernel
theorem fnw_ : ¬ (("name" : Str) = "when") := by decide +kernel
theorem fmd_ : ¬ (("number" : Str) = "day") := by decide +kernel
theorem fmw_ : ¬ (("number" : Str) = "when") := by decide +kernel
theorem fdw_ : ¬ (("day" : Str) = "when") := by decide +kernel
theorem ff_name (a n d w : V) : (ffs a n d w).lookup ("name" : Str) = some a := by
  unfold ffs
  rw [lookup_putF, if_neg fnw_, lookup_putF, if_neg fnd_, lookup_putF, if_neg fnn_, lookup_putF, if_pos rfl]
theorem ff_number (a n d w : V) : (ffs a n d w).lookup ("number" : Str) = some n := by
  unfold ffs
  rw [lookup_putF, if_neg fmw_, lookup_putF, if_neg fmd_, lookup_putF, if_pos rfl]
theorem ff_day (a n d w : V) : (ffs a n d w).lookup ("day" : Str) = some d := by
  unfold ffs
  rw [lookup_putF, if_neg fdw_, lookup_putF, if_pos rfl]
theorem ff_when (a n d w : V) : (ffs a n d w).lookup ("when" : Str) = some w := by
  unfold ffs
  rw [lookup_putF, if_pos rfl]
structure FeT (K : PySem.W.Frag) (Cf : Addr) : Prop where
  cl : Cls K Cf
  n1 : NoAttr K Cf "name"
  n2 : NoAttr K Cf "number"
  n3 : NoAttr K Cf "day"
  n4 : NoAttr K Cf "when"
def Fe (Cf : Addr) (H : Hp) (p : Addr) (a : Str) (n d : Int) (w : Str) : Prop := ∃ dx, H p = some (.ins Cf dx (ffs (.str a) (.int n) (.int d) (.str w)))
theorem Fe.same {Cf p : Addr} {H H1 : Hp} {a w : Str} {n d : Int} (h : Fe Cf H p a n d w) (s : Same H H1) : Fe Cf H1 p a n d w := by
  obtain ⟨dx, e⟩ := h
  exact ⟨dx, s _ _ e⟩
def spFeI (Cf : Addr) : Sp := fun vs H Q _ => ∃ (p dx : Addr) (a n d w : V), vs = [.ref p, a, n, d, w] ∧ H p = some (.ins Cf dx []) ∧ Q .non (L2.upd H p (.ins Cf dx (ffs a n d w)))
theorem made_fe {Cf : Addr} {H : Hp} {R : Addr → Hp → Prop} {E : XK} {a n d w : V} (h : ∀ p dx H', H p = none → Same H H' → H' p = some (.ins Cf dx (ffs a n d w)) → R p H') :
    ∀ x dx, H x = none → H dx = none → dx ≠ x → spFeI Cf [.ref x, a, n, d, w] (L2.upd (L2.upd H dx (.own x)) x (.ins Cf dx [])) (fun v H2 => v = .non ∧ R x H2) E := by
  intro x dx hx hd ne
  refine ⟨x, dx, a, n, d, w, rfl, upd_same, rfl, ?_⟩
  rw [upd_upd]
  refine h x dx _ hx (Same.upd (Same.new hd) ?_) upd_same
  rw [upd_ne ne.symm]
  exact hx
def gFe {α : Type} : List α → List α → List α → List α := fun us _ ws => us ++ (match ws with | [a, b, c, d] => [d, c, b, a] | _ => [])
theorem gFe_rel {vs ds zs : List V} {us its ws : List Value} (h : Vals vs us) (_ : Vals ds its) (k : Vals zs ws) : Vals (gFe vs ds zs) (gFe us its ws) := by
  refine h.append ?_
  cases k with
  | nil => exact .nil
  | cons a k => cases k with
    | nil => exact .nil
    | cons b k => cases k with
      | nil => exact .nil
      | cons c k => cases k with
        | nil => exact .nil
        | cons d k => cases k with
          | nil => exact .cons d (.cons c (.cons b (.cons a .nil)))
          | cons e k => exact .nil
section
variable {P : Program} {w : World} {K : PySem.W.Frag} {mg : Str → Option Value} {base : Heap} {Cf : Addr}
theorem ok_feI (D : Di K mg "Feast" Cf "Feast.__init__" s_Feast_init [.str "plain"]) (T : FeT K Cf) : Ci P w K mg base CX0 1 "Feast" Cf "Feast.__init__" s_Feast_init [.str "plain"] ["self", "name", "number", "day", "when"] (spFeI Cf) := by
  refine ci0 (k := 0) D c_Feast_init (fun vs H Q E h => ?_) fun f cdv A outer s H vs Q E hr h => ?_
  · obtain ⟨p, dx, a, n, d, w', rfl, _⟩ := h
    rfl
  · obtain ⟨p, dx, a, n, d, w', rfl, hp, q⟩ := h
    refine ⟨_, (pss_cons (ps_fld (pv 0) (pv 1) rfl)
      (pss_cons (ps_fld (pv 0) (pv 2) rfl)
      (pss_cons (ps_fld (pv 0) (pv 3) rfl)
      (pss_one (ps_fld (pv 0) (pv 4) rfl))))), ?_⟩
    refine ⟨_, rfl, _, rfl, p, Cf, dx, _, rfl, hp, T.cl, T.n1, (by show 0 < 1000; decide), ?_⟩
    refine ⟨_, rfl, _, rfl, p, Cf, dx, _, rfl, upd_same, T.cl, T.n2, (by show 1 < 1000; decide), ?_⟩
    refine ⟨_, rfl, _, rfl, p, Cf, dx, _, rfl, upd_same, T.cl, T.n3, (by show 2 < 1000; decide), ?_⟩
    refine ⟨_, rfl, _, rfl, p, Cf, dx, _, rfl, upd_same, T.cl, T.n4, (by show 3 < 1000; decide), ?_⟩
    rw [upd_upd, upd_upd, upd_upd]
    exact q
theorem bd_Feast4 : Bd1 "__init__" "Feast.__init__" s_Feast_init ["self", "name", "number", "day", "when"] 5 1 1 := fun _ _ _ _ _ _ _ us its hu hi => match us, hu, its, hi with | [_, _, _, _, _], _, [_], _ => ⟨_, rfl, rfl⟩
theorem bd_Feast3 : Bd1 "__init__" "Feast.__init__" s_Feast_init ["self", "name", "number", "day", "when"] 4 0 1 := fun _ _ _ _ _ _ _ us its hu hi => match us, hu, its, hi with | [_, _, _, _], _, [_], _ => ⟨_, rfl, rfl⟩
theorem kb_Feast_0_when_day_number_name : Kd "Feast.__init__" s_Feast_init 1 1 ["when", "day", "number", "name"] ["self", "name", "number", "day", "when"] gFe :=
  ⟨fun _ _ _ _ _ _ _ us its ws hu hi hw => match us, hu, its, hi, ws, hw with | [_], _, [_], _, [_, _, _, _], _ => ⟨_, rfl, rfl⟩, gFe_rel⟩
end
/-! ### feasts in their years -/
def isW (w : Str) (x : Str) : Bool := decide (V.str w = V.str x)
def fmL (m y o k : Rat) (a b : Int) (w : Str) : List Int := if isW w "both" = true then (if hasM m y o k (pmF m y o k a b + 1) then [pmF m y o k a b] else [pmF m y o k a b, pmF m y o k a b + 1]) else [miyF m y o k a b (isW w "odd")]
def fdd (m o : Rat) (d i : Int) : Int := stF m o i + heldF m o i d - 1
theorem fm_len (m y o k : Rat) (a b : Int) (w : Str) : (fmL m y o k a b w).length ≤ 2 := by
  unfold fmL
  split
  · split <;> simp
  · simp
theorem fm_sz {m y o k : Rat} (g : Good m y o k) {a b : Int} {w : Str} (ha : Sz 900 a) (hb : Sz 900 b) : ∀ i ∈ fmL m y o k a b w, Sz 1300 i := fun i hi => by
  have z := (g.zpm ha hb).2
  unfold fmL at hi
  split at hi
  · split at hi
    · rw [List.mem_singleton.mp hi]
      exact z.mono (by decide)
    · rcases List.mem_cons.mp hi with rfl | hi
      · exact z.mono (by decide)
      · rw [List.mem_singleton.mp hi]
        exact zadd z 1
  · rw [List.mem_singleton.mp hi]
    exact (g.zmiy (by decide) ha hb).mono (by decide)
theorem range_getD (xs : List Int) (f : Int → Int) : (List.range xs.length).map (fun j => f (xs.getD j 0)) = xs.map f := by
  refine List.ext_getElem? fun j => ?_
  rw [List.getElem?_map, List.getElem?_map]
  by_cases hj : j < xs.length
  · rw [List.getElem?_range hj, List.getElem?_eq_getElem hj]
    show some (f (xs.getD j 0)) = some (f xs[j])
    rw [List.getD_eq_getElem?_getD, List.getElem?_eq_getElem hj]
    rfl
  · rw [List.getElem?_eq_none_iff.mpr (by simp; omega), List.getElem?_eq_none_iff.mpr (by omega)]
    rfl
theorem get_int {xs : List Int} {j : Nat} {x : V} (h : (xs.map V.int)[j]? = some x) (hj : j < xs.length) : x = .int (xs.getD j 0) ∧ xs.getD j 0 ∈ xs := by
  rw [List.getElem?_map, List.getElem?_eq_getElem hj] at h
  rw [List.getD_eq_getElem?_getD, List.getElem?_eq_getElem hj]
  exact ⟨(Option.some.inj h).symm, List.getElem_mem hj⟩
def spFm (C Cc Cf : Addr) : Sp := fun vs H Q _ => ∃ (p f : Addr) (nm w : Str) (a b d : Int) (m y o k : Rat), vs = [.ref p, .ref f, .int a] ∧ Cl C Cc H p m y o k ∧ Good m y o k ∧ Fe Cf H f nm b d w ∧ Sz 900 a ∧ Sz 900 b ∧ ∀ r H', H r = none → Same H H' → H' r = some (.lst ((fmL m y o k a b w).map V.int)) → Q (.ref r) H'
def spFds (C Cc Cf : Addr) : Sp := fun vs H Q _ => ∃ (p f : Addr) (nm w : Str) (a b d : Int) (m y o k : Rat), vs = [.ref p, .ref f, .int a] ∧ Cl C Cc H p m y o k ∧ Good m y o k ∧ Fe Cf H f nm b d w ∧ Sz 900 a ∧ Sz 900 b ∧ ∀ r H', H r = none → Same H H' → H' r = some (.lst (((fmL m y o k a b w).map (fdd m o d)).map V.int)) → Q (.ref r) H'
section
variable {P : Program} {w : World} {K : PySem.W.Frag} {mg : Str → Option Value} {base : Heap} {C Cc Cf : Addr}
abbrev TE_feast_months1 : TE := tVar 4
abbrev TT_feast_months1 : TT := tB (tNotN (tVar 4))
theorem ok_fm (D : Df K mg "feast_months" s_feast_months []) (T : FeT K Cf) (f_plain_month : Ca P w K mg base CX0 9 "plain_month" s_plain_month [] ["calendar", "year", "number"] (spPlain C Cc)) (f_odd_month : Ca P w K mg base CX0 10 "odd_month" s_odd_month [] ["calendar", "year", "number"] (spOddM C Cc)) (f_month_in_year : Ca P w K mg base CX0 11 "month_in_year" s_month_in_year [] ["calendar", "year", "number", "odd"] (spMiy C Cc)) : Ca P w K mg base CX0 12 "feast_months" s_feast_months [] ["calendar", "feast", "year"] (spFm C Cc Cf) := by
  refine ca0 (k := 11) D c_feast_months (fun vs H Q E h => ?_) fun f cdv A outer s H vs Q E hr h => ?_
  · obtain ⟨p, f, nm, w, a, b, d, m, y, o, k, rfl, _⟩ := h
    rfl
  · obtain ⟨p, f, nm, w, a, b, d, m, y, o, k, rfl, hc, g, ⟨dx, ef⟩, za, zb, q⟩ := h
    refine ⟨_, (pss_cons (ps_if (pt_cmpR op_eq (pe_fld (pv 1) rfl) pe_str (nomark _)) (pss_cons (ps_set (i := 3) c_feast_months.nd rfl (.inl rfl) (pe_lst (pa_cons (pe_ca f_plain_month b_plain_month hr (by decide) pass0 rfl (pa_cons (pv 0) (pa_cons (pv 2) (pa_cons (pe_fld (pv 1) rfl) pa_nil)))) (pa_cons (pe_ca f_odd_month b_odd_month hr (by decide) pass0 rfl (pa_cons (pv 0) (pa_cons (pv 2) (pa_cons (pe_fld (pv 1) rfl) pa_nil)))) pa_nil))))
      (pss_one (ps_ret (pe_lc (own := [("k", 4)]) (g := gName 4) (tt := TT_feast_months1 ) (te := TE_feast_months1 ) rfl c_feast_months.nd (pi_list (pv 3)) (blkOk_by (N := ["calendar", "feast", "year", "months", "k"]) (sc := defScope s_feast_months) (by decide +kernel)) (fun _ _ _ _ _ => (pg_name (i := 4) c_feast_months.nd rfl (.inl rfl))) (fun _ _ _ _ _ => by exact pts_one (pt_cmp (pc_notN (pv 4)))) (fun _ _ _ _ _ => by exact (pv 4)))))) pss_nil)
      (pss_one (ps_ret (pe_lst (pa_cons (pe_ca f_month_in_year b_month_in_year hr (by decide) pass0 rfl (pa_cons (pv 0) (pa_cons (pv 2) (pa_cons (pe_fld (pv 1) rfl) (pa_cons (pe_cmpR op_eq (pe_fld (pv 1) rfl) pe_str (nomark _)) pa_nil))))) pa_nil))))), ?_⟩
    refine ⟨_, rfl, f, Cf, dx, _, _, rfl, ef, T.cl, T.n4, ff_when _ _ _ _, rfl, _, rfl, ?_⟩
    show if isW w "both" = true then _ else _
    by_cases hB : isW w "both" = true
    · rw [if_pos hB]
      refine ⟨_, rfl, _, rfl, _, rfl, f, Cf, dx, _, _, rfl, ef, T.cl, T.n2, ff_number _ _ _ _, p, a, b, m, y, o, k, rfl, hc, g, za, zb, fun H1 s1 => ?_⟩
      refine ⟨_, rfl, _, rfl, _, rfl, f, Cf, dx, _, _, rfl, s1 _ _ ef, T.cl, T.n2, ff_number _ _ _ _, p, a, b, m, y, o, k, rfl, hc.same s1, g, za, zb, fun H2 s2 => ?_⟩
      refine ⟨(by show 2 ≤ sizeLine; decide), fun l nl => ?_⟩
      have s3 := Same.new (o := .lst [.int (pmF m y o k a b), if hasM m y o k (pmF m y o k a b + 1) then .non else .int (pmF m y o k a b + 1)]) nl
      refine ⟨_, rfl, l, rfl, ⟨_, SqL.of upd_same⟩, fun D0 hD => ?_⟩
      refine lc_filt (walk_list (K := K) (a := l) (xs := [.int (pmF m y o k a b), if hasM m y o k (pmF m y o k a b + 1) then .non else .int (pmF m y o k a b + 1)])) yAt_same hD (by show 2 < 2 ^ 24; decide) (fun j => pmF m y o k a b + (j : Nat)) (fun j => decide (j = 0) || !decide (hasM m y o k (pmF m y o k a b + 1))) (fun H' s' => SqL.of (s' _ _ upd_same)) ?_ ?_
      · rintro j x H4 H5 R N hj s4 ⟨rfl, hx⟩ kT kF
        match j, hx with
        | 0, hx =>
          cases hx
          refine ⟨rfl, _, rfl, _, rfl, iteT ⟨_, rfl, ?_⟩⟩
          have z := kT rfl H5 (Same.refl _)
          rw [show pmF m y o k a b + ((0 : Nat) : Int) = pmF m y o k a b by omega] at z
          exact z
        | 1, hx =>
          have hx : some (if hasM m y o k (pmF m y o k a b + 1) then V.non else V.int (pmF m y o k a b + 1)) = some x := hx
          by_cases hm : hasM m y o k (pmF m y o k a b + 1)
          · rw [if_pos hm] at hx
            cases hx
            exact ⟨rfl, _, rfl, _, rfl, iteF (kF (by simp [hm]) H5 (Same.refl _))⟩
          · rw [if_neg hm] at hx
            cases hx
            exact ⟨rfl, _, rfl, _, rfl, iteT ⟨_, rfl, kT (by simp [hm]) H5 (Same.refl _)⟩⟩
      · intro H4 e4 s4
        refine q D0 H4 ?_ (s1.trans (s2.trans (s3.trans s4))) ?_
        · exact (s1.trans (s2.trans s3)).free hD
        · rw [e4]
          unfold fmL
          rw [if_pos hB]
          by_cases hm : hasM m y o k (pmF m y o k a b + 1)
          · simp [hm, List.range_succ]
          · simp [hm, List.range_succ]
    · rw [if_neg hB]
      refine ⟨_, rfl, _, rfl, _, rfl, f, Cf, dx, _, _, rfl, ef, T.cl, T.n2, ff_number _ _ _ _, _, rfl, f, Cf, dx, _, _, rfl, ef, T.cl, T.n4, ff_when _ _ _ _, rfl, p, a, b, isW w "odd", m, y, o, k, rfl, hc, g, za, zb, fun H1 s1 => ?_⟩
      refine ⟨(by show 1 ≤ sizeLine; decide), fun l nl => ?_⟩
      refine q l _ (s1.free nl) (s1.trans (Same.new nl)) ?_
      rw [upd_same]
      unfold fmL
      rw [if_neg hB]
      rfl
abbrev TE_feast_days1 (K : PySem.W.Frag) (C Cc : Addr) : TE := tCall (spDayIn C Cc) [] E0 (tCons (tVar 0) (tCons (tVar 4) (tCons (tCall (spHeld C Cc) [] E0 (tCons (tVar 0) (tCons (tVar 4) (tCons (tFld K (tVar 1) "day") tNil)))) tNil)))
theorem ok_fds (D : Df K mg "feast_days" s_feast_days []) (T : FeT K Cf) (f_day_in : Ca P w K mg base CX0 8 "day_in" s_day_in [] ["calendar", "k", "count"] (spDayIn C Cc)) (f_held_in : Ca P w K mg base CX0 9 "held_in" s_held_in [] ["calendar", "k", "count"] (spHeld C Cc)) (f_feast_months : Ca P w K mg base CX0 12 "feast_months" s_feast_months [] ["calendar", "feast", "year"] (spFm C Cc Cf)) : Ca P w K mg base CX0 13 "feast_days" s_feast_days [] ["calendar", "feast", "year"] (spFds C Cc Cf) := by
  refine ca0 (k := 12) D c_feast_days (fun vs H Q E h => ?_) fun f cdv A outer s H vs Q E hr h => ?_
  · obtain ⟨p, f, nm, w, a, b, d, m, y, o, k, rfl, _⟩ := h
    rfl
  · obtain ⟨p, f, nm, w, a, b, d, m, y, o, k, rfl, hc, g, hf, za, zb, q⟩ := h
    obtain ⟨dx, ef⟩ := id hf
    refine ⟨_, (pss_cons (ps_set (i := 3) c_feast_days.nd rfl (.inl rfl) (pe_ca f_feast_months b_feast_months hr (by decide) pass0 rfl (pa_cons (pv 0) (pa_cons (pv 1) (pa_cons (pv 2) pa_nil)))))
      (pss_one (ps_ret (pe_lc (own := [("k", 4)]) (g := gName 4) (tt := tYes) (te := TE_feast_days1 K C Cc) rfl c_feast_days.nd (pi_list (pv 3)) (blkOk_by (N := ["calendar", "feast", "year", "months", "k"]) (sc := defScope s_feast_days) (by decide +kernel)) (fun _ _ _ _ _ => (pg_name (i := 4) c_feast_days.nd rfl (.inl rfl))) (fun _ _ _ _ _ => by exact pts_nil) (fun _ _ _ _ _ => by exact (pe_ca f_day_in b_day_in hr (by decide) pass0 rfl (pa_cons (pv 0) (pa_cons (pv 4) (pa_cons (pe_ca f_held_in b_held_in hr (by decide) pass0 rfl (pa_cons (pv 0) (pa_cons (pv 4) (pa_cons (pe_fld (pv 1) rfl) pa_nil)))) pa_nil))))))))), ?_⟩
    refine ⟨_, rfl, _, rfl, _, rfl, p, f, nm, w, a, b, d, m, y, o, k, rfl, hc, g, hf, za, zb, fun l H1 nl s1 el => ?_⟩
    refine ⟨_, rfl, l, rfl, ⟨_, SqL.of el⟩, fun D0 hD => ?_⟩
    have wl := walk_list (K := K) (a := l) (xs := (fmL m y o k a b w).map V.int)
    rw [List.length_map] at wl
    refine lc_ints wl yAt_same hD (Nat.lt_of_le_of_lt (fm_len _ _ _ _ _ _ _) (by decide)) (fun j => fdd m o d ((fmL m y o k a b w).getD j 0)) (fun H' s' => SqL.of (s' _ _ el)) ?_ ?_
    · rintro j x H2 H3 R hj s2 ⟨rfl, hx⟩ k1
      obtain ⟨rfl, hmem⟩ := get_int hx hj
      have zi := fm_sz g za zb _ hmem
      have s12 := s1.trans s2
      refine ⟨rfl, ?_⟩
      refine ⟨_, rfl, _, rfl, _, rfl, _, rfl, _, rfl, f, Cf, dx, _, _, rfl, s12 _ _ ef, T.cl, T.n3, ff_day _ _ _ _, p, _, d, m, y, o, k, rfl, hc.same s12, g, zi.mono (by decide), fun H4 s4 => ?_⟩
      exact ⟨p, _, _, m, y, o, k, rfl, (hc.same s12).same s4, g, zi.mono (by decide), fun H5 s5 => k1 H5 (s4.trans s5)⟩
    · intro H2 e2 s2
      rw [range_getD] at e2
      exact q D0 H2 (s1.free hD) (s1.trans s2) e2
end
def spPart : Sp := fun vs H Q _ => ∃ (l : Addr) (n : Nat), vs = [.ref l] ∧ Dr H l n ∧ n ≤ 100000 ∧ ∀ r H' q, 0 ≤ q → q ≤ 1 → Rz 18 q → But l H H' → Dr H' l (n + 2) → Tp H' r q → Q (.ref r) H'
def spMom : Sp := fun vs H Q _ => ∃ (l : Addr) (n : Nat), vs = [.ref l] ∧ Dr H l n ∧ n ≤ 10000 ∧ ∀ r H' q, Rz 60 q → But l H H' → Dr H' l (n + 3) → Tp H' r q → Q (.ref r) H'
def spFour : Sp := fun vs H Q _ => ∃ (l : Addr) (n : Nat), vs = [.ref l] ∧ Dr H l n ∧ n ≤ 1000 ∧ ∀ r H' m y o k, Good m y o k → But l H H' → Dr H' l (n + 11) → Fo H' r m y o k → Q (.ref r) H'
theorem Tp.but {l : Addr} {H H1 : Hp} {n : Nat} {a : Addr} {q : Rat} (h : Tp H a q) (b : But l H H1) (d : Dr H l n) : Tp H1 a q := b.tup d h
section
variable {P : Program} {w : World} {K : PySem.W.Frag} {mg : Str → Option Value} {base : Heap}
theorem ok_lpart (D : Df K mg "_law_part" s_l_part []) (f_l_next : Ca P w K mg base CX0 1 "_law_next" s_l_next [] ["_law_draws_here"] spNext) (f_l_low : Ca P w K mg base CX0 1 "_law_low" s_l_low [] ["_law_top", "_law_bottom"] spLow) : Ca P w K mg base CX0 2 "_law_part" s_l_part [] ["_law_draws_here"] spPart := by
  refine ca0 (k := 1) D c_l_part (fun vs H Q E h => ?_) fun f cdv A outer s H vs Q E hr h => ?_
  · obtain ⟨l, n, rfl, _⟩ := h
    rfl
  · obtain ⟨l, n, rfl, d, hn, q⟩ := h
    refine ⟨_, (pss_cons (ps_set (i := 1) c_l_part.nd rfl (.inl rfl) (pe_ca f_l_next b_l_next hr (by decide) pass0 rfl (pa_cons (pv 0) pa_nil)))
      (pss_cons (ps_set (i := 2) c_l_part.nd rfl (.inl rfl) (pe_ix ix_list (pe_lst (pa_cons (pe_op op_add pe_int (pe_op op_mod (pe_op op_fdiv (pv 1) pe_int) pe_int)) (pa_cons (pe_op op_add pe_int (pe_op op_mod (pe_op op_fdiv (pv 1) pe_int) pe_int)) (pa_cons (pe_op op_add pe_int (pe_op op_mod (pe_op op_fdiv (pv 1) pe_int) pe_int)) (pa_cons (pe_op op_add (pe_op op_pow pe_int pe_int) (pe_op op_mod (pe_op op_fdiv (pv 1) pe_int) (pe_op op_pow pe_int pe_int))) pa_nil))))) (pe_op op_mod (pv 1) pe_int) (fun _ _ => rfl)))
      (pss_one (ps_ret (pe_ca f_l_low b_l_low hr (by decide) pass0 rfl (pa_cons (pe_op op_mod (pe_ca f_l_next b_l_next hr (by decide) pass0 rfl (pa_cons (pv 0) pa_nil)) (pe_op op_add (pv 2) pe_int)) (pa_cons (pv 2) pa_nil))))))), ?_⟩
    refine ⟨_, rfl, l, n, rfl, d, by omega, fun v H1 v0 v1 b1 d1 => ?_⟩
    refine ⟨_, rfl, _, _, rfl, rfl, ⟨by decide, by decide⟩, _, _, rfl, rfl, md, _, _, rfl, rfl, _, rfl, _, _, rfl, rfl, ⟨by decide, by decide⟩, _, _, rfl, rfl, md, _, _, rfl, rfl, _, rfl, _, _, rfl, rfl, ⟨by decide, by decide⟩, _, _, rfl, rfl, md, _, _, rfl, rfl, _, _, rfl, rfl, ⟨by decide, by decide, by decide⟩, _, rfl, _, _, rfl, rfl, ⟨by decide, by decide⟩, _, _, rfl, rfl, ⟨by decide, by decide, by decide⟩, _, _, rfl, rfl, md, _, _, rfl, rfl, (by show 4 ≤ sizeLine; decide), fun p hp => ?_⟩
    have h1 := Int.emod_nonneg v (show (4 : Int) ≠ 0 by decide)
    have h2 := Int.emod_lt_of_pos v (show (0 : Int) < 4 by decide)
    obtain ⟨x, hx, b, rfl, zb0, zb1⟩ := pick (P := fun x => ∃ i : Int, x = V.int i ∧ 1 ≤ i ∧ i ≤ 200000) (xs := [.int (1 + v / 4 % 3), .int (1 + v / 4 % 40), .int (1 + v / 4 % 1000), .int (10 ^ (5 : Int).toNat + v / 4 % 10 ^ (5 : Int).toNat)]) h1 h2 (by
      have e5 : (10 : Int) ^ (5 : Int).toNat = 100000 := by decide
      intro x hx
      rcases List.mem_cons.mp hx with rfl | hx
      · exact ⟨_, rfl, by omega, by omega⟩
      rcases List.mem_cons.mp hx with rfl | hx
      · exact ⟨_, rfl, by omega, by omega⟩
      rcases List.mem_cons.mp hx with rfl | hx
      · exact ⟨_, rfl, by omega, by omega⟩
      rcases List.mem_cons.mp hx with rfl | hx
      · exact ⟨_, rfl, by rw [e5]; omega, by rw [e5]; omega⟩
      · cases hx)
    refine ⟨_, rfl, _, _, rfl, rfl, md, p, _, _, _, rfl, rfl, SqL.of upd_same, hx, ?_⟩
    refine ⟨_, rfl, l, n + 1, rfl, d1.new hp, by omega, fun u H2 u0 u1 b2 d2 => ?_⟩
    have t0 := Int.emod_nonneg u (show b + 1 ≠ 0 by omega)
    have t1 := Int.emod_lt_of_pos u (show 0 < b + 1 by omega)
    refine ⟨_, rfl, _, _, rfl, rfl, _, _, rfl, rfl, (show 0 < b + 1 by omega), _, rfl, u % (b + 1), b, rfl, by omega, ?_, ?_, fun r hr' => ?_⟩
    · exact (Sz.of (n := 18) (by omega) (by have : (2 : Int) ^ 18 = 262144 := by decide
                                            omega)).mono (by decide)
    · exact (Sz.of (n := 18) (by omega) (by have : (2 : Int) ^ 18 = 262144 := by decide
                                            omega)).mono (by decide)
    · obtain ⟨q0, q1⟩ := unit_divInt t0 (show u % (b + 1) ≤ b by omega) (show 0 < b by omega)
      have e18 : (2 : Int) ^ 18 = 262144 := by decide
      exact q r _ _ q0 q1 (Rz.divInt (Sz.of (by omega) (by omega)) (Sz.of (by omega) (by omega)) (by decide)) (((b1.upd hp).trans b2).upd hr') (d2.new hr') upd_same
end
section
variable {P : Program} {w : World} {K : PySem.W.Frag} {mg : Str → Option Value} {base : Heap}
theorem ok_lmom (D : Df K mg "_law_moment" s_l_moment []) (f_l_next : Ca P w K mg base CX0 1 "_law_next" s_l_next [] ["_law_draws_here"] spNext) (f_l_part : Ca P w K mg base CX0 2 "_law_part" s_l_part [] ["_law_draws_here"] spPart) (f_l_plus : Ca P w K mg base CX0 2 "_law_plus" s_l_plus [] ["_law_one", "_law_two"] (spT2 fun a b => a + b)) : Ca P w K mg base CX0 3 "_law_moment" s_l_moment [] ["_law_draws_here"] spMom := by
  refine ca0 (k := 2) D c_l_moment (fun vs H Q E h => ?_) fun f cdv A outer s H vs Q E hr h => ?_
  · obtain ⟨l, n, rfl, _⟩ := h
    rfl
  · obtain ⟨l, n, rfl, d, hn, q⟩ := h
    refine ⟨_, (pss_cons (ps_set (i := 1) c_l_moment.nd rfl (.inl rfl) (pe_ca f_l_part b_l_part hr (by decide) pass0 rfl (pa_cons (pv 0) pa_nil)))
      (pss_cons (ps_set (i := 2) c_l_moment.nd rfl (.inl rfl) (pe_ca f_l_next b_l_next hr (by decide) pass0 rfl (pa_cons (pv 0) pa_nil)))
      (pss_cons (ps_set (i := 3) c_l_moment.nd rfl (.inl rfl) (pe_ix ix_list (pe_lst (pa_cons pe_int (pa_cons (pe_op op_mod (pe_op op_fdiv (pv 2) pe_int) pe_int) (pa_cons (pe_op op_add (pe_op op_pow pe_int pe_int) (pe_op op_fdiv (pv 2) pe_int)) (pa_cons (pe_op op_sub pe_int (pe_op op_mod (pe_op op_fdiv (pv 2) pe_int) (pe_op op_pow pe_int pe_int))) pa_nil))))) (pe_op op_mod (pv 2) pe_int) (fun _ _ => rfl)))
      (pss_one (ps_ret (pe_ca f_l_plus b_l_plus hr (by decide) pass0 rfl (pa_cons (pv 1) (pa_cons (pe_tup (pa_cons (pv 3) (pa_cons pe_int pa_nil))) pa_nil)))))))), ?_⟩
    refine ⟨_, rfl, l, n, rfl, d, by omega, fun a H1 x x0 x1 zx b1 d1 e1 => ?_⟩
    refine ⟨_, rfl, l, n + 2, rfl, d1, by omega, fun v H2 v0 v1 b2 d2 => ?_⟩
    refine ⟨_, rfl, _, _, rfl, rfl, ⟨by decide, by decide⟩, _, _, rfl, rfl, md, _, _, rfl, rfl, ⟨by decide, by decide, by decide⟩, _, rfl, _, _, rfl, rfl, ⟨by decide, by decide⟩, _, _, rfl, rfl, _, rfl, _, _, rfl, rfl, ⟨by decide, by decide⟩, _, _, rfl, rfl, ⟨by decide, by decide, by decide⟩, _, _, rfl, rfl, md, _, _, rfl, rfl, (by show 4 ≤ sizeLine; decide), fun p hp => ?_⟩
    have h1 := Int.emod_nonneg v (show (4 : Int) ≠ 0 by decide)
    have h2 := Int.emod_lt_of_pos v (show (0 : Int) < 4 by decide)
    obtain ⟨z, hz, i, rfl, zi⟩ := pick (P := fun x => ∃ i : Int, x = V.int i ∧ Sz 30 i) (xs := [.int 0, .int (v / 4 % 100), .int (10 ^ (6 : Int).toNat + v / 4), .int (0 - v / 4 % 10 ^ (5 : Int).toNat)]) h1 h2 (by
      have e5 : (10 : Int) ^ (5 : Int).toNat = 100000 := by decide
      have e6 : (10 : Int) ^ (6 : Int).toNat = 1000000 := by decide
      have e30 : (2 : Int) ^ 30 = 1073741824 := by decide
      intro x hx
      rcases List.mem_cons.mp hx with rfl | hx
      · exact ⟨_, rfl, Sz.of (by omega) (by omega)⟩
      rcases List.mem_cons.mp hx with rfl | hx
      · exact ⟨_, rfl, Sz.of (by omega) (by omega)⟩
      rcases List.mem_cons.mp hx with rfl | hx
      · exact ⟨_, rfl, Sz.of (by rw [e6, e30]; omega) (by rw [e6, e30]; omega)⟩
      rcases List.mem_cons.mp hx with rfl | hx
      · exact ⟨_, rfl, Sz.of (by rw [e5, e30]; omega) (by rw [e5, e30]; omega)⟩
      · cases hx)
    refine ⟨_, rfl, _, _, rfl, rfl, md, p, _, _, _, rfl, rfl, SqL.of upd_same, hz, ?_⟩
    refine ⟨_, rfl, _, rfl, (by show 2 ≤ sizeLine; decide), fun t ht => ?_⟩
    have ea : Tp _ a x := ((e1.but b2 d1).same (Same.new hp)).same (Same.new (o := .tup [.int i, .int 1]) ht)
    refine ⟨a, t, x, (i : Rat), rfl, ea.tq (zx.mono (by decide)), int_div i (zi.mono (by decide)) (by decide), fun r H3 nr s3 e3 => ?_⟩
    exact q r H3 _ (zx.add (Rz.int zi (by decide)) (by decide)) (((((b1.trans b2).upd hp).upd ht)).trans (But.same s3)) (((d2.new hp).new ht).same s3 (by omega)) e3
end
theorem Fo.but {l : Addr} {H H1 : Hp} {r : Addr} {n : Nat} {m y o k : Rat} (h : Fo H r m y o k) (b : But l H H1) (d : Dr H l n) : Fo H1 r m y o k := by
  obtain ⟨a, b', c, d', e, h1, h2, h3, h4⟩ := h
  exact ⟨a, b', c, d', b.tup d e, h1.but b d, h2.but b d, h3.but b d, h4.but b d⟩
/-- a month and a year of the law's -/
structure MY (m y : Rat) : Prop where
  fit : Fit m y
  zm : Rz 60 m
  zy : Rz 60 y
def qm1 : Rat := ⟨27759, 940, by decide, by decide⟩
def qy1 : Rat := ⟨1461, 4, by decide, by decide⟩
def qm2 : Rat := ⟨765433, 25920, by decide, by decide⟩
def qy2 : Rat := ⟨35975351, 98496, by decide, by decide⟩
def qm3 : Rat := ⟨59, 2, by decide, by decide⟩
def qy3 : Rat := ⟨365, 1, by decide, by decide⟩
def qm4 : Rat := ⟨30, 1, by decide, by decide⟩
def qy4 : Rat := ⟨366, 1, by decide, by decide⟩
theorem my1 : MY qm1 qy1 := ⟨⟨by decide +kernel, by decide +kernel, by decide +kernel⟩, ⟨szi _, szi _⟩, ⟨szi _, szi _⟩⟩
theorem my2 : MY qm2 qy2 := ⟨⟨by decide +kernel, by decide +kernel, by decide +kernel⟩, ⟨szi _, szi _⟩, ⟨szi _, szi _⟩⟩
theorem my3 : MY qm3 qy3 := ⟨⟨by decide +kernel, by decide +kernel, by decide +kernel⟩, ⟨szi _, szi _⟩, ⟨szi _, szi _⟩⟩
theorem my4 : MY qm4 qy4 := ⟨⟨by decide +kernel, by decide +kernel, by decide +kernel⟩, ⟨szi _, szi _⟩, ⟨szi _, szi _⟩⟩
section
variable {P : Program} {w : World} {K : PySem.W.Frag} {mg : Str → Option Value} {base : Heap}
theorem ok_lfour (D : Df K mg "_law_four" s_l_four []) (f_l_next : Ca P w K mg base CX0 1 "_law_next" s_l_next [] ["_law_draws_here"] spNext) (f_l_part : Ca P w K mg base CX0 2 "_law_part" s_l_part [] ["_law_draws_here"] spPart) (f_l_plus : Ca P w K mg base CX0 2 "_law_plus" s_l_plus [] ["_law_one", "_law_two"] (spT2 fun a b => a + b)) (f_l_by : Ca P w K mg base CX0 2 "_law_by" s_l_by [] ["_law_one", "_law_two"] (spT2 fun a b => a * b)) (f_l_moment : Ca P w K mg base CX0 3 "_law_moment" s_l_moment [] ["_law_draws_here"] spMom) : Ca P w K mg base CX0 4 "_law_four" s_l_four [] ["_law_draws_here"] spFour := by
  refine ca0 (k := 3) D c_l_four (fun vs H Q E h => ?_) fun f cdv A outer s H vs Q E hr h => ?_
  · obtain ⟨l, n, rfl, _⟩ := h
    rfl
  · obtain ⟨l, n, rfl, d, hn, q⟩ := h
    refine ⟨_, (pss_cons (ps_set (i := 1) c_l_four.nd rfl (.inl rfl) (pe_ca f_l_next b_l_next hr (by decide) pass0 rfl (pa_cons (pv 0) pa_nil)))
      (pss_cons (ps_if (pt_cmpR op_eq (pe_op op_mod (pv 1) pe_int) pe_int (nomark _)) (pss_cons (ps_set (i := 2) c_l_four.nd rfl (.inl rfl) (pe_lst (pa_cons (pe_tup (pa_cons (pe_tup (pa_cons pe_int (pa_cons pe_int pa_nil))) (pa_cons (pe_tup (pa_cons pe_int (pa_cons pe_int pa_nil))) pa_nil))) (pa_cons (pe_tup (pa_cons (pe_tup (pa_cons pe_int (pa_cons pe_int pa_nil))) (pa_cons (pe_tup (pa_cons pe_int (pa_cons pe_int pa_nil))) pa_nil))) pa_nil))))
      (pss_one (ps_asg (pe_ix ix_list (pe_op op_cat (pv 2) (pe_lst (pa_cons (pe_tup (pa_cons (pe_tup (pa_cons pe_int (pa_cons pe_int pa_nil))) (pa_cons (pe_tup (pa_cons pe_int (pa_cons pe_int pa_nil))) pa_nil))) (pa_cons (pe_tup (pa_cons (pe_tup (pa_cons pe_int (pa_cons pe_int pa_nil))) (pa_cons (pe_tup (pa_cons pe_int (pa_cons pe_int pa_nil))) pa_nil))) pa_nil)))) (pe_op op_mod (pe_op op_fdiv (pv 1) pe_int) pe_int) (fun _ _ => rfl)) (pg_tup rfl (pgs_cons (pg_name (i := 3) c_l_four.nd rfl (.inl rfl)) (pgs_cons (pg_name (i := 4) c_l_four.nd rfl (.inl rfl)) pgs_nil)))))) (pss_cons (ps_set (i := 5) c_l_four.nd rfl (.inl rfl) (pe_ix ix_list (pe_lst (pa_cons (pe_op op_add pe_int (pe_op op_mod (pe_op op_fdiv (pv 1) pe_int) pe_int)) (pa_cons (pe_op op_add pe_int (pe_op op_mod (pe_op op_fdiv (pv 1) pe_int) pe_int)) (pa_cons (pe_op op_add pe_int (pe_op op_mod (pe_op op_fdiv (pv 1) pe_int) pe_int)) (pa_cons pe_int (pa_cons pe_int pa_nil)))))) (pe_op op_mod (pe_op op_fdiv (pv 1) pe_int) pe_int) (fun _ _ => rfl)))
      (pss_cons (ps_set (i := 6) c_l_four.nd rfl (.inl rfl) (pe_ca f_l_part b_l_part hr (by decide) pass0 rfl (pa_cons (pv 0) pa_nil)))
      (pss_cons (ps_set (i := 7) c_l_four.nd rfl (.inl rfl) (pe_ca f_l_part b_l_part hr (by decide) pass0 rfl (pa_cons (pv 0) pa_nil)))
      (pss_cons (ps_set (i := 3) c_l_four.nd rfl (.inl rfl) (pe_ca f_l_by b_l_by hr (by decide) pass0 rfl (pa_cons (pe_ca f_l_plus b_l_plus hr (by decide) pass0 rfl (pa_cons (pe_tup (pa_cons (pe_op op_add (pe_op op_mul pe_int (pv 5)) pe_int) (pa_cons pe_int pa_nil))) (pa_cons (pe_ca f_l_by b_l_by hr (by decide) pass0 rfl (pa_cons (pv 6) (pa_cons (pe_tup (pa_cons (pe_op op_sub (pv 5) pe_int) (pa_cons pe_int pa_nil))) pa_nil))) pa_nil))) (pa_cons (pe_tup (pa_cons pe_int (pa_cons pe_int pa_nil))) pa_nil))))
      (pss_one (ps_set (i := 4) c_l_four.nd rfl (.inl rfl) (pe_ca f_l_plus b_l_plus hr (by decide) pass0 rfl (pa_cons (pe_tup (pa_cons (pe_op op_mul pe_int (pv 5)) (pa_cons pe_int pa_nil))) (pa_cons (pe_ca f_l_by b_l_by hr (by decide) pass0 rfl (pa_cons (pe_ca f_l_by b_l_by hr (by decide) pass0 rfl (pa_cons (pv 7) (pa_cons (pv 6) pa_nil))) (pa_cons (pe_tup (pa_cons (pe_op op_sub (pv 5) pe_int) (pa_cons pe_int pa_nil))) pa_nil))) pa_nil))))))))))
      (pss_one (ps_ret (pe_tup (pa_cons (pv 3) (pa_cons (pv 4) (pa_cons (pe_ca f_l_moment b_l_moment hr (by decide) pass0 rfl (pa_cons (pv 0) pa_nil)) (pa_cons (pe_ca f_l_moment b_l_moment hr (by decide) pass0 rfl (pa_cons (pv 0) pa_nil)) pa_nil))))))))), ?_⟩
    have fin : ∀ (x1 x2 x5 x6 x7 : Option V) (a b : Addr) (m y : Rat) (H1 : Hp), MY m y → But l H H1 → Dr H1 l (n + 5) → Tp H1 a m → Tp H1 b y →
        tRet (tTup (tCons (tVar 3) (tCons (tVar 4) (tCons (tCall spMom [] E0 (tCons (tVar 0) tNil)) (tCons (tCall spMom [] E0 (tCons (tVar 0) tNil)) tNil))))) { nx := fun _ H' => Q .non H', rt := Q } [some (.ref l), x1, x2, some (.ref a), some (.ref b), x5, x6, x7] H1 := by
      intro x1 x2 x5 x6 x7 a b m y H1 my b1 d1 ea eb
      refine ⟨_, rfl, _, rfl, _, rfl, l, n + 5, rfl, d1, by omega, fun c H2 o zo b2 d2 ec => ?_⟩
      refine ⟨_, rfl, l, n + 8, rfl, d2, by omega, fun e H3 k zk b3 d3 ee => ?_⟩
      refine ⟨(by show 4 ≤ sizeLine; decide), fun r hr' => ?_⟩
      have bb : But l H1 H3 := b2.trans b3
      refine q r _ m y o k ⟨my.fit, my.zm.mono (by decide), my.zy.mono (by decide), zo.mono (by decide), zk.mono (by decide)⟩ ((b1.trans bb).upd hr') ((d3.new hr').mono (by omega)) ?_
      exact ⟨a, b, c, e, upd_same, (ea.but bb d1).same (Same.new hr'), (eb.but bb d1).same (Same.new hr'), (ec.but b3 d2).same (Same.new hr'), ee.same (Same.new hr')⟩
    refine ⟨_, rfl, l, n, rfl, d, by omega, fun v H1 v0 v1 b1 d1 => ?_⟩
    refine ⟨_, rfl, _, _, rfl, rfl, md, rfl, _, rfl, ?_⟩
    refine ite2 (fun _ => ?_) (fun _ => ?_)
    · refine ⟨(by show 2 ≤ sizeLine; decide), fun a1 n1 => ⟨(by show 2 ≤ sizeLine; decide), fun c1 n2 => ⟨(by show 2 ≤ sizeLine; decide), fun r1 n3 => ⟨(by show 2 ≤ sizeLine; decide), fun a2 n4 => ⟨(by show 2 ≤ sizeLine; decide), fun c2 n5 => ⟨(by show 2 ≤ sizeLine; decide), fun r2 n6 => ⟨(by show 2 ≤ sizeLine; decide), fun l1 n7 => ?_⟩⟩⟩⟩⟩⟩⟩
      refine ⟨_, rfl, (by show 2 ≤ sizeLine; decide), fun a3 n8 => ⟨(by show 2 ≤ sizeLine; decide), fun c3 n9 => ⟨(by show 2 ≤ sizeLine; decide), fun r3 n10 => ⟨(by show 2 ≤ sizeLine; decide), fun a4 n11 => ⟨(by show 2 ≤ sizeLine; decide), fun c4 n12 => ⟨(by show 2 ≤ sizeLine; decide), fun r4 n13 => ⟨(by show 2 ≤ sizeLine; decide), fun l2 n14 => ?_⟩⟩⟩⟩⟩⟩⟩
      have s2 := Same.new (o := .tup [.int 1461, .int 4]) n2
      have s3 := Same.new (o := .tup [.ref a1, .ref c1]) n3
      have s4 := Same.new (o := .tup [.int 765433, .int 25920]) n4
      have s5 := Same.new (o := .tup [.int 35975351, .int 98496]) n5
      have s6 := Same.new (o := .tup [.ref a2, .ref c2]) n6
      have s7 := Same.new (o := .lst [.ref r1, .ref r2]) n7
      have s8 := Same.new (o := .tup [.int 59, .int 2]) n8
      have s9 := Same.new (o := .tup [.int 365, .int 1]) n9
      have s10 := Same.new (o := .tup [.ref a3, .ref c3]) n10
      have s11 := Same.new (o := .tup [.int 30, .int 1]) n11
      have s12 := Same.new (o := .tup [.int 366, .int 1]) n12
      have s13 := Same.new (o := .tup [.ref a4, .ref c4]) n13
      have s14 := Same.new (o := .lst [.ref r3, .ref r4]) n14
      have t13 := s14
      have t12 := s13.trans t13
      have t11 := s12.trans t12
      have t10 := s11.trans t11
      have t9 := s10.trans t10
      have t8 := s9.trans t9
      have t7 := s8.trans t8
      have t6 := s7.trans t7
      have t5 := s6.trans t6
      have t4 := s5.trans t5
      have t3 := s4.trans t4
      have t2 := s3.trans t3
      have t1 := s2.trans t2
      have t0 := (Same.new (o := .tup [.int 27759, .int 940]) n1).trans t1
      refine ⟨l1, l2, _, _, rfl, rfl, t7 _ _ upd_same, upd_same, (by show 4 ≤ sizeLine; decide), fun l3 n15 => ?_⟩
      have sz := Same.new (o := .lst ([.ref r1, .ref r2] ++ [.ref r3, .ref r4])) n15
      have h1 := Int.emod_nonneg (v / 8) (show (4 : Int) ≠ 0 by decide)
      have h2 := Int.emod_lt_of_pos (v / 8) (show (0 : Int) < 4 by decide)
      obtain ⟨x, hx, r, a, c, m, y, rfl, er, ea, ec, my⟩ := pick (P := fun x => ∃ (r a c : Addr) (m y : Rat), x = V.ref r ∧ (L2.upd _ l3 (.lst ([.ref r1, .ref r2] ++ [.ref r3, .ref r4]))) r = some (.tup [.ref a, .ref c]) ∧ Tp (L2.upd _ l3 (.lst ([.ref r1, .ref r2] ++ [.ref r3, .ref r4]))) a m ∧ Tp (L2.upd _ l3 (.lst ([.ref r1, .ref r2] ++ [.ref r3, .ref r4]))) c y ∧ MY m y) (xs := [.ref r1, .ref r2, .ref r3, .ref r4]) h1 h2 (by
        intro x hx
        rcases List.mem_cons.mp hx with rfl | hx
        · exact ⟨r1, a1, c1, qm1, qy1, rfl, sz _ _ (t3 _ _ upd_same), sz _ _ (t1 _ _ upd_same), sz _ _ (t2 _ _ upd_same), my1⟩
        rcases List.mem_cons.mp hx with rfl | hx
        · exact ⟨r2, a2, c2, qm2, qy2, rfl, sz _ _ (t6 _ _ upd_same), sz _ _ (t4 _ _ upd_same), sz _ _ (t5 _ _ upd_same), my2⟩
        rcases List.mem_cons.mp hx with rfl | hx
        · exact ⟨r3, a3, c3, qm3, qy3, rfl, sz _ _ (t10 _ _ upd_same), sz _ _ (t8 _ _ upd_same), sz _ _ (t9 _ _ upd_same), my3⟩
        rcases List.mem_cons.mp hx with rfl | hx
        · exact ⟨r4, a4, c4, qm4, qy4, rfl, sz _ _ (t13 _ _ upd_same), sz _ _ (t11 _ _ upd_same), sz _ _ (t12 _ _ upd_same), my4⟩
        · cases hx)
      refine ⟨_, rfl, _, _, rfl, rfl, ⟨by decide, by decide⟩, _, _, rfl, rfl, md, l3, _, _, _, rfl, rfl, SqL.of upd_same, hx, ?_⟩
      refine ⟨r, _, rfl, SqT.of er, rfl, _, _, rfl, _, _, rfl, rfl, ?_⟩
      exact fin _ _ _ _ _ a c m y _ my (b1.trans (But.same (t0.trans sz))) (d1.same (t0.trans sz) (by omega)) ea ec
    · refine ⟨_, rfl, _, _, rfl, rfl, ⟨by decide, by decide⟩, _, _, rfl, rfl, md, _, _, rfl, rfl, _, rfl, _, _, rfl, rfl, ⟨by decide, by decide⟩, _, _, rfl, rfl, md, _, _, rfl, rfl, _, rfl, _, _, rfl, rfl, ⟨by decide, by decide⟩, _, _, rfl, rfl, md, _, _, rfl, rfl, (by show 5 ≤ sizeLine; decide), fun p hp => ?_⟩
      have h1 := Int.emod_nonneg (v / 400) (show (5 : Int) ≠ 0 by decide)
      have h2 := Int.emod_lt_of_pos (v / 400) (show (0 : Int) < 5 by decide)
      obtain ⟨z, hz, i, rfl, i0, i1⟩ := pick (P := fun x => ∃ i : Int, x = V.int i ∧ 1 ≤ i ∧ i ≤ 32) (xs := [.int (1 + v / 8 % 4), .int (2 + v / 8 % 30), .int (28 + v / 8 % 5), .int 30, .int 30]) h1 h2 (by
        intro x hx
        rcases List.mem_cons.mp hx with rfl | hx
        · exact ⟨_, rfl, by omega, by omega⟩
        rcases List.mem_cons.mp hx with rfl | hx
        · exact ⟨_, rfl, by omega, by omega⟩
        rcases List.mem_cons.mp hx with rfl | hx
        · exact ⟨_, rfl, by omega, by omega⟩
        rcases List.mem_cons.mp hx with rfl | hx
        · exact ⟨_, rfl, by omega, by omega⟩
        rcases List.mem_cons.mp hx with rfl | hx
        · exact ⟨_, rfl, by omega, by omega⟩
        · cases hx)
      refine ⟨_, rfl, _, _, rfl, rfl, ⟨by decide, by decide⟩, _, _, rfl, rfl, md, p, _, _, _, rfl, rfl, SqL.of upd_same, hz, ?_⟩
      refine ⟨_, rfl, l, n + 1, rfl, d1.new hp, by omega, fun a2 H2 sq s0 s1 zs b2 d2 e2 => ?_⟩
      refine ⟨_, rfl, l, n + 3, rfl, d2, by omega, fun a3 H3 rq r0 r1 zr b3 d3 e3 => ?_⟩
      have b13 : But l H H3 := ((b1.upd hp).trans b2).trans b3
      have e2' : Tp H3 a2 sq := e2.but b3 d2
      have p6 : (2 : Int) ^ 6 = 64 := by decide
      have p10 : (2 : Int) ^ 10 = 1024 := by decide
      have z1 : Rz 6 ((i - 1 : Int) : Rat) := Rz.int (n := 6) (Sz.of (by omega) (by omega)) (by decide)
      have z12 : Rz 10 ((12 * i : Int) : Rat) := Rz.int (n := 10) (Sz.of (by omega) (by omega)) (by decide)
      have z121 : Rz 10 ((12 * i + 1 : Int) : Rat) := Rz.int (n := 10) (Sz.of (by omega) (by omega)) (by decide)
      have zsw : Rz 25 (sq * ((i - 1 : Int) : Rat)) := zs.mul z1 (by decide)
      have zp : Rz 36 (((12 * i + 1 : Int) : Rat) + sq * ((i - 1 : Int) : Rat)) := z121.add zsw (by decide)
      have z13 : Rz 4 (Rat.divInt 1 13) := Rz.divInt (szi 1) (szi 13) (by decide)
      have zm : Rz 60 ((((12 * i + 1 : Int) : Rat) + sq * ((i - 1 : Int) : Rat)) * Rat.divInt 1 13) := zp.mul z13 (by decide)
      have zrs : Rz 37 (rq * sq) := zr.mul zs (by decide)
      have zrw : Rz 44 (rq * sq * ((i - 1 : Int) : Rat)) := zrs.mul z1 (by decide)
      have zy : Rz 60 (((12 * i : Int) : Rat) + rq * sq * ((i - 1 : Int) : Rat)) := z12.add zrw (by decide)
      refine ⟨_, rfl, _, _, rfl, rfl, .inl ⟨by decide, by decide⟩, _, _, rfl, rfl, (by show 2 ≤ sizeLine; decide), fun t1 n1 => ?_⟩
      refine ⟨_, rfl, _, rfl, _, _, rfl, rfl, (by show 2 ≤ sizeLine; decide), fun t2 n2 => ?_⟩
      have u1 := Same.new (o := .tup [.int (12 * i + 1), .int 1]) n1
      have u2 := Same.new (o := .tup [.int (i - 1), .int 1]) n2
      refine ⟨a2, t2, sq, _, rfl, ((e2'.same u1).same u2).tq (zs.mono (by decide)), int_div (i - 1) (z1.1.mono (by decide)) (by decide), fun t3 H4 n3 u3 e4 => ?_⟩
      refine ⟨t1, t3, _, _, rfl, ((int_div (12 * i + 1) (z121.1.mono (by decide)) (by decide)).same u2).same u3, e4.tq (zsw.mono (by decide)), fun t4 H5 n4 u4 e5 => ?_⟩
      refine ⟨(by show 2 ≤ sizeLine; decide), fun t5 n5 => ?_⟩
      have u5 := Same.new (o := .tup [.int 1, .int 13]) n5
      refine ⟨t4, t5, _, Rat.divInt 1 13, rfl, (e5.same u5).tq (zp.mono (by decide)), ⟨1, 13, upd_same, by decide, rfl, szi 1 (Nat.one_lt_two_pow (by decide)), (szi (n := 4) 13).mono (by decide)⟩, fun t6 H6 n6 u6 e6 => ?_⟩
      have v16 : Same H3 H6 := u1.trans (u2.trans (u3.trans (u4.trans (u5.trans u6))))
      refine ⟨_, rfl, _, _, rfl, rfl, .inl ⟨by decide, by decide⟩, (by show 2 ≤ sizeLine; decide), fun t7 n7 => ?_⟩
      have u7 := Same.new (o := .tup [.int (12 * i), .int 1]) n7
      refine ⟨_, rfl, _, rfl, a3, a2, rq, sq, rfl, ((e3.same v16).same u7).tq (zr.mono (by decide)), ((e2'.same v16).same u7).tq (zs.mono (by decide)), fun t8 H8 n8 u8 e8 => ?_⟩
      refine ⟨_, rfl, _, _, rfl, rfl, (by show 2 ≤ sizeLine; decide), fun t9 n9 => ?_⟩
      have u9 := Same.new (o := .tup [.int (i - 1), .int 1]) n9
      refine ⟨t8, t9, _, _, rfl, (e8.same u9).tq (zrs.mono (by decide)), int_div (i - 1) (z1.1.mono (by decide)) (by decide), fun t10 H10 n10 u10 e10 => ?_⟩
      refine ⟨t7, t10, _, _, rfl, ((int_div (12 * i) (z12.1.mono (by decide)) (by decide)).same (u8.trans u9)).same u10, e10.tq (zrw.mono (by decide)), fun t11 H11 n11 u11 e11 => ?_⟩
      have v6 : Same H6 H11 := u7.trans (u8.trans (u9.trans (u10.trans u11)))
      exact fin _ _ _ _ _ t6 t11 _ _ H11 ⟨fit_drawn i0 s0 s1 r0 r1, zm, zy⟩ (b13.trans (But.same (v16.trans v6))) (d3.same (v16.trans v6) (by omega)) (e6.same v6) e11
end
/-- the law's four and the calendar made of them, of these fractions -/
structure Pr (C Cc : Addr) (H : Hp) (r p : Addr) (m y o k : Rat) : Prop where
  fo : Fo H r m y o k
  cl : Cl C Cc H p m y o k
  g : Good m y o k
theorem Pr.same {C Cc : Addr} {H H1 : Hp} {r p : Addr} {m y o k : Rat} (h : Pr C Cc H r p m y o k) (s : Same H H1) : Pr C Cc H1 r p m y o k := ⟨h.fo.same s, h.cl.same s, h.g⟩
theorem Pr.but {C Cc l : Addr} {H H1 : Hp} {r p : Addr} {n : Nat} {m y o k : Rat} (h : Pr C Cc H r p m y o k) (b : But l H H1) (d : Dr H l n) : Pr C Cc H1 r p m y o k := by
  refine ⟨h.fo.but b d, ?_, h.g⟩
  obtain ⟨dx, a, b', c, d', e, ⟨x1, h1⟩, ⟨x2, h2⟩, ⟨x3, h3⟩, ⟨x4, h4⟩⟩ := h.cl
  exact ⟨dx, a, b', c, d', b.ins d e, ⟨x1, b.ins d h1⟩, ⟨x2, b.ins d h2⟩, ⟨x3, b.ins d h3⟩, ⟨x4, b.ins d h4⟩⟩
/-! ### the law -/
def spLaw (K : PySem.W.Frag) : Sp := fun vs H Q _ => ∃ (a : Addr) (ns : List Int), vs = [.ref a] ∧ SqL K H a (ns.map V.int) ∧ ns.length ≤ 63 ∧ ∀ H', Q (.bl true) H'
theorem cut_ints {ns : List Int} {lo hi : Option Int} {j : Nat} {x : V} (h : (cutV (ns.map V.int) lo hi ++ [V.int 0])[j]? = some x) : ∃ c : Int, x = .int c := by
  have hx : x ∈ cutV (ns.map V.int) lo hi ++ [V.int 0] := List.mem_of_getElem? h
  rcases List.mem_append.mp hx with hx | hx
  · have h1 := List.mem_of_mem_take hx
    have h2 := List.mem_of_mem_drop h1
    obtain ⟨c, _, e⟩ := List.mem_map.mp h2
    exact ⟨c, e.symm⟩
  · exact ⟨0, List.mem_singleton.mp hx⟩
theorem cut_len {ns : List Int} {lo hi : Option Int} (h : ns.length ≤ 63) : (cutV (ns.map V.int) lo hi).length + ([V.int 0] : List V).length ≤ sizeLine := by
  have h1 := cutV_length (ns.map V.int) lo hi
  rw [List.length_map] at h1
  have h2 : ([V.int 0] : List V).length = 1 := rfl
  exact Nat.le_trans (show _ ≤ 64 by omega) (by decide)
theorem ne_of_none' {H : Hp} {l p : Addr} {n : Nat} (d : Dr H l n) (e : H p = none) : p ≠ l := by
  obtain ⟨_, _, _, h, _⟩ := d
  exact (ne_of_none h e).symm
/-! ### the law's calendars and years of feasts -/
def gC4 {α : Type} : List α → List α → List α → List α := fun us _ ws => us ++ (match ws with | [a, b, c, d] => [d, c, b, a] | _ => [])
theorem gC4_rel {vs ds zs : List V} {us its ws : List Value} (h : Vals vs us) (_ : Vals ds its) (k : Vals zs ws) : Vals (gC4 vs ds zs) (gC4 us its ws) := by
  refine h.append ?_
  cases k with
  | nil => exact .nil
  | cons a k => cases k with
    | nil => exact .nil
    | cons b k => cases k with
      | nil => exact .nil
      | cons c k => cases k with
        | nil => exact .nil
        | cons d k => cases k with
          | nil => exact .cons d (.cons c (.cons b (.cons a .nil)))
          | cons e k => exact .nil
theorem kb_Calendar_0_mark_moon_year_month : Kd "Calendar.__init__" s_Calendar_init 2 1 ["mark", "moon", "year", "month"] ["self", "month", "year", "moon", "mark"] gC4 :=
  ⟨fun _ _ _ _ _ _ _ us its ws hu hi hw => match us, hu, its, hi, ws, hw with | [_], _, [_, _], _, [_, _, _, _], _ => ⟨_, rfl, rfl⟩, gC4_rel⟩
theorem bd_Calendar4 : Bd1 "__init__" "Calendar.__init__" s_Calendar_init ["self", "month", "year", "moon", "mark"] 5 2 2 := fun _ _ _ _ _ _ _ us its hu hi => match us, hu, its, hi with | [_, _, _, _, _], _, [_, _], _ => ⟨_, rfl, rfl⟩
theorem made_ca {C Cc : Addr} {H : Hp} {R : Addr → Hp → Prop} {E : XK} {v u x z : V} {m y o k : Rat} (hv : Rv C H v m) (hu : Rv C H u y) (hx : Mv C H x o) (hz : Mv C H z k) (g : Good m y o k) (h : ∀ p H', H p = none → Same H H' → Cl C Cc H' p m y o k → R p H') :
    ∀ a dx, H a = none → H dx = none → dx ≠ a → spCaI C Cc [.ref a, v, u, x, z] (L2.upd (L2.upd H dx (.own a)) a (.ins Cc dx [])) (fun r H2 => r = .non ∧ R a H2) E := by
  intro a dx ha hd ne
  have s0 : Same H (L2.upd (L2.upd H dx (.own a)) a (.ins Cc dx [])) := Same.upd (Same.new hd) (by rw [upd_ne ne.symm]; exact ha)
  refine ⟨a, dx, v, u, x, z, m, y, o, k, rfl, upd_same, hv.same s0, hu.same s0, hx.same s0, hz.same s0, g, fun H' b hc => ⟨rfl, ?_⟩⟩
  exact h a H' ha (fun c w e => b c w (ne_of_none e ha) (s0 c w e)) hc
theorem Sh.mv {C p : Addr} {H : Hp} {q : Rat} (h : Sh C H p q) : Mv C H (.ref p) q := .inr h.rv
theorem four_at {H : Hp} {r a b c d : Addr} {m y o k : Rat} (g : Good m y o k) (h1 : Tp H a m) (h2 : Tp H b y) (h3 : Tp H c o) (h4 : Tp H d k) {i : Nat} {x : V} (hi : [V.ref a, V.ref b, V.ref c, V.ref d][i]? = some x) : ∃ (t : Addr) (q : Rat), x = V.ref t ∧ [m, y, o, k][i]? = some q ∧ Tp H t q ∧ Rz 70 q := by
  match i, hi with
  | 0, hi => cases hi; exact ⟨a, m, rfl, rfl, h1, g.zm⟩
  | 1, hi => cases hi; exact ⟨b, y, rfl, rfl, h2, g.zy⟩
  | 2, hi => cases hi; exact ⟨c, o, rfl, rfl, h3, g.zo⟩
  | 3, hi => cases hi; exact ⟨d, k, rfl, rfl, h4, g.zk⟩
  | j + 4, hi => simp at hi
def spCal (C Cc : Addr) : Sp := fun vs H Q _ => ∃ (l r : Addr) (n : Nat) (m y o k : Rat), vs = [.ref l, .ref r] ∧ Dr H l n ∧ n ≤ 1000 ∧ Fo H r m y o k ∧ Good m y o k ∧ ∀ p H', But l H H' → Dr H' l (n + 1) → Pr C Cc H' r p m y o k → Q (.ref p) H'
section
variable {P : Program} {w : World} {K : PySem.W.Frag} {mg : Str → Option Value} {base : Heap} {C Cc : Addr}
abbrev TE_l_cal1 (K : PySem.W.Frag) (C : Addr) : TE := tMake C (spShI C) (([.int 1] : List V).drop 1) E0 (tCons (tOp (rIxT K) (tVar 3) (tC (.int 0))) (tCons (tOp (rIxT K) (tVar 3) (tC (.int 1))) tNil))
theorem ok_lcal (D : Df K mg "_law_cal" s_l_cal []) (f_l_next : Ca P w K mg base CX0 1 "_law_next" s_l_next [] ["_law_draws_here"] spNext) (f_Share : Ci P w K mg base CX0 2 "Share" C "Share.__init__" s_Share_init [.int 1] ["self", "top", "bottom"] (spShI C)) (f_Calendar : Ci P w K mg base CX0 8 "Calendar" Cc "Calendar.__init__" s_Calendar_init [.non, .non] ["self", "month", "year", "moon", "mark"] (spCaI C Cc)) : Ca P w K mg base CX0 10 "_law_cal" s_l_cal [] ["_law_draws_here", "_law_four_here"] (spCal C Cc) := by
  refine ca0 (k := 9) D c_l_cal (fun vs H Q E h => ?_) fun f cdv A outer s H vs Q E hr h => ?_
  · obtain ⟨l, r, n, m, y, o, k, rfl, _⟩ := h
    rfl
  · obtain ⟨l, r, n, m, y, o, k, rfl, d0, hn, fo, g, q⟩ := h
    obtain ⟨a, b, c, d, e, h1, h2, h3, h4⟩ := id fo
    refine ⟨_, (pss_cons (ps_setLc (i := 2) (own := [("_law_one", 3)]) (g := gName 3) (tt := tYes) (te := TE_l_cal1 K C) rfl c_l_cal.nd rfl rfl (sw_true rfl rfl rfl (by decide +kernel)) (pi_tup (pv 1)) (blkOk_by (N := ["_law_draws_here", "_law_four_here", "_law_parts", "_law_one"]) (sc := defScope s_l_cal) (by decide +kernel)) (fun _ _ _ _ _ => (pg_name (i := 3) c_l_cal.nd rfl (.inl rfl))) (fun _ _ _ _ _ => by exact pts_nil) (fun _ _ _ _ _ => by exact (pe_ci f_Share bd_Share2 (by decide) rfl hr (by decide) pass0 rfl (pa_cons (pe_ix ix_tup (pv 3) pe_int (fun _ _ => rfl)) (pa_cons (pe_ix ix_tup (pv 3) pe_int (fun _ _ => rfl)) pa_nil)))))
      (pss_cons (ps_if (pt_cmpR op_eq (pe_op op_mod (pe_ca f_l_next b_l_next hr (by decide) pass0 rfl (pa_cons (pv 0) pa_nil)) pe_int) pe_int (nomark _)) (pss_one (ps_ret (pe_ci f_Calendar bd_Calendar4 (by decide) rfl hr (by decide) pass0 rfl (pa_cons (pe_ix ix_list (pv 2) pe_int (fun _ _ => rfl)) (pa_cons (pe_ix ix_list (pv 2) pe_int (fun _ _ => rfl)) (pa_cons (pe_ix ix_list (pv 2) pe_int (fun _ _ => rfl)) (pa_cons (pe_ix ix_list (pv 2) pe_int (fun _ _ => rfl)) pa_nil))))))) pss_nil)
      (pss_one (ps_ret (pe_ciK0 f_Calendar kb_Calendar_0_mark_moon_year_month (by decide) hr (by decide) pass0 rfl (pk_cons (pe_ix ix_list (pv 2) pe_int (fun _ _ => rfl)) (pk_cons (pe_ix ix_list (pv 2) pe_int (fun _ _ => rfl)) (pk_cons (pe_ix ix_list (pv 2) pe_int (fun _ _ => rfl)) (pk_cons (pe_ix ix_list (pv 2) pe_int (fun _ _ => rfl)) pk_nil))))))))), ?_⟩
    refine ⟨_, rfl, r, rfl, ⟨_, SqT.of e⟩, fun D0 hD => ?_⟩
    refine lc_all (walk_tup (K := K) (a := r) (xs := [.ref a, .ref b, .ref c, .ref d])) yAt_same hD (by show 4 < sizeLine; decide) (fun j v H' => ∃ (p : Addr) (x : Rat), v = .ref p ∧ [m, y, o, k][j]? = some x ∧ Sh C H' p x)
      (fun j v H1 H2 s ⟨p, x, e1, e2, e3⟩ => ⟨p, x, e1, e2, e3.same s⟩) (fun j v H1 acc acc' hacc ⟨p, x, e1, e2, dx, e3⟩ => ⟨p, x, e1, e2, dx, ?_⟩) (fun H' s' => SqT.of (s' _ _ e)) ?_ ?_
    · rw [upd_ne (ne_of e3 hacc (by intro z; cases z))]
      exact e3
    · rintro i x H1 H2 R hi s1 ⟨rfl, hx⟩ k1
      obtain ⟨t, xq, rfl, hq, ht, zq⟩ := four_at (r := r) g (h1.same s1) (h2.same s1) (h3.same s1) (h4.same s1) hx
      refine ⟨rfl, ?_⟩
      refine ⟨_, rfl, t, _, _, _, rfl, rfl, SqT.of ht, rfl, _, rfl, t, _, _, _, rfl, rfl, SqT.of ht, rfl, ?_⟩
      refine made_sh (Int.ne_of_gt (den_pos xq)) (zq.1.mono (by decide)) (zq.2.mono (by decide)) fun p H3 np s3 h3' => ?_
      rw [Rat.num_divInt_den] at h3'
      exact k1 _ H3 s3 ⟨p, xq, rfl, hq, h3'⟩
    · intro us H' hl hD' hs hp
      match us, hl with
      | [u1, u2, u3, u4], _ =>
        obtain ⟨p1, x1, rfl, e1, g1⟩ := hp 0 _ rfl
        obtain ⟨p2, x2, rfl, e2, g2⟩ := hp 1 _ rfl
        obtain ⟨p3, x3, rfl, e3, g3⟩ := hp 2 _ rfl
        obtain ⟨p4, x4, rfl, e4, g4⟩ := hp 3 _ rfl
        cases e1
        cases e2
        cases e3
        cases e4
        have d1 := d0.same hs (Nat.le_refl _)
        have neD : D0 ≠ l := ne_of_none' d0 hD
        refine ⟨_, rfl, l, n, rfl, d1, by omega, fun v H2 v0 v1 b2 d2 => ?_⟩
        have eD := b2 _ _ neD hD'
        have sh : ∀ {p : Addr} {x : Rat}, Sh C H' p x → Sh C H2 p x := fun ⟨dx, e⟩ => ⟨dx, b2.ins d1 e⟩
        have fo2 := (fo.same hs).but b2 d1
        have fin : ∀ a dx, H2 a = none → H2 dx = none → dx ≠ a → spCaI C Cc [.ref a, .ref p1, .ref p2, .ref p3, .ref p4] (L2.upd (L2.upd H2 dx (.own a)) a (.ins Cc dx [])) (fun r H2 => r = .non ∧ Q (.ref a) H2) E0 :=
          made_ca (sh g1).rv (sh g2).rv (sh g3).mv (sh g4).mv g fun p H3 np s3 hc => q p H3 (((But.same hs).trans b2).trans (But.same s3)) (d2.same s3 (Nat.le_refl _)) ⟨fo2.same s3, hc, g⟩
        refine ⟨_, _, rfl, rfl, md, rfl, _, rfl, ite2 (fun _ => ?_) (fun _ => ?_)⟩
        · exact ⟨_, rfl, D0, _, _, _, rfl, rfl, SqL.of eD, rfl, _, rfl, D0, _, _, _, rfl, rfl, SqL.of eD, rfl, _, rfl, D0, _, _, _, rfl, rfl, SqL.of eD, rfl, _, rfl, D0, _, _, _, rfl, rfl, SqL.of eD, rfl, fin⟩
        · exact ⟨_, rfl, D0, _, _, _, rfl, rfl, SqL.of eD, rfl, _, rfl, D0, _, _, _, rfl, rfl, SqL.of eD, rfl, _, rfl, D0, _, _, _, rfl, rfl, SqL.of eD, rfl, _, rfl, D0, _, _, _, rfl, rfl, SqL.of eD, rfl, rfl, rfl, fin⟩
end
/-! ### a book of feasts -/
theorem hu1 {k : Nat} {A : Around} (r : Room k A) : A.units + 1 < cLine := by
  have := r.un
  omega
theorem hu20 {k : Nat} {A : Around} (r : Room k A) : A.units + 20 < cLine := by
  have := r.un
  omega
structure FbT (K : PySem.W.Frag) (Cb : Addr) : Prop where
  cl : Cls K Cb
  n1 : NoAttr K Cb "calendar"
  n2 : NoAttr K Cb "feasts"
def fbs (p d : Addr) : List (Str × V) := putF "feasts" (.ref d) (putF "calendar" (.ref p) [])
theorem fbn : ¬ (("calendar" : Str) = "feasts") := by decide +kernel
theorem fb_cal (p d : Addr) : (fbs p d).lookup ("calendar" : Str) = some (.ref p) := by
  unfold fbs
  rw [lookup_putF, if_neg fbn, lookup_putF, if_pos rfl]
theorem fb_feasts (p d : Addr) : (fbs p d).lookup ("feasts" : Str) = some (.ref d) := by
  unfold fbs
  rw [lookup_putF, if_pos rfl]
theorem fb_no (p d : Addr) {x : Str} (h1 : ¬ (x = ("feasts" : Str))) (h2 : ¬ (x = ("calendar" : Str))) : (fbs p d).lookup x = none := by
  unfold fbs
  rw [lookup_putF, if_neg h1, lookup_putF, if_neg h2]
  rfl
/-- a feast: its name, number, day and when -/
structure Fst where
  nm : Str
  nr : Int
  dy : Int
  wh : Str
def fkv (fs : List (Addr × Fst)) : List (L2.Key × V) := fs.map fun q => (.inr q.2.nm, .ref q.1)
/-- at b a book of the calendar at p with such feasts -/
structure Bk (C Cc Cb Cf : Addr) (H : Hp) (b p : Addr) (m y o k : Rat) (fs : List (Addr × Fst)) : Prop where
  ob : ∃ dx d, H b = some (.ins Cb dx (fbs p d)) ∧ H d = some (.dK (fkv fs))
  c : Cl C Cc H p m y o k
  g : Good m y o k
  fe : ∀ q ∈ fs, Fe Cf H q.1 q.2.nm q.2.nr q.2.dy q.2.wh
  sz : ∀ q ∈ fs, Sz 900 q.2.nr
  z : fs.length ≤ 50
theorem Bk.same {C Cc Cb Cf b p : Addr} {H H1 : Hp} {m y o k : Rat} {fs : List (Addr × Fst)} (h : Bk C Cc Cb Cf H b p m y o k fs) (s : Same H H1) : Bk C Cc Cb Cf H1 b p m y o k fs :=
  ⟨let ⟨dx, d, e1, e2⟩ := h.ob
   ⟨dx, d, s _ _ e1, s _ _ e2⟩, h.c.same s, h.g, fun q hq => (h.fe q hq).same s, h.sz, h.z⟩
/-- the days of a feast in a year -/
def fdL (m y o k : Rat) (a : Int) (f : Fst) : List Int := (fmL m y o k a f.nr f.wh).map (fdd m o f.dy)
theorem fdL_len (m y o k : Rat) (a : Int) (f : Fst) : (fdL m y o k a f).length ≤ 2 := by
  unfold fdL
  rw [List.length_map]
  exact fm_len _ _ _ _ _ _ _
def rawL (m y o k : Rat) (a : Int) (fs : List Fst) : List (Int × Str) := fs.flatMap fun f => (fdL m y o k a f).map fun d => (d, f.nm)
def inY (m y o k : Rat) (a : Int) (fs : List Fst) : List (Int × Str) := (rawL m y o k a fs).mergeSort leD
theorem rawL_snoc (m y o k : Rat) (a : Int) (fs : List Fst) (f : Fst) : rawL m y o k a (fs ++ [f]) = rawL m y o k a fs ++ (fdL m y o k a f).map fun d => (d, f.nm) := by
  unfold rawL
  simp
theorem rawL_len (m y o k : Rat) (a : Int) : ∀ fs : List Fst, (rawL m y o k a fs).length ≤ 2 * fs.length
  | [] => by simp [rawL]
  | f :: fs => by
    have h := rawL_len m y o k a fs
    have h2 := fdL_len m y o k a f
    unfold rawL at *
    simp only [List.flatMap_cons, List.length_append, List.length_map, List.length_cons]
    omega
theorem valV_fkv : ∀ {fs : List (Addr × Fst)} {x : Str}, (∀ q ∈ fs, q.2.nm ≠ x) → valV (fkv fs) (.inr x) = none
  | [], _, _ => rfl
  | q :: fs, x, h => by
    show valV ((Sum.inr q.2.nm, V.ref q.1) :: fkv fs) (.inr x) = none
    rw [valV_neg (fun e => h q List.mem_cons_self (Sum.inr.inj e))]
    exact valV_fkv fun q' hq => h q' (List.mem_cons_of_mem _ hq)
theorem putK_fkv {fs : List (Addr × Fst)} {f : Addr} {z : Fst} (h : ∀ q ∈ fs, q.2.nm ≠ z.nm) : putK (fkv fs) (.inr z.nm) (.ref f) = fkv (fs ++ [(f, z)]) := by
  unfold putK
  rw [valV_any, valV_fkv h, if_neg (by simp)]
  unfold fkv
  rw [List.map_append]
  rfl
def spInY (C Cc Cb Cf : Addr) : Sp := fun vs H Q _ => ∃ (b p : Addr) (a : Int) (m y o k : Rat) (fs : List (Addr × Fst)), vs = [.ref b, .int a] ∧ Bk C Cc Cb Cf H b p m y o k fs ∧ Sz 800 a ∧ ∀ r us H', H r = none → Same H H' → H' r = some (.lst us) → Duos H' us (inY m y o k a (fs.map (·.2))) → Q (.ref r) H'
abbrev TE_Feasts_in_year1 (_K : PySem.W.Frag) (_C _Cc _Cf : Addr) : TE := tTup (tCons (tVar 4) (tCons (tVar 2) tNil))
abbrev WI_Feasts_in_year1 (K : PySem.W.Frag) (C Cc Cf : Addr) : TI := iList K (tCall (spFds C Cc Cf) [] E0 (tCons (tFld K (tVar 0) "calendar") (tCons (tVar 3) (tCons (tVar 1) tNil))))
def spFbI (Cb : Addr) : Sp := fun vs H Q _ => ∃ (b dx p : Addr), vs = [.ref b, .ref p] ∧ H b = some (.ins Cb dx []) ∧ ∀ d H', But b H H' → H d = none → H' b = some (.ins Cb dx (fbs p d)) → H' d = some (.dK []) → Q .non H'
def spFbA (C Cc Cb Cf : Addr) : Sp := fun vs H Q _ => ∃ (b p f : Addr) (m y o k : Rat) (fs : List (Addr × Fst)) (z : Fst), vs = [.ref b, .ref f] ∧ Bk C Cc Cb Cf H b p m y o k fs ∧ Fe Cf H f z.nm z.nr z.dy z.wh ∧ Sz 900 z.nr ∧ fs.length < 50 ∧ (∀ q ∈ fs, q.2.nm ≠ z.nm) ∧ ∀ H', (∀ c o, (∀ kvs, o ≠ .dK kvs) → H c = some o → H' c = some o) → Bk C Cc Cb Cf H' b p m y o k (fs ++ [(f, z)]) → Q .non H'
section
variable {P : Program} {w : World} {K : PySem.W.Frag} {mg : Str → Option Value} {base : Heap} {C Cc Cb Cf : Addr}
theorem ok_fbI (D : Di K mg "Feasts" Cb "Feasts.__init__" s_Feasts_init []) (T : FbT K Cb) : Ci P w K mg base CX0 1 "Feasts" Cb "Feasts.__init__" s_Feasts_init [] ["self", "calendar"] (spFbI Cb) := by
  refine ci0 (k := 0) D c_Feasts_init (fun vs H Q E h => ?_) fun f cdv A outer s H vs Q E hr h => ?_
  · obtain ⟨b, dx, p, rfl, _⟩ := h
    rfl
  · obtain ⟨b, dx, p, rfl, hb, q⟩ := h
    refine ⟨_, (pss_cons (ps_fld (pv 0) (pv 1) rfl)
      (pss_one (ps_fld (pv 0) pe_dnewK rfl))), ?_⟩
    refine ⟨_, rfl, _, rfl, b, Cb, dx, _, rfl, hb, T.cl, T.n1, (by show 0 < 1000; decide), ?_⟩
    intro d nd
    have ndb : b ≠ d := fun z => by rw [← z, upd_same] at nd; cases nd
    have nd0 : H d = none := by
      rw [upd_ne ndb.symm] at nd
      exact nd
    refine ⟨_, rfl, b, Cb, dx, _, rfl, (by rw [upd_ne ndb]; exact upd_same), T.cl, T.n2, (by show 1 < 1000; decide), ?_⟩
    refine q d _ (fun c o hc e => ?_) nd0 upd_same ?_
    · rw [upd_ne hc, upd_ne (ne_of_none e nd0), upd_ne hc]
      exact e
    · rw [upd_ne ndb.symm]
      exact upd_same
theorem ok_fbA (D : Dm K Cb "add" "Feasts.add" s_Feasts_add) (T : FbT K Cb) (Tf : FeT K Cf) : Cm P w K mg base CX0 1 Cb "add" "Feasts.add" s_Feasts_add ["self", "feast"] (spFbA C Cc Cb Cf) := by
  refine cm0 (k := 0) D c_Feasts_add (fun vs H Q E h => ?_) fun f cdv A outer s H vs Q E hr h => ?_
  · obtain ⟨b, p, f, m, y, o, k, fs, z, rfl, _⟩ := h
    rfl
  · obtain ⟨b, p, f, m, y, o, k, fs, z, rfl, hb, ⟨dxf, ef⟩, zs, hz, hn, q⟩ := h
    obtain ⟨dx, d, e1, e2⟩ := hb.ob
    refine ⟨_, (pss_cons (ps_if (pt_cmp (pc_din (hu1 hr) (pe_fld (pv 1) rfl) (pe_fld (pv 0) rfl))) (pss_one ps_never) pss_nil)
      (pss_one (ps_dput (hu1 hr) (pe_fld (pv 0) rfl) (pe_fld (pv 1) rfl) (pv 1) rfl))), ?_⟩
    refine ⟨_, rfl, f, Cf, dxf, _, _, rfl, ef, Tf.cl, Tf.n1, ff_name _ _ _ _, ?_⟩
    refine ⟨_, rfl, b, Cb, dx, _, _, rfl, e1, T.cl, T.n2, fb_feasts _ _, d, _, rfl, DGet.k (k := .inr z.nm) e2, ?_⟩
    rw [valV_fkv hn]
    refine ⟨_, rfl, no' rfl ?_⟩
    refine ⟨_, rfl, _, rfl, b, Cb, dx, _, _, rfl, e1, T.cl, T.n2, fb_feasts _ _, _, rfl, f, Cf, dxf, _, _, rfl, ef, Tf.cl, Tf.n1, ff_name _ _ _ _, d, _, rfl, DPut.k (k := .inr z.nm) e2 ?_, ?_⟩
    · unfold fkv
      rw [List.length_map]
      exact Nat.lt_of_lt_of_le hz (by decide)
    rw [putK_fkv hn]
    have kp : ∀ c o, (∀ kvs, o ≠ .dK kvs) → H c = some o → (L2.upd H d (.dK (fkv (fs ++ [(f, z)])))) c = some o := fun c o n e => by
      have hcd : c ≠ d := fun zz => by
        subst zz
        rw [e2] at e
        exact n _ (Option.some.inj e).symm
      exact (upd_ne hcd).trans e
    have kpi : ∀ {c c' dx : Addr} {fs' : List (Str × V)}, H c = some (.ins c' dx fs') → (L2.upd H d (.dK (fkv (fs ++ [(f, z)])))) c = some (.ins c' dx fs') := fun e => kp _ _ (fun _ zz => nomatch zz) e
    refine q _ kp ⟨⟨dx, d, kpi e1, upd_same⟩, ?_, hb.g, fun q' hq => ?_, fun q' hq => ?_, by rw [List.length_append]; exact hz⟩
    · obtain ⟨dx', a, b', c, d', e, ⟨x1, h1⟩, ⟨x2, h2⟩, ⟨x3, h3⟩, ⟨x4, h4⟩⟩ := hb.c
      exact ⟨dx', a, b', c, d', kpi e, ⟨x1, kpi h1⟩, ⟨x2, kpi h2⟩, ⟨x3, kpi h3⟩, ⟨x4, kpi h4⟩⟩
    · rcases List.mem_append.mp hq with hq | hq
      · obtain ⟨dxq, eq⟩ := hb.fe q' hq
        exact ⟨dxq, kpi eq⟩
      · rw [List.mem_singleton.mp hq]
        exact ⟨dxf, kpi ef⟩
    · rcases List.mem_append.mp hq with hq | hq
      · exact hb.sz q' hq
      · rw [List.mem_singleton.mp hq]
        exact zs
theorem ok_inY (D : Dm K Cb "in_year" "Feasts.in_year" s_Feasts_in_year) (T : FbT K Cb) (g_sorted : mg "sorted" = none) (f_feast_days : Ca P w K mg base CX0 13 "feast_days" s_feast_days [] ["calendar", "feast", "year"] (spFds C Cc Cf)) : Cm P w K mg base CX0 14 Cb "in_year" "Feasts.in_year" s_Feasts_in_year ["self", "year"] (spInY C Cc Cb Cf) := by
  refine cm0 (k := 13) D c_Feasts_in_year (fun vs H Q E h => ?_) fun f cdv A outer s H vs Q E hr h => ?_
  · obtain ⟨b, p, a, m, y, o, k, fs, rfl, _⟩ := h
    rfl
  · obtain ⟨b, p, a, m, y, o, k, fs, rfl, hb, za, q⟩ := h
    obtain ⟨dx, d, e1, e2⟩ := hb.ob
    refine ⟨_, (pss_one (ps_ret (pe_callB (cr_srtD (hu20 hr)) rfl g_sorted (by decide +kernel) (pa_cons (pe_lock (pe_lc2 (own := [("name", 2), ("feast", 3), ("day", 4)]) (vs1 := [4]) (te := TE_Feasts_in_year1 K C Cc Cf) (wi1 := WI_Feasts_in_year1 K C Cc Cf) (g := gTup K 2 (gCons (gName 2) (gCons (gName 3) gNil))) (g1 := gName 4) (tt := tYes) (tt1 := tYes) rfl c_Feasts_in_year.nd (pi_items (pe_fld (pv 0) rfl)) (blkOk_by (N := ["self", "year", "name", "feast", "day"]) (sc := defScope s_Feasts_in_year) (by decide +kernel)) (by decide) (fun _ _ _ _ _ => (pg_tup rfl (pgs_cons (pg_name (i := 2) c_Feasts_in_year.nd rfl (.inl rfl)) (pgs_cons (pg_name (i := 3) c_Feasts_in_year.nd rfl (.inl rfl)) pgs_nil)))) (fun _ _ _ _ _ => by exact pts_nil) (fun _ _ _ _ _ => by exact (pi_list (pe_ca f_feast_days b_feast_days hr (by decide) pass0 rfl (pa_cons (pe_fld (pv 0) rfl) (pa_cons (pv 3) (pa_cons (pv 1) pa_nil)))))) (fun _ _ _ _ _ => (pg_name (i := 4) c_Feasts_in_year.nd rfl (.inl rfl))) (fun _ _ _ _ _ => by exact pts_nil) (fun _ _ _ _ _ => by exact (pe_tup (pa_cons (pv 4) (pa_cons (pv 2) pa_nil)))))) pa_nil)))), ?_⟩
    refine ⟨d, _, e2, trivial, fun od => ?_⟩
    have ef : (L2.upd H d (.frz od (.dK (fkv fs)))) d = some (.frz od (.dK (fkv fs))) := upd_same
    have kpi : ∀ {c c' dx : Addr} {fs' : List (Str × V)}, H c = some (.ins c' dx fs') → (L2.upd H d (.frz od (.dK (fkv fs)))) c = some (.ins c' dx fs') := fun e => (upd_ne (ne_of e e2 (by intro zz; cases zz))).trans e
    have hcF : Cl C Cc (L2.upd H d (.frz od (.dK (fkv fs)))) p m y o k := by
      obtain ⟨dx', a, b', c, d', e, ⟨x1, h1⟩, ⟨x2, h2⟩, ⟨x3, h3⟩, ⟨x4, h4⟩⟩ := hb.c
      exact ⟨dx', a, b', c, d', kpi e, ⟨x1, kpi h1⟩, ⟨x2, kpi h2⟩, ⟨x3, kpi h3⟩, ⟨x4, kpi h4⟩⟩
    have hfF : ∀ q ∈ fs, Fe Cf (L2.upd H d (.frz od (.dK (fkv fs)))) q.1 q.2.nm q.2.nr q.2.dy q.2.wh := fun q' hq => by
      obtain ⟨dxq, eq⟩ := hb.fe q' hq
      exact ⟨dxq, kpi eq⟩
    have e1F := kpi e1
    have bk : ∀ c o, c ≠ d → (L2.upd H d (.frz od (.dK (fkv fs)))) c = some o → H c = some o := fun c o n e => by rwa [upd_ne n] at e
    have fw : ∀ c o, c ≠ d → H c = some o → (L2.upd H d (.frz od (.dK (fkv fs)))) c = some o := fun c o n e => (upd_ne n).trans e
    have fn : ∀ c, (L2.upd H d (.frz od (.dK (fkv fs)))) c = none → H c = none ∧ c ≠ d := fun c e => by
      by_cases n : c = d
      · rw [n, upd_same] at e
        cases e
      · rw [upd_ne n] at e
        exact ⟨e, n⟩
    generalize hHf : L2.upd H d (.frz od (.dK (fkv fs))) = Hf at *
    refine ⟨_, rfl, b, Cb, dx, _, _, rfl, e1F, T.cl, T.n2, fb_feasts _ _, d, od, _, rfl, ef, fun D0 nD => ?_⟩
    have lkv : (fkv fs).length = fs.length := by
      unfold fkv
      rw [List.length_map]
    refine lc2_it (walk_items (d := d) (o := od) (kvs := fkv fs)) (fun i Hx => ∃ us, Hx D0 = some (.lst us) ∧ Duos Hx us (rawL m y o k a ((fs.take i).map (·.2))) ∧ Same Hf Hx) ⟨[], upd_same, Duos.nil, upd_keep nD (Same.refl Hf)⟩ (fun i Hx _ ⟨_, _, _, s⟩ => s _ _ ef) ?_ ?_
    · rintro i x Ha Hb hi ⟨us, ea, du, sa⟩ ⟨T', u, z, rfl, nT, rfl, hu, hz⟩
      rw [lkv] at hi
      have hq := List.getElem?_eq_getElem hi
      have hk : (fkv fs)[i]? = some (Sum.inr fs[i].2.nm, V.ref fs[i].1) := by
        unfold fkv
        rw [List.getElem?_map, hq]
        rfl
      have hu : (fkv fs)[i]?.map (fun kv => kV kv.1) = some u := hu
      have hz : (fkv fs)[i]?.map Prod.snd = some z := hz
      rw [hk] at hu hz
      obtain rfl : u = V.str fs[i].2.nm := (Option.some.inj hu).symm
      obtain rfl : z = V.ref fs[i].1 := (Option.some.inj hz).symm
      have hmem : fs[i] ∈ fs := List.getElem_mem hi
      have sT := Same.new (o := .tup [V.str fs[i].2.nm, V.ref fs[i].1]) nT
      have eT := upd_same (H := Ha) (a := T') (o := .tup [V.str fs[i].2.nm, V.ref fs[i].1])
      have eb := sT _ _ ea
      have du := du.same fun t xs e => sT _ _ e
      have sb := sa.trans sT
      refine ⟨T', _, rfl, SqT.of eT, rfl, _, _, rfl, _, _, rfl, rfl, ?_⟩
      refine ⟨rfl, ?_⟩
      dsimp only [tYes]
      rw [if_pos rfl]
      generalize L2.upd Ha T' (.tup [V.str fs[i].2.nm, V.ref fs[i].1]) = Hb at *
      refine ⟨_, rfl, b, Cb, dx, _, _, rfl, sb _ _ e1F, T.cl, T.n1, fb_cal _ _, _, rfl, _, rfl, p, fs[i].1, _, _, a, _, _, m, y, o, k, rfl, hcF.same sb, hb.g, (hfF _ hmem).same sb, za.mono (by decide), hb.sz _ hmem, fun r Hc nr sc er => ?_⟩
      have er : Hc r = some (.lst ((fdL m y o k a fs[i].2).map V.int)) := er
      have nrD : r ≠ D0 := fun zz => by
        rw [zz, eb] at nr
        cases nr
      refine ⟨r, rfl, ⟨_, SqL.of er⟩, ?_⟩
      have wl := walk_list (K := K) (a := r) (xs := (fdL m y o k a fs[i].2).map V.int)
      rw [List.length_map] at wl
      refine lc_in (g1 := gName 4) (tt1 := tYes) (te := TE_Feasts_in_year1 K C Cc Cf) (vs1 := [4]) (D := D0) wl (fun j Hx => ∃ us, Hx D0 = some (.lst us) ∧ Duos Hx us (rawL m y o k a ((fs.take i).map (·.2)) ++ ((fdL m y o k a fs[i].2).take j).map fun d => (d, fs[i].2.nm)) ∧ Same Hf Hx ∧ Hx r = some (.lst ((fdL m y o k a fs[i].2).map V.int))) ⟨us, sc _ _ eb, ?_, sb.trans sc, er⟩ (fun j Hx _ ⟨_, _, _, _, e⟩ => SqL.of e) ?_ ?_
      · have h := du.same fun t xs e => sc _ _ e
        simpa using h
      · rintro j x Hx Hy hj ⟨us', ex, dux, sfx, erx⟩ ⟨rfl, hx⟩
        obtain ⟨rfl, hmd⟩ := get_int hx hj
        refine ⟨rfl, ?_⟩
        dsimp only [tYes]
        rw [if_pos rfl]
        refine ⟨_, rfl, _, rfl, (by show 2 ≤ sizeLine; decide), fun t nt => ?_⟩
        have st := Same.new (o := .tup [V.int ((fdL m y o k a fs[i].2).getD j 0), V.str fs[i].2.nm]) nt
        have et := upd_same (H := Hy) (a := t) (o := .tup [V.int ((fdL m y o k a fs[i].2).getD j 0), V.str fs[i].2.nm])
        have ex' := st _ _ ex
        have dux' := dux.same fun t xs e => st _ _ e
        have sfx' := sfx.trans st
        have erx' := st _ _ erx
        generalize L2.upd Hy t (.tup [V.int ((fdL m y o k a fs[i].2).getD j 0), V.str fs[i].2.nm]) = Hz at *
        have kt : ∀ t xs, Hz t = some (.tup xs) → L2.upd Hz D0 (.lst (us' ++ [V.ref t])) t = some (.tup xs) := fun t xs e => (upd_ne (ne_of e ex' (by intro zz; cases zz))).trans e
        have kt2 : ∀ (c : Addr) (xs : List V) (v : V), Hz c = some (.tup xs) → L2.upd Hz D0 (.lst (us' ++ [v])) c = some (.tup xs) := fun c xs v e => (upd_ne (ne_of e ex' (by intro zz; cases zz))).trans e
        refine ⟨us', ex', ?_, us' ++ [.ref t], upd_same, ?_, upd_keep nD sfx', (upd_ne nrD).trans erx'⟩
        · rw [← dux.1]
          have l1 := rawL_len m y o k a ((fs.take i).map (·.2))
          have l2 := fdL_len m y o k a fs[i].2
          have l3 := hb.z
          rw [List.length_map, List.length_take] at l1
          rw [List.length_append, List.length_map, List.length_take]
          exact Nat.lt_of_lt_of_le (show _ < 1000 by omega) (by decide)
        · have hj' := List.getElem?_eq_getElem hj
          rw [List.take_succ, hj']
          have hd := (dux'.snoc (v := .ref t) (x := ((fdL m y o k a fs[i].2).getD j 0, fs[i].2.nm)) ⟨t, rfl, et⟩).same fun c xs e => kt2 c xs (.ref t) e
          have e9 : (fdL m y o k a fs[i].2).getD j 0 = (fdL m y o k a fs[i].2)[j] := by
            rw [List.getD_eq_getElem?_getD, hj']
            rfl
          rw [e9] at hd
          rw [List.map_append, ← List.append_assoc]
          exact hd
      · rintro Hx ⟨us', ex, dux, sfx, erx⟩
        refine ⟨us', ex, ?_, sfx⟩
        rw [List.take_length] at dux
        rw [List.take_succ, hq, List.map_append]
        show Duos Hx us' (rawL m y o k a ((fs.take i).map (·.2) ++ [fs[i].2]))
        rw [rawL_snoc]
        exact dux
    · rintro Hz ⟨us, ez, du, sz⟩
      rw [lkv, List.take_length] at du
      refine ⟨sz _ _ ef, ?_⟩
      have nDd : D0 ≠ d := (fn _ nD).2
      refine ⟨D0, us, _, rfl, SqL.of ((upd_ne nDd).trans ez), du.same fun c xs e => (upd_ne (ne_of e (sz _ _ ef) (by intro zz; cases zz))).trans e, fun us' r du' nr => ?_⟩
      have nrd : r ≠ d := fun zz => by
        rw [zz, upd_same] at nr
        cases nr
      rw [upd_ne nrd] at nr
      have nrH : H r = none := (fn _ (sz.free nr)).1
      have nrD0 : r ≠ D0 := fun zz => by
        rw [zz, ez] at nr
        cases nr
      refine q r us' _ nrH (fun c o' e => ?_) upd_same (du'.same fun c xs e => (upd_ne (ne_of_none e (by rw [upd_ne nrd]; exact nr))).trans e)
      rw [upd_ne (ne_of_none e nrH)]
      by_cases hc : c = d
      · rw [hc, upd_same]
        rw [hc, e2] at e
        exact e
      · rw [upd_ne hc]
        exact sz _ _ (fw c o' hc e)
end
/-! ### feasts on a day, and the next one -/
theorem flt_range {α β : Type} (d : α) (B : α → Bool) (f : α → β) : ∀ xs : List α, ((List.range xs.length).filter fun i => B (xs.getD i d)).map (fun i => f (xs.getD i d)) = (xs.filter B).map f
  | [] => rfl
  | x :: xs => by
    have ih := flt_range d B f xs
    rw [List.length_cons, List.range_succ_eq_map, List.filter_cons, List.filter_map]
    have e0 : ((x :: xs).getD 0 d) = x := rfl
    have e1 : ((fun i => B ((x :: xs).getD i d)) ∘ Nat.succ) = fun i => B (xs.getD i d) := rfl
    rw [e1]
    cases hb : B x with
    | true =>
      rw [e0, if_pos hb, List.map_cons, List.map_map, List.filter_cons, if_pos hb, List.map_cons]
      congr 1
    | false =>
      rw [e0, if_neg (by rw [hb]; simp), List.map_map, List.filter_cons, if_neg (by rw [hb]; simp)]
      exact ih
theorem getD_at {α : Type} {xs : List α} {j : Nat} {x d : α} (h : xs[j]? = some x) : xs.getD j d = x := by
  rw [List.getD_eq_getElem?_getD, h]
  rfl
def d0 : Int × Str := (0, "")
/-- things picked out of rows -/
theorem Duos.filter {H : Hp} {us : List V} {xs : List (Int × Str)} (B : Int × Str → Bool) (h : Duos H us xs) : Duos H (((List.range us.length).filter fun i => B (xs.getD i d0)).map fun i => us.getD i .non) (xs.filter B) := by
  have e1 : xs.filter B = ((List.range us.length).filter fun i => B (xs.getD i d0)).map fun i => xs.getD i d0 := by
    have := flt_range d0 B id xs
    rw [List.map_id] at this
    rw [← h.1, ← this]
    rfl
  rw [e1]
  refine ⟨by simp, fun j v hj => ?_⟩
  rw [List.getElem?_map] at hj ⊢
  cases hi : ((List.range us.length).filter fun i => B (xs.getD i d0))[j]? with
  | none => rw [hi] at hj; cases hj
  | some i =>
    rw [hi] at hj
    have hm := List.mem_of_getElem? hi
    have hl : i < us.length := List.mem_range.mp (List.mem_filter.mp hm).1
    have hu := List.getElem?_eq_getElem hl
    have hv : us.getD i .non = v := Option.some.inj hj
    rw [getD_at hu] at hv
    obtain ⟨x, ex, d⟩ := h.2 i _ hu
    refine ⟨x, ?_, by rw [← hv]; exact d⟩
    show some (xs.getD i d0) = some x
    rw [getD_at ex]
theorem inY_len (m y o k : Rat) (a : Int) (fs : List Fst) : (inY m y o k a fs).length ≤ 2 * fs.length := by
  unfold inY
  rw [List.length_mergeSort]
  exact rawL_len _ _ _ _ _ _
/-- the names of the feasts on a day -/
def onD (m y o k : Rat) (x : Int) (fs : List Fst) : List Str := ((inY m y o k (dtY m y o k x) fs).filter fun r => decide (r.1 = x)).map (·.2)
def spOnD (C Cc Cb Cf : Addr) : Sp := fun vs H Q _ => ∃ (b p : Addr) (x : Int) (m y o k : Rat) (fs : List (Addr × Fst)), vs = [.ref b, .int x] ∧ Bk C Cc Cb Cf H b p m y o k fs ∧ Sz 700 x ∧ ∀ r H', H r = none → Same H H' → H' r = some (.lst ((onD m y o k x (fs.map (·.2))).map V.str)) → Q (.ref r) H'
def spMis (C Cc Cb Cf : Addr) : Sp := fun vs H Q _ => ∃ (b p : Addr) (s : Str) (m y o k : Rat) (fs : List (Addr × Fst)), vs = [.ref b, .str s] ∧ Bk C Cc Cb Cf H b p m y o k fs ∧ (∃ q ∈ fs, q.2.nm = s) ∧ Q .non H
def nmV : Option Str → V
  | none => .non
  | some s => .str s
/-- what stands to choose from -/
def nxL (m y o k : Rat) (x : Int) (nm : Option Str) (fs : List Fst) : List (Int × Str) := (inY m y o k (dtY m y o k x) fs ++ inY m y o k (dtY m y o k x + 1) fs).filter fun r => decide (x ≤ r.1) && (nm.isNone || decide (V.str r.2 = nmV nm))
def spNxf (C Cc Cb Cf : Addr) : Sp := fun vs H Q _ => ∃ (b p : Addr) (x : Int) (nm : Option Str) (m y o k : Rat) (fs : List (Addr × Fst)), vs = [.ref b, .int x, nmV nm] ∧ Bk C Cc Cb Cf H b p m y o k fs ∧ Sz 600 x ∧ (∀ s, nm = some s → ∃ q ∈ fs, q.2.nm = s) ∧ ∃ z zs, nxL m y o k x nm (fs.map (·.2)) = z :: zs ∧ ∀ t H', Same H H' → Duo H' (.ref t) (PySem.W.minOf z zs) → Q (.ref t) H'
section
variable {P : Program} {w : World} {K : PySem.W.Frag} {mg : Str → Option Value} {base : Heap} {C Cc Cb Cf : Addr}
abbrev TE_Feasts_on_day1 : TE := tVar 3
abbrev TT_Feasts_on_day1 : TT := tTest (tOp rEq (tVar 2) (tVar 1))
theorem ok_onD (D : Dm K Cb "on_day" "Feasts.on_day" s_Feasts_on_day) (T : FbT K Cb) (f_year_with : Ca P w K mg base CX0 10 "year_with" s_year_with [] ["calendar", "day"] (spYw C Cc)) (f_in_year : Cm P w K mg base CX0 14 Cb "in_year" "Feasts.in_year" s_Feasts_in_year ["self", "year"] (spInY C Cc Cb Cf)) : Cm P w K mg base CX0 15 Cb "on_day" "Feasts.on_day" s_Feasts_on_day ["self", "day"] (spOnD C Cc Cb Cf) := by
  refine cm0 (k := 14) D c_Feasts_on_day (fun vs H Q E h => ?_) fun f cdv A outer s H vs Q E hr h => ?_
  · obtain ⟨b, p, x, m, y, o, k, fs, rfl, _⟩ := h
    rfl
  · obtain ⟨b, p, x, m, y, o, k, fs, rfl, hb, zx, q⟩ := h
    obtain ⟨dx, d, e1, e2⟩ := hb.ob
    refine ⟨_, (pss_one (ps_ret (pe_lc (own := [("there", 2), ("name", 3)]) (g := gTup K 2 (gCons (gName 2) (gCons (gName 3) gNil))) (tt := TT_Feasts_on_day1 ) (te := TE_Feasts_on_day1 ) rfl c_Feasts_on_day.nd (pi_list (pe_cm f_in_year b_Feasts_in_year hr (by decide) pass0 (pv 0) (pa_cons (pe_ca f_year_with b_year_with hr (by decide) pass0 rfl (pa_cons (pe_fld (pv 0) rfl) (pa_cons (pv 1) pa_nil))) pa_nil))) (blkOk_by (N := ["self", "day", "there", "name"]) (sc := defScope s_Feasts_on_day) (by decide +kernel)) (fun _ _ _ _ _ => (pg_tup rfl (pgs_cons (pg_name (i := 2) c_Feasts_on_day.nd rfl (.inl rfl)) (pgs_cons (pg_name (i := 3) c_Feasts_on_day.nd rfl (.inl rfl)) pgs_nil)))) (fun _ _ _ _ _ => by exact pts_one (pt_cmpR op_eq (pv 2) (pv 1) (nomark _))) (fun _ _ _ _ _ => by exact (pv 3))))), ?_⟩
    have zx' : Sz 1200 x := zx.mono (by decide)
    have zy : Sz 800 (dtY m y o k x) := (hb.g.zdY (n := 700) zx (by decide)).mono (by decide)
    refine ⟨_, rfl, b, dx, _, rfl, e1, fb_no _ _ (by decide +kernel) (by decide +kernel), _, rfl, b, Cb, dx, _, _, rfl, e1, T.cl, T.n1, fb_cal _ _, _, rfl, p, x, m, y, o, k, rfl, hb.c, hb.g, zx', fun H1 s1 => ?_⟩
    refine ⟨b, p, _, m, y, o, k, fs, rfl, hb.same s1, zy, fun r us H2 nr s2 er du => ?_⟩
    refine ⟨r, rfl, ⟨_, SqL.of er⟩, fun D nD => ?_⟩
    have ln : us.length ≤ 100 := by
      rw [← du.1]
      have h1 := inY_len m y o k (dtY m y o k x) (fs.map (·.2))
      have h2 := hb.z
      rw [List.length_map] at h1
      omega
    refine lc_fltV (walk_list (K := K) (a := r) (xs := us)) yAt_same nD (Nat.lt_of_le_of_lt ln (by decide)) (fun i => .str (((inY m y o k (dtY m y o k x) (fs.map (·.2))).getD i d0).2)) (fun i => decide (((inY m y o k (dtY m y o k x) (fs.map (·.2))).getD i d0).1 = x)) (fun H' s' => SqL.of (s' _ _ er)) ?_ ?_
    · rintro i v Ha Hb R N hi sa ⟨rfl, hv⟩ kT kF
      obtain ⟨z, ez, t, rfl, et⟩ := du.2 i v hv
      rw [getD_at ez] at kT kF
      refine ⟨t, _, rfl, SqT.of (sa _ _ et), rfl, _, _, rfl, _, _, rfl, rfl, ?_⟩
      refine ⟨rfl, ?_⟩
      refine ⟨_, rfl, _, rfl, rfl, _, rfl, ?_⟩
      by_cases hB : z.1 = x
      · rw [decide_eq_true (congrArg V.int hB)]
        exact iteT ⟨_, rfl, kT (decide_eq_true hB) _ (Same.refl _)⟩
      · rw [decide_eq_false (fun e => hB (V.int.inj e))]
        exact iteF (kF (decide_eq_false hB) _ (Same.refl _))
    · intro H3 e3 s3
      rw [← du.1, flt_range d0 (fun z => decide (z.1 = x)) (fun z => V.str z.2)] at e3
      refine q D H3 ((s1.trans s2).free nD) (s1.trans (s2.trans s3)) ?_
      rw [e3]
      unfold onD
      rw [List.map_map]
      rfl
theorem ok_mis (D : Dm K Cb "refuse_missing" "Feasts.refuse_missing" s_Feasts_refuse_missing) (T : FbT K Cb) : Cm P w K mg base CX0 1 Cb "refuse_missing" "Feasts.refuse_missing" s_Feasts_refuse_missing ["self", "name"] (spMis C Cc Cb Cf) := by
  refine cm0 (k := 0) D c_Feasts_refuse_missing (fun vs H Q E h => ?_) fun f cdv A outer s H vs Q E hr h => ?_
  · obtain ⟨b, p, x, m, y, o, k, fs, rfl, _⟩ := h
    rfl
  · obtain ⟨b, p, x, m, y, o, k, fs, rfl, hb, ⟨q0, hq0, hn⟩, q⟩ := h
    obtain ⟨dx, d, e1, e2⟩ := hb.ob
    refine ⟨_, (pss_one (ps_if (pt_cmp (pc_dnotin (hu1 hr) (pv 1) (pe_fld (pv 0) rfl))) (pss_one ps_never) pss_nil)), ?_⟩
    refine ⟨_, rfl, _, rfl, b, Cb, dx, _, _, rfl, e1, T.cl, T.n2, fb_feasts _ _, d, _, rfl, DGet.k (k := .inr x) e2, ?_⟩
    have hs : ((valV (fkv fs) (.inr x)).isSome) = true := by
      rw [← valV_any]
      refine List.any_eq_true.mpr ⟨(.inr q0.2.nm, .ref q0.1), List.mem_map.mpr ⟨q0, hq0, rfl⟩, ?_⟩
      rw [hn]
      exact decide_eq_true rfl
    obtain ⟨v, hv⟩ := Option.isSome_iff_exists.mp hs
    rw [hv]
    exact ⟨_, rfl, no' rfl q⟩
abbrev TE_Feasts_next_feast1 (_K : PySem.W.Frag) : TE := tVar 5
abbrev TT_Feasts_next_feast1 (K : PySem.W.Frag) : TT := tAnd (tTest (tOp (rI0 fun i j => .bl (decide (j ≤ i))) (tOp (rIxT K) (tVar 5) (tC (.int 0))) (tVar 1))) (tOr (tB (tIsN (tVar 2))) (tTest (tOp rEq (tOp (rIxT K) (tVar 5) (tC (.int 1))) (tVar 2))))
theorem ok_nxf (D : DmD K Cb "next_feast" "Feasts.next_feast" s_Feasts_next_feast [.non]) (T : FbT K Cb) (f_year_with : Ca P w K mg base CX0 10 "year_with" s_year_with [] ["calendar", "day"] (spYw C Cc)) (g_min : mg "min" = none) (f_in_year : Cm P w K mg base CX0 14 Cb "in_year" "Feasts.in_year" s_Feasts_in_year ["self", "year"] (spInY C Cc Cb Cf)) (f_refuse_missing : Cm P w K mg base CX0 1 Cb "refuse_missing" "Feasts.refuse_missing" s_Feasts_refuse_missing ["self", "name"] (spMis C Cc Cb Cf)) : CmD P w K mg base CX0 15 Cb "next_feast" "Feasts.next_feast" s_Feasts_next_feast [.non] ["self", "day", "name"] (spNxf C Cc Cb Cf) := by
  refine cmD0 (k := 14) D c_Feasts_next_feast (fun vs H Q E h => ?_) fun f cdv A outer s H vs Q E hr h => ?_
  · obtain ⟨b, p, x, nm, m, y, o, k, fs, rfl, _⟩ := h
    rfl
  · obtain ⟨b, p, x, nm, m, y, o, k, fs, rfl, hb, zx, hnm, z, zs, enx, q⟩ := h
    obtain ⟨dx, d, e1, e2⟩ := hb.ob
    refine ⟨_, (C8.pss_cut (ps_if (pt_cmp (pc_notN (pv 2))) (pss_one (ps_expr (pe_cm f_refuse_missing b_Feasts_refuse_missing hr (by decide) pass0 (pv 0) (pa_cons (pv 2) pa_nil)))) pss_nil)
      (pss_cons (ps_set (i := 3) c_Feasts_next_feast.nd rfl (.inl rfl) (pe_ca f_year_with b_year_with hr (by decide) pass0 rfl (pa_cons (pe_fld (pv 0) rfl) (pa_cons (pv 1) pa_nil))))
      (pss_cons (ps_set (i := 4) c_Feasts_next_feast.nd rfl (.inl rfl) (pe_op op_cat (pe_cm f_in_year b_Feasts_in_year hr (by decide) pass0 (pv 0) (pa_cons (pv 3) pa_nil)) (pe_cm f_in_year b_Feasts_in_year hr (by decide) pass0 (pv 0) (pa_cons (pe_op op_add (pv 3) pe_int) pa_nil))))
      (pss_one (ps_ret (pe_minD hr rfl (pk_cons pe_non pk_nil) rfl g_min (pa_cons (pe_lc (own := [("row", 5)]) (g := gName 5) (tt := TT_Feasts_next_feast1 K) (te := TE_Feasts_next_feast1 K) rfl c_Feasts_next_feast.nd (pi_list (pv 4)) (blkOk_by (N := ["self", "day", "name", "year", "rows", "row"]) (sc := defScope s_Feasts_next_feast) (by decide +kernel)) (fun _ _ _ _ _ => (pg_name (i := 5) c_Feasts_next_feast.nd rfl (.inl rfl))) (fun _ _ _ _ _ => by exact pts_one (PW.pt (pw_and (pt_cmpR op_ge (pe_ix ix_tup (pv 5) pe_int (fun _ _ => rfl)) (pv 1) (nomark _)) (pw_and1 (PW.pt (pw_or (pt_cmp (pc_isN (pv 2))) (pw_or1 (pt_cmpR op_eq (pe_ix ix_tup (pv 5) pe_int (fun _ _ => rfl)) (pv 2) (nomark _))))))))) (fun _ _ _ _ _ => by exact (pv 5))) pa_nil))))))), ?_⟩
    refine ⟨fun σ' H' => σ' = [some (.ref b), some (.int x), some (nmV nm), none, none, none] ∧ H' = H, ?_, ?_⟩
    · refine ⟨_, rfl, ?_⟩
      cases nm with
      | none => exact ⟨_, rfl, no' (by simp [nmV]) ⟨rfl, rfl⟩⟩
      | some s =>
        refine ⟨_, rfl, ?_⟩
        rw [decide_eq_false (show ¬ nmV (some s) = V.non by intro zz; cases zz)]
        refine iteT ?_
        exact ⟨_, rfl, b, dx, _, rfl, e1, fb_no _ _ (by decide +kernel) (by decide +kernel), _, rfl, b, p, s, m, y, o, k, fs, rfl, hb, hnm s rfl, rfl, rfl⟩
    · rintro σ' H' ⟨rfl, rfl⟩
      have zx' : Sz 1200 x := zx.mono (by decide)
      have zy : Sz 700 (dtY m y o k x) := (hb.g.zdY (n := 600) zx (by decide)).mono (by decide)
      refine ⟨_, rfl, b, Cb, dx, _, _, rfl, e1, T.cl, T.n1, fb_cal _ _, _, rfl, p, x, m, y, o, k, rfl, hb.c, hb.g, zx', fun H1 s1 => ?_⟩
      have hb1 := hb.same s1
      refine ⟨_, rfl, b, dx, _, rfl, s1 _ _ e1, fb_no _ _ (by decide +kernel) (by decide +kernel), _, rfl, b, p, _, m, y, o, k, fs, rfl, hb1, zy.mono (by decide), fun r1 us1 H2 nr1 s2 er1 du1 => ?_⟩
      have hb2 := hb1.same s2
      refine ⟨_, rfl, b, dx, _, rfl, s2 _ _ (s1 _ _ e1), fb_no _ _ (by decide +kernel) (by decide +kernel), _, rfl, _, _, rfl, rfl, b, p, _, m, y, o, k, fs, rfl, hb2, zadd zy 1, fun r2 us2 H3 nr2 s3 er2 du2 => ?_⟩
      have ln : ∀ (a : Int) {us : List V}, (inY m y o k a (fs.map (·.2))).length = us.length → us.length ≤ 100 := fun a us e => by
        have h1 := inY_len m y o k a (fs.map (·.2))
        have h2 := hb.z
        rw [List.length_map] at h1
        omega
      have l1 := ln _ du1.1
      have l2 := ln _ du2.1
      refine ⟨r1, r2, us1, us2, rfl, rfl, s3 _ _ er1, er2, Nat.le_trans (show _ ≤ 200 by omega) (by decide), fun r3 nr3 => ?_⟩
      have s4 := Same.new (o := .lst (us1 ++ us2)) nr3
      have er3 := upd_same (H := H3) (a := r3) (o := .lst (us1 ++ us2))
      have du3 := ((du1.same fun t xs e => s3 _ _ e).append du2).same fun t xs e => s4 _ _ e
      have s04 := s1.trans (s2.trans (s3.trans s4))
      generalize L2.upd H3 r3 (.lst (us1 ++ us2)) = H4 at *
      refine ⟨_, rfl, r3, rfl, ⟨_, SqL.of er3⟩, fun D nD => ?_⟩
      have l3 : (us1 ++ us2).length ≤ 200 := by
        rw [List.length_append]
        omega
      generalize us1 ++ us2 = us at *
      refine lc_fltV (walk_list (K := K) (a := r3) (xs := us)) yAt_same nD (Nat.lt_of_le_of_lt l3 (by decide)) (fun i => us.getD i .non) (fun i => (fun r : Int × Str => decide (x ≤ r.1) && (nm.isNone || decide (V.str r.2 = nmV nm))) ((inY m y o k (dtY m y o k x) (fs.map (·.2)) ++ inY m y o k (dtY m y o k x + 1) (fs.map (·.2))).getD i d0)) (fun H' s' => SqL.of (s' _ _ er3)) ?_ ?_
      · rintro i v Ha Hb R N hi sa ⟨rfl, hv⟩ kT kF
        obtain ⟨zz, ez, t, rfl, et⟩ := du3.2 i v hv
        rw [getD_at ez] at kT kF
        rw [getD_at hv] at kT
        refine ⟨rfl, ?_⟩
        refine ⟨_, rfl, t, _, _, _, rfl, rfl, SqT.of (sa _ _ et), rfl, _, rfl, _, _, rfl, rfl, _, rfl, ?_⟩
        by_cases c1 : x ≤ zz.1
        · rw [decide_eq_true c1]
          refine iteT ?_
          dsimp only at kT kF
          rw [decide_eq_true c1, Bool.true_and] at kT kF
          cases nm with
          | none => exact ⟨_, rfl, _, rfl, iteT (iteT ⟨_, rfl, kT rfl _ (Same.refl _)⟩)⟩
          | some s =>
            refine ⟨_, rfl, _, rfl, ?_⟩
            rw [decide_eq_false (show ¬ nmV (some s) = V.non by intro zz; cases zz)]
            refine iteF ?_
            refine ⟨_, rfl, t, _, _, _, rfl, rfl, SqT.of (sa _ _ et), rfl, _, rfl, rfl, _, rfl, ?_⟩
            by_cases c2 : V.str zz.2 = nmV (some s)
            · rw [decide_eq_true c2]
              refine iteT ⟨_, rfl, kT ?_ _ (Same.refl _)⟩
              rw [decide_eq_true c2]
              rfl
            · rw [decide_eq_false c2]
              refine iteF (kF ?_ _ (Same.refl _))
              rw [decide_eq_false c2]
              rfl
        · rw [decide_eq_false c1]
          refine iteF (iteF (kF ?_ _ (Same.refl _)))
          dsimp only
          rw [decide_eq_false c1]
          rfl
      · intro H5 e5 s5
        have du5 := (du3.filter (fun r : Int × Str => decide (x ≤ r.1) && (nm.isNone || decide (V.str r.2 = nmV nm)))).same fun t xs e => s5 _ _ e
        refine ⟨D, _, _, rfl, SqL.of e5, du5, fun e => ?_, fun y' ys t e ht => ?_⟩
        · have e : z :: zs = [] := enx.symm.trans e
          cases e
        · have e : z :: zs = y' :: ys := enx.symm.trans e
          cases e
          exact q t H5 (s04.trans s5) ⟨t, rfl, ht⟩
end
/-! ### days of a year, and the feasts in it -/
/-- a feast as the law draws it -/
structure FsG (f : Fst) : Prop where
  n1 : 1 ≤ f.nr
  n2 : f.nr ≤ 12
  d1 : 1 ≤ f.dy
  ok : PyData.strOk f.nm = true
section
variable {m y o k : Rat} {a : Int}
theorem st_mono {m y o : Rat} (f : Fit m y) {i j : Int} (h : i ≤ j) : stF m o i ≤ stF m o j := by
  refine (st_le f.pos).mpr ?_
  rw [ma_st' f.one]
  exact h
theorem fd_st (m y o k : Rat) (a : Int) : fdF m y o k a = stF m o (mwF m y o k (12 * a)) := rfl
theorem fd_lt (f : Fit m y) (a : Int) : fdF m y o k a < fdF m y o k (a + 1) := by
  rw [fd_st, fd_st]
  have h := mw_lt (o := o) (k := k) f (show 12 * a < 12 * (a + 1) by omega)
  have h1 := st_step (o := o) f.one (mwF m y o k (12 * a))
  have h2 := st_mono (o := o) f (show mwF m y o k (12 * a) + 1 ≤ mwF m y o k (12 * (a + 1)) by omega)
  omega
/-- the year of a day -/
theorem yr_of (f : Fit m y) {x : Int} (h1 : fdF m y o k a ≤ x) (h2 : x < fdF m y o k (a + 1)) : dtY m y o k x = a := by
  rw [fd_st] at h1 h2
  have a1 := (st_le f.pos).mp h1
  have a2 : maF m o x < mwF m y o k (12 * (a + 1)) := by
    have : ¬ mwF m y o k (12 * (a + 1)) ≤ maF m o x := fun z => by
      have := (st_le (o := o) f.pos).mpr z
      omega
    omega
  obtain ⟨p, e, h⟩ := year_names (o := o) (k := k) f a
  have hl := h.last
  have he := h.e1
  have hi : (maF m o x - mwF m y o k (12 * a)).toNat < 12 + e := by
    rw [show 12 * (a + 1) = 12 * a + 12 by omega] at a2
    omega
  have nm := h.name hi
  rw [show mwF m y o k (12 * a) + ((maF m o x - mwF m y o k (12 * a)).toNat : Int) = maF m o x by omega] at nm
  unfold nmL at nm
  injection nm with n1 _
  injection n1 with n1
theorem has_mw (f : Fit m y) (j : Int) : hasM m y o k (mwF m y o k j) := by
  have h := mw_in (o := o) (k := k) f j
  unfold hasM
  rw [one_mark f h.1 h.2]
  exact h.2
theorem pm_mw (m y o k : Rat) (a b : Int) : pmF m y o k a b = mwF m y o k (12 * a + b - 1) := rfl
theorem mw_le (f : Fit m y) {i j : Int} (h : i ≤ j) : mwF m y o k i ≤ mwF m y o k j := by
  by_cases e : i = j
  · rw [e]
    exact Int.le_refl _
  · have := mw_lt (o := o) (k := k) f (show i < j by omega)
    omega
theorem pm_odd (f : Fit m y) {b : Int} (hb : b ≤ 12) (h : ¬ hasM m y o k (pmF m y o k a b + 1)) : pmF m y o k a b + 1 < mwF m y o k (12 * a + 12) := by
  rw [pm_mw] at h ⊢
  have h1 := mw_step (o := o) (k := k) f (12 * a + b - 1)
  rw [show 12 * a + b - 1 + 1 = 12 * a + b by omega] at h1
  have h2 := mw_le (o := o) (k := k) f (show 12 * a + b ≤ 12 * a + 12 by omega)
  by_cases e : mwF m y o k (12 * a + b - 1) + 1 = mwF m y o k (12 * a + b)
  · exact absurd (by rw [e]; exact has_mw f _) h
  · omega
theorem fm_in (f : Fit m y) {b : Int} (h1 : 1 ≤ b) (h2 : b ≤ 12) (w : Str) : ∀ i ∈ fmL m y o k a b w, mwF m y o k (12 * a) ≤ i ∧ i < mwF m y o k (12 * a + 12) := by
  have p1 : mwF m y o k (12 * a) ≤ pmF m y o k a b := mw_le f (by omega)
  have p2 : pmF m y o k a b < mwF m y o k (12 * a + 12) := mw_lt f (by omega)
  have p3 := fun h => pm_odd (o := o) (k := k) (a := a) f h2 h
  intro i hi
  unfold fmL at hi
  split at hi
  · split at hi
    · rw [List.mem_singleton.mp hi]
      exact ⟨p1, p2⟩
    · rename_i hn
      rcases List.mem_cons.mp hi with rfl | hi
      · exact ⟨p1, p2⟩
      · rw [List.mem_singleton.mp hi]
        exact ⟨by omega, p3 hn⟩
  · rw [List.mem_singleton.mp hi]
    unfold miyF
    split
    · split
      · exact ⟨p1, p2⟩
      · rename_i hn
        exact ⟨by omega, p3 hn⟩
    · exact ⟨p1, p2⟩
theorem fdd_in (f : Fit m y) {d : Int} (hd : 1 ≤ d) (i : Int) : stF m o i ≤ fdd m o d i ∧ fdd m o d i < stF m o (i + 1) := by
  have h := st_step (o := o) f.one i
  unfold fdd heldF
  split <;> omega
theorem fdL_in (f : Fit m y) {z : Fst} (g : FsG z) : ∀ x ∈ fdL m y o k a z, fdF m y o k a ≤ x ∧ x < fdF m y o k (a + 1) := by
  intro x hx
  obtain ⟨i, hi, rfl⟩ := List.mem_map.mp hx
  obtain ⟨h1, h2⟩ := fm_in f g.n1 g.n2 _ i hi
  obtain ⟨h3, h4⟩ := fdd_in (o := o) f g.d1 i
  have h5 := st_mono (o := o) f h1
  have h6 := st_mono (o := o) f (show i + 1 ≤ mwF m y o k (12 * a + 12) by omega)
  rw [fd_st, fd_st, show 12 * (a + 1) = 12 * a + 12 by omega]
  omega
theorem fdL_rise (f : Fit m y) {z : Fst} (g : FsG z) : (fdL m y o k a z).Pairwise (· < ·) := by
  have h1 := fdd_in (o := o) f g.d1 (pmF m y o k a z.nr)
  have h2 := fdd_in (o := o) f g.d1 (pmF m y o k a z.nr + 1)
  unfold fdL fmL
  split
  · split
    · simp
    · simp only [List.map_cons, List.map_nil, List.pairwise_cons, List.mem_cons, List.not_mem_nil, or_false, forall_eq, false_implies, implies_true, List.Pairwise.nil, and_true]
      omega
  · simp
theorem fdL_ne (m y o k : Rat) (a : Int) (z : Fst) : fdL m y o k a z ≠ [] := by
  unfold fdL fmL
  split
  · split <;> simp
  · simp
end
/-! ### rows, sorted -/
theorem perm_sorted : ∀ {u v : List Int}, u.Perm v → u.Pairwise (· ≤ ·) → v.Pairwise (· ≤ ·) → u = v
  | [], v, h, _, _ => (List.nil_perm.mp h).symm
  | x :: u, [], h, _, _ => by have := h.length_eq; simp at this
  | x :: u, y :: v, h, hu, hv => by
    obtain ⟨u1, u2⟩ := List.pairwise_cons.mp hu
    obtain ⟨v1, v2⟩ := List.pairwise_cons.mp hv
    have e : x = y := by
      have a : y ≤ x := by
        rcases List.mem_cons.mp (h.mem_iff.mp (List.mem_cons_self (a := x) (l := u))) with e | hx
        · omega
        · exact v1 x hx
      have b : x ≤ y := by
        rcases List.mem_cons.mp (h.mem_iff.mpr (List.mem_cons_self (a := y) (l := v))) with e | hx
        · omega
        · exact u1 y hx
      omega
    subst e
    rw [perm_sorted ((List.perm_cons x).mp h) u2 v2]
section
variable {m y o k : Rat} {a : Int} {fs : List Fst}
theorem inY_sorted (m y o k : Rat) (a : Int) (fs : List Fst) : (inY m y o k a fs).Pairwise fun r s => leD r s = true := PySem.W.sort_pairwise leD_total _
theorem inY_mem {r : Int × Str} : r ∈ inY m y o k a fs ↔ r ∈ rawL m y o k a fs := List.mem_mergeSort
theorem raw_mem {r : Int × Str} : r ∈ rawL m y o k a fs ↔ ∃ z ∈ fs, r.1 ∈ fdL m y o k a z ∧ r.2 = z.nm := by
  unfold rawL
  rw [List.mem_flatMap]
  constructor
  · rintro ⟨z, hz, h⟩
    obtain ⟨d, hd, rfl⟩ := List.mem_map.mp h
    exact ⟨z, hz, hd, rfl⟩
  · rintro ⟨z, hz, hd, e⟩
    refine ⟨z, hz, List.mem_map.mpr ⟨r.1, hd, ?_⟩⟩
    rw [← e]
theorem inY_in (f : Fit m y) (g : ∀ z ∈ fs, FsG z) : ∀ r ∈ inY m y o k a fs, fdF m y o k a ≤ r.1 ∧ r.1 < fdF m y o k (a + 1) := fun r hr => by
  obtain ⟨z, hz, hd, _⟩ := raw_mem.mp (inY_mem.mp hr)
  exact fdL_in f (g z hz) _ hd
theorem inY_ok (g : ∀ z ∈ fs, FsG z) : ∀ r ∈ inY m y o k a fs, PyData.strOk r.2 = true := fun r hr => by
  obtain ⟨z, hz, _, e⟩ := raw_mem.mp (inY_mem.mp hr)
  rw [e]
  exact (g z hz).ok
theorem inY_ne (h : fs ≠ []) : inY m y o k a fs ≠ [] := by
  cases fs with
  | nil => exact absurd rfl h
  | cons z fs =>
    intro e
    cases hd : fdL m y o k a z with
    | nil => exact fdL_ne m y o k a z hd
    | cons d ds =>
      have : (d, z.nm) ∈ inY m y o k a (z :: fs) := inY_mem.mpr (raw_mem.mpr ⟨z, List.mem_cons_self, by rw [hd]; exact List.mem_cons_self, rfl⟩)
      rw [e] at this
      cases this
theorem raw_one : ∀ {fs : List Fst} {z : Fst}, z ∈ fs → (fs.map (·.nm)).Nodup → (rawL m y o k a fs).filter (fun r => decide (r.2 = z.nm)) = (fdL m y o k a z).map fun d => (d, z.nm)
  | x :: fs, z, hz, nd => by
    rw [List.map_cons, List.nodup_cons] at nd
    unfold rawL
    rw [List.flatMap_cons, List.filter_append]
    have all : ∀ (w : Fst), w.nm ≠ z.nm → ((fdL m y o k a w).map fun d => (d, w.nm)).filter (fun r => decide (r.2 = z.nm)) = [] := fun w hw => by
      rw [List.filter_eq_nil_iff]
      intro r hr
      obtain ⟨d, _, rfl⟩ := List.mem_map.mp hr
      simp [hw]
    rcases List.mem_cons.mp hz with rfl | hz
    · have e2 : (fs.flatMap fun f => (fdL m y o k a f).map fun d => (d, f.nm)).filter (fun r => decide (r.2 = z.nm)) = [] := by
        rw [List.filter_eq_nil_iff]
        intro r hr
        obtain ⟨w, hw, _, e⟩ := raw_mem.mp hr
        have : w.nm ≠ z.nm := fun e' => nd.1 (List.mem_map.mpr ⟨w, hw, e'⟩)
        simp [e, this]
      rw [e2, List.append_nil]
      rw [List.filter_eq_self]
      intro r hr
      obtain ⟨d, _, rfl⟩ := List.mem_map.mp hr
      simp
    · have hx : x.nm ≠ z.nm := fun e => nd.1 (List.mem_map.mpr ⟨z, hz, e.symm⟩)
      rw [all x hx, List.nil_append]
      exact raw_one hz nd.2
/-- of each name the days that feast_days tells -/
theorem inY_name (f : Fit m y) {z : Fst} (hz : z ∈ fs) (g : FsG z) (nd : (fs.map (·.nm)).Nodup) : ((inY m y o k a fs).filter fun r => decide (r.2 = z.nm)).map (·.1) = fdL m y o k a z := by
  refine perm_sorted ?_ ?_ ((fdL_rise f g).imp fun h => Int.le_of_lt h)
  · have h := (((List.mergeSort_perm (rawL m y o k a fs) leD).filter fun r => decide (r.2 = z.nm)).map (·.1))
    rw [raw_one hz nd, List.map_map] at h
    have e : (fdL m y o k a z).map ((fun r : Int × Str => r.1) ∘ fun d => (d, z.nm)) = fdL m y o k a z := (List.map_congr_left fun _ _ => rfl).trans (List.map_id _)
    rw [e] at h
    exact h
  · refine List.pairwise_map.mpr ?_
    exact ((inY_sorted m y o k a fs).filter _).imp fun h => leD_day h
end
/-- rows up to a day, and those of the day -/
theorem rows_step {L : List (Int × Str)} (h : L.Pairwise fun r s => leD r s = true) (x : Int) : L.filter (fun r => decide (r.1 < x + 1)) = L.filter (fun r => decide (r.1 < x)) ++ L.filter (fun r => decide (r.1 = x)) := by
  induction L with
  | nil => rfl
  | cons r L ih =>
    obtain ⟨h1, h2⟩ := List.pairwise_cons.mp h
    have ih := ih h2
    by_cases c1 : r.1 < x
    · rw [List.filter_cons, if_pos (by simp; omega), List.filter_cons, if_pos (by simp; omega), List.filter_cons, if_neg (by simp; omega), ih, List.cons_append]
    · have e : L.filter (fun r => decide (r.1 < x)) = [] := by
        rw [List.filter_eq_nil_iff]
        intro s hs
        have := leD_day (h1 s hs)
        simp
        omega
      rw [e, List.nil_append] at ih
      by_cases c2 : r.1 = x
      · rw [List.filter_cons, if_pos (by simp; omega), List.filter_cons, if_neg (by simp; omega), e, List.nil_append, List.filter_cons, if_pos (by simp [c2]), ih]
      · rw [List.filter_cons, if_neg (by simp; omega), List.filter_cons, if_neg (by simp; omega), e, List.nil_append, List.filter_cons, if_neg (by simp [c2]), ih]
section
variable {m y o k : Rat} {a : Int} {fs : List Fst}
theorem two_sorted (f : Fit m y) (g : ∀ z ∈ fs, FsG z) (b : Int) : (inY m y o k b fs ++ inY m y o k (b + 1) fs).Pairwise fun r s => leD r s = true := by
  rw [List.pairwise_append]
  refine ⟨inY_sorted _ _ _ _ _ _, inY_sorted _ _ _ _ _ _, fun r hr s hs => leD_of_day ?_⟩
  have h1 := inY_in f g r hr
  have h2 := inY_in f g s hs
  omega
theorem nx_sorted (f : Fit m y) (g : ∀ z ∈ fs, FsG z) {x : Int} {nm : Option Str} {z : Int × Str} {zs : List (Int × Str)} (e : nxL m y o k x nm fs = z :: zs) : PySem.W.minOf z zs = z := by
  have h : (nxL m y o k x nm fs).Pairwise fun r s => leD r s = true := (two_sorted f g _).filter _
  rw [e] at h
  exact minOf_sorted (List.pairwise_cons.mp h).1
/-- the next feast behind a day of the year -/
theorem nx_more (f : Fit m y) (g : ∀ z ∈ fs, FsG z) (hne : fs ≠ []) {d : Int} (h1 : fdF m y o k a ≤ d) (h2 : d < fdF m y o k (a + 1)) : ∃ z zs ys, nxL m y o k (d + 1) none fs = z :: zs ∧ (inY m y o k a fs).filter (fun r => decide (d < r.1)) ++ (inY m y o k (a + 1) fs).take 1 = z :: ys := by
  have hB : ∀ (x : Int), (fun r : Int × Str => decide (x ≤ r.1) && ((none : Option Str).isNone || decide (V.str r.2 = nmV none))) = fun r => decide (x ≤ r.1) := fun x => by
    funext r
    simp
  unfold nxL
  rw [hB, List.filter_append]
  have hlt := fd_lt (o := o) (k := k) f (a + 1)
  by_cases c : d + 1 < fdF m y o k (a + 1)
  · rw [yr_of f (show fdF m y o k a ≤ d + 1 by omega) c]
    have e2 : (inY m y o k (a + 1) fs).filter (fun r => decide (d + 1 ≤ r.1)) = inY m y o k (a + 1) fs := by
      rw [List.filter_eq_self]
      intro r hr
      have := (inY_in f g r hr).1
      simp
      omega
    have e1 : (fun r : Int × Str => decide (d < r.1)) = fun r => decide (d + 1 ≤ r.1) := by
      funext r
      exact decide_eq_decide.mpr ⟨fun h => by omega, fun h => by omega⟩
    rw [e1, e2]
    cases hW : inY m y o k (a + 1) fs with
    | nil => exact absurd hW (inY_ne hne)
    | cons w ws =>
      cases (inY m y o k a fs).filter (fun r => decide (d + 1 ≤ r.1)) with
      | nil => exact ⟨w, ws, [], rfl, rfl⟩
      | cons r rs => exact ⟨r, _, _, rfl, rfl⟩
  · have ed : d + 1 = fdF m y o k (a + 1) := by omega
    rw [yr_of (a := a + 1) f (by omega) (by omega)]
    have e1 : (inY m y o k a fs).filter (fun r => decide (d < r.1)) = [] := by
      rw [List.filter_eq_nil_iff]
      intro r hr
      have := (inY_in f g r hr).2
      simp
      omega
    have e2 : (inY m y o k (a + 1) fs).filter (fun r => decide (d + 1 ≤ r.1)) = inY m y o k (a + 1) fs := by
      rw [List.filter_eq_self]
      intro r hr
      have := (inY_in f g r hr).1
      simp
      omega
    rw [e1, e2, List.nil_append]
    cases hW : inY m y o k (a + 1) fs with
    | nil => exact absurd hW (inY_ne hne)
    | cons w ws => exact ⟨w, _, [], rfl, rfl⟩
/-- of a name, from the year's first day on -/
theorem nx_name (f : Fit m y) (g : ∀ z ∈ fs, FsG z) (nd : (fs.map (·.nm)).Nodup) {q : Fst} (hq : q ∈ fs) : ∃ d ds zs, fdL m y o k a q = d :: ds ∧ nxL m y o k (fdF m y o k a) (some q.nm) fs = (d, q.nm) :: zs := by
  have hB : (fun r : Int × Str => decide (fdF m y o k a ≤ r.1) && ((some q.nm).isNone || decide (V.str r.2 = nmV (some q.nm)))) = fun r => decide (fdF m y o k a ≤ r.1) && decide (r.2 = q.nm) := by
    funext r
    have : decide (V.str r.2 = nmV (some q.nm)) = decide (r.2 = q.nm) := decide_eq_decide.mpr ⟨fun h => V.str.inj h, fun h => by rw [h]; rfl⟩
    rw [this]
    rfl
  have hlt := fd_lt (o := o) (k := k) f a
  have e1 : (inY m y o k a fs).filter (fun r => decide (fdF m y o k a ≤ r.1) && decide (r.2 = q.nm)) = (inY m y o k a fs).filter (fun r => decide (r.2 = q.nm)) := by
    refine List.filter_congr fun r hr => ?_
    rw [decide_eq_true (inY_in f g r hr).1, Bool.true_and]
  have hn := inY_name (o := o) (k := k) (a := a) f hq (g q hq) nd
  unfold nxL
  rw [hB, yr_of f (Int.le_refl _) hlt, List.filter_append, e1]
  cases hF : (inY m y o k a fs).filter (fun r => decide (r.2 = q.nm)) with
  | nil =>
    rw [hF] at hn
    exact absurd hn.symm (fdL_ne m y o k a q)
  | cons r rs =>
    rw [hF, List.map_cons] at hn
    have hm : r ∈ (inY m y o k a fs).filter (fun r => decide (r.2 = q.nm)) := by
      rw [hF]
      exact List.mem_cons_self
    have h2 := of_decide_eq_true (List.mem_filter.mp hm).2
    refine ⟨r.1, rs.map (·.1), rs ++ (inY m y o k (a + 1) fs).filter (fun r => decide (fdF m y o k a ≤ r.1) && decide (r.2 = q.nm)), hn.symm, ?_⟩
    rw [List.cons_append]
    exact congrArg (· :: _) (Prod.ext rfl h2)
end
/-! ### the law's own rows -/
theorem lay_rows : ∀ {xs : List (Int × Str)}, (∀ r ∈ xs, PyData.strOk r.2 = true) → PyData.canLayAll0 (xs.map encD) = true
  | [], _ => rfl
  | r :: xs, h => by
    rw [List.map_cons]
    simp only [PyData.canLayAll0, encD, PyData.canLay0, h r List.mem_cons_self, lay_rows (xs := xs) fun s hs => h s (List.mem_cons_of_mem _ hs), Bool.and_true, Bool.and_self]
theorem dep_rows : ∀ xs : List (Int × Str), PyData.depthAll (xs.map encD) ≤ 1
  | [] => by simp [PyData.depthAll]
  | r :: xs => by
    have := dep_rows xs
    rw [List.map_cons]
    simp only [PyData.depthAll, encD, PyData.depth, Nat.max_def]
    repeat' split
    all_goals omega
theorem sh_rows {xs : List (Int × Str)} (h : ∀ r ∈ xs, PyData.strOk r.2 = true) : SeqAt.shaped (.list (xs.map encD)) = true := by
  show (PyData.canLay0 (.list (xs.map encD)) && decide (PyData.depth (.list (xs.map encD)) ≤ 64)) = true
  have hd := dep_rows xs
  rw [Bool.and_eq_true]
  refine ⟨by simp only [PyData.canLay0]; exact lay_rows h, decide_eq_true ?_⟩
  simp only [PyData.depth]
  omega
theorem eqv_rowsD {xs : List (Int × Str)} (h : ∀ r ∈ xs, PyData.strOk r.2 = true) : PyData.eqv (.list (xs.map encD)) (.list (xs.map encD)) = true := SeqAt.eqv_refl _ (by simp only [PyData.canLay0]; exact lay_rows h)
theorem sh_row {r : Int × Str} (h : PyData.strOk r.2 = true) : SeqAt.shaped (encD r) = true := by
  show (PyData.canLay0 (encD r) && decide (PyData.depth (encD r) ≤ 64)) = true
  have h2 : (encD r).depth = 1 := by
    unfold encD
    simp [PyData.depth, PyData.depthAll]
  rw [h2]
  unfold encD
  simp only [PyData.canLay0, PyData.canLayAll0, h, Bool.and_self, Bool.true_and]
  rfl
theorem eqv_rowD {r : Int × Str} (h : PyData.strOk r.2 = true) : PyData.eqv (encD r) (encD r) = true := SeqAt.eqv_refl _ (by unfold encD; simp only [PyData.canLay0, PyData.canLayAll0, h, Bool.and_self])
/-- the rows of a day, from its names -/
theorem day_rows (x : Int) (L : List (Int × Str)) : (((L.filter fun r => decide (r.1 = x)).map (·.2)).map fun s => (x, s)) = L.filter fun r => decide (r.1 = x) := by
  rw [List.map_map]
  refine (List.map_congr_left fun r hr => ?_).trans (List.map_id _)
  have := of_decide_eq_true (List.mem_filter.mp hr).2
  exact Prod.ext this.symm rfl
def spRws (C Cc Cb Cf : Addr) : Sp := fun vs H Q _ => ∃ (b p : Addr) (a : Int) (n : Nat) (m y o k : Rat) (fs : List (Addr × Fst)), vs = [.ref b, .int (fdF m y o k a), .int (n : Int)] ∧ Bk C Cc Cb Cf H b p m y o k fs ∧ (∀ q ∈ fs, FsG q.2) ∧ fdF m y o k a + (n : Int) = fdF m y o k (a + 1) ∧ Sz 600 (fdF m y o k a) ∧ Sz 600 (fdF m y o k (a + 1)) ∧
  ∀ r us H', Same H H' → H' r = some (.lst us) → Duos H' us (inY m y o k a (fs.map (·.2))) → Q (.ref r) H'
section
variable {P : Program} {w : World} {K : PySem.W.Frag} {mg : Str → Option Value} {base : Heap} {C Cc Cb Cf : Addr}
abbrev TE_l_rows1 : TE := tTup (tCons (tVar 4) (tCons (tVar 5) tNil))
theorem ok_lrws (D : Df K mg "_law_rows" s_l_rows []) (g_range : mg "range" = none) (f_on_day : Cm P w K mg base CX0 15 Cb "on_day" "Feasts.on_day" s_Feasts_on_day ["self", "day"] (spOnD C Cc Cb Cf)) : Ca P w K mg base CX0 16 "_law_rows" s_l_rows [] ["_law_book", "_law_first", "_law_many"] (spRws C Cc Cb Cf) := by
  refine ca0 (k := 15) D c_l_rows (fun vs H Q E h => ?_) fun f cdv A outer s H vs Q E hr h => ?_
  · obtain ⟨b, p, a, n, m, y, o, k, fs, rfl, _⟩ := h
    rfl
  · obtain ⟨b, p, a, n, m, y, o, k, fs, rfl, hb, hg, hn, z1, z2, q⟩ := h
    obtain ⟨dx, d, e1, e2⟩ := hb.ob
    have gg : ∀ z ∈ fs.map (·.2), FsG z := fun z hz => by
      obtain ⟨q', hq', rfl⟩ := List.mem_map.mp hz
      exact hg q' hq'
    refine ⟨_, (pss_cons (ps_set (i := 3) c_l_rows.nd rfl (.inl rfl) (pe_lst pa_nil))
      (pss_cons (ps_for PassesOwn.never rfl (pi_rangeA rfl g_range (pa_cons (pv 1) (pa_cons (pe_op op_add (pv 1) (pv 2)) pa_nil))) (pg_name (i := 4) c_l_rows.nd rfl (.inr rfl)) (pss_one (ps_set (i := 3) c_l_rows.nd rfl (.inl rfl) (pe_op op_cat (pv 3) (pe_lc (own := [("_law_name", 5)]) (g := gName 5) (tt := tYes) (te := TE_l_rows1 ) rfl c_l_rows.nd (pi_list (pe_cm f_on_day b_Feasts_on_day hr (by decide) pass0 (pv 0) (pa_cons (pv 4) pa_nil))) (blkOk_by (N := ["_law_book", "_law_first", "_law_many", "_law_rows_here", "_law_day", "_law_name"]) (sc := defScope s_l_rows) (by decide +kernel)) (fun _ _ _ _ _ => (pg_name (i := 5) c_l_rows.nd rfl (.inl rfl))) (fun _ _ _ _ _ => by exact pts_nil) (fun _ _ _ _ _ => by exact (pe_tup (pa_cons (pv 4) (pa_cons (pv 5) pa_nil)))))))))
      (pss_one (ps_ret (pv 3))))), ?_⟩
    refine ⟨(by show 0 ≤ sizeLine; decide), fun l0 n0 => ?_⟩
    have s0 := Same.new (o := .lst []) n0
    have el0 := upd_same (H := H) (a := l0) (o := .lst [])
    generalize L2.upd H l0 (.lst []) = H0 at *
    refine ⟨_, rfl, _, rfl, _, rfl, _, _, rfl, rfl, _, _, rfl, ?_⟩
    have en : (fdF m y o k a + (n : Int) - fdF m y o k a).toNat = n := by omega
    rw [en]
    generalize hL : inY m y o k a (fs.map (·.2)) = L at *
    refine for_range (n := n) (fun j σ Hx => ∃ (l : Addr) (us : List V) (v4 v5 : Option V), σ = [some (.ref b), some (.int (fdF m y o k a)), some (.int (n : Int)), some (.ref l), v4, v5] ∧ Same H Hx ∧ Hx l = some (.lst us) ∧ Duos Hx us (L.filter fun r => decide (r.1 < fdF m y o k a + (j : Int)))) ⟨l0, [], _, _, rfl, s0, el0, ?_⟩ ?_ ?_
    · have e : L.filter (fun r => decide (r.1 < fdF m y o k a + ((0 : Nat) : Int))) = [] := by
        rw [List.filter_eq_nil_iff]
        intro r hr
        rw [← hL] at hr
        have := (inY_in hb.g.fit gg r hr).1
        simp
        omega
      rw [e]
      exact Duos.nil
    · rintro j σ Hx hj ⟨l, us, v4, v5, rfl, sx, el, du⟩
      have hx1 : fdF m y o k a ≤ fdF m y o k a + (j : Int) := by omega
      have hx2 : fdF m y o k a + (j : Int) < fdF m y o k (a + 1) := by omega
      have hyr := yr_of hb.g.fit hx1 hx2
      have zx : Sz 700 (fdF m y o k a + (j : Int)) := by
        refine Sz.mono (n := 601) ?_ (by decide)
        unfold Sz at *
        omega
      have hon : onD m y o k (fdF m y o k a + (j : Int)) (fs.map (·.2)) = (L.filter fun r => decide (r.1 = fdF m y o k a + (j : Int))).map (·.2) := by
        unfold onD
        rw [hyr, hL]
      have hst := rows_step (by rw [← hL]; exact inY_sorted m y o k a (fs.map (·.2)) : L.Pairwise fun r s => leD r s = true) (fdF m y o k a + (j : Int))
      rw [show fdF m y o k a + (j : Int) + 1 = fdF m y o k a + ((j + 1 : Nat) : Int) by omega] at hst
      generalize fdF m y o k a + (j : Int) = x at *
      have hLl : L.length ≤ 100 := by
        have h1 := inY_len m y o k a (fs.map (·.2))
        have h2 := hb.z
        rw [hL, List.length_map] at h1
        omega
      have hFl : (L.filter fun r => decide (r.1 = x)).length ≤ 100 := Nat.le_trans (List.length_filter_le _ _) hLl
      have hGl : (L.filter fun r => decide (r.1 < x)).length ≤ 100 := Nat.le_trans (List.length_filter_le _ _) hLl
      have hF1 : ∀ r0 ∈ L.filter (fun r => decide (r.1 = x)), r0.1 = x := fun r0 h => of_decide_eq_true (List.mem_filter.mp h).2
      rw [hst]
      generalize L.filter (fun r => decide (r.1 = x)) = F at *
      generalize L.filter (fun r => decide (r.1 < x)) = G at *
      refine ⟨_, rfl, _, rfl, b, dx, _, rfl, sx _ _ e1, fb_no _ _ (by decide +kernel) (by decide +kernel), _, rfl, b, p, x, m, y, o, k, fs, rfl, hb.same sx, zx, fun r Ha nr sa er => ?_⟩
      rw [hon] at er
      refine ⟨r, rfl, ⟨_, SqL.of er⟩, fun D nD => ?_⟩
      have wl := walk_list (K := K) (a := r) (xs := (F.map (·.2)).map V.str)
      rw [List.length_map, List.length_map] at wl
      refine lc_all wl yAt_same nD (Nat.lt_of_le_of_lt hFl (by decide)) (fun i v Hy => ∃ r0, F[i]? = some r0 ∧ Duo Hy v r0) (fun i v Hy Hz s ⟨r0, e, d⟩ => ⟨r0, e, d.same fun t xs e => s _ _ e⟩) (fun i v Hy acc acc' hacc ⟨r0, e, d⟩ => ⟨r0, e, d.same fun t xs e => (upd_ne (ne_of e hacc (by intro zz; cases zz))).trans e⟩) (fun H' s' => SqL.of (s' _ _ er)) ?_ ?_
      · rintro i v Hb Hc R hi sb ⟨rfl, hv⟩ k1
        have hFi := List.getElem?_eq_getElem hi
        rw [List.getElem?_map, List.getElem?_map, hFi] at hv
        obtain rfl : v = V.str F[i].2 := (Option.some.inj hv).symm
        refine ⟨rfl, ?_⟩
        refine ⟨_, rfl, _, rfl, (by show 2 ≤ sizeLine; decide), fun t nt => k1 _ _ (Same.new nt) ⟨F[i], hFi, t, rfl, ?_⟩⟩
        rw [upd_same, hF1 _ (List.getElem_mem hi)]
      · intro us2 Hb hl2 e2' sb hps
        have du2 : Duos Hb us2 F := ⟨hl2.symm, hps⟩
        have sab := sa.trans sb
        have du' := du.same fun t xs e => sab _ _ e
        have l1 := du.1
        refine ⟨l, D, us, us2, rfl, rfl, sab _ _ el, e2', Nat.le_trans (show _ ≤ 200 by omega) (by decide), fun r3 nr3 => ?_⟩
        exact ⟨r3, us ++ us2, _, _, rfl, sx.trans (sab.trans (Same.new nr3)), upd_same, (du'.append du2).same fun t xs e => (upd_ne (ne_of_none e nr3)).trans e⟩
    · rintro σ Hx ⟨l, us, v4, v5, rfl, sx, el, du⟩
      rw [hn] at du
      have e : L.filter (fun r => decide (r.1 < fdF m y o k (a + 1))) = L := by
        rw [List.filter_eq_self]
        intro r hr
        rw [← hL] at hr
        exact decide_eq_true (inY_in hb.g.fit gg r hr).2
      rw [e] at du
      exact ⟨_, rfl, q l us Hx sx el du⟩
end
/-! ### years that begin together, as the law asks -/
/-- what a year has -/
structure YrD (Cy : Addr) (H : Hp) (p D1 D2 : Addr) (us : List V) (m y o k : Rat) (a : Int) : Prop where
  yr : Yr Cy H p a (fdF m y o k a) D1 D2 (odV (ynL m y o k a))
  e1 : H D1 = some (.lst us)
  nm : NmB H us (ynL m y o k a)
  e2 : H D2 = some (.lst ((ylL m y o k a).map V.int))
theorem YrD.same {Cy : Addr} {H H1 : Hp} {p D1 D2 : Addr} {us : List V} {m y o k : Rat} {a : Int} (h : YrD Cy H p D1 D2 us m y o k a) (s : Same H H1) : YrD Cy H1 p D1 D2 us m y o k a := by
  obtain ⟨⟨dx, e⟩, h1, h2, h3⟩ := h
  exact ⟨⟨dx, s _ _ e⟩, s _ _ h1, h2.same fun r xs e => s _ _ e, s _ _ h3⟩
theorem made_yr {C Cc Cy : Addr} {H : Hp} {R : Addr → Hp → Prop} {E : XK} {c : Addr} {a : Int} {m y o k : Rat} (hc : Cl C Cc H c m y o k) (g : Good m y o k) (za : Sz 560 a) (h : ∀ p D1 D2 us H', H p = none → Same H H' → D1 ≠ D2 → H D1 = none → H D2 = none → YrD Cy H' p D1 D2 us m y o k a → R p H') :
    ∀ p dx, H p = none → H dx = none → dx ≠ p → spYrI C Cc Cy [.ref p, .ref c, .int a] (L2.upd (L2.upd H dx (.own p)) p (.ins Cy dx [])) (fun r H2 => r = .non ∧ R p H2) E := by
  intro p dx hp hd ne
  have s0 : Same H (L2.upd (L2.upd H dx (.own p)) p (.ins Cy dx [])) := Same.upd (Same.new hd) (by rw [upd_ne ne.symm]; exact hp)
  refine ⟨p, dx, c, a, m, y, o, k, rfl, upd_same, hc.same s0, g, za, fun H' D1 D2 us b hy n1 n2 ne12 e1 nm e2 => ⟨rfl, ?_⟩⟩
  exact h p D1 D2 us H' hp (fun x w e => b x w (ne_of_none e hp) (s0 x w e)) ne12 (s0.free n1) (s0.free n2) ⟨hy, e1, nm, e2⟩
/-! ### a book, as the law fills it -/
theorem Dr.kp {H H1 : Hp} {l : Addr} {n : Nat} (h : Dr H l n) (e : ∀ xs, H l = some (.lst xs) → H1 l = some (.lst xs)) : Dr H1 l n := by
  obtain ⟨d, k, f, e1, h1, h2⟩ := h
  exact ⟨d, k, f, e _ e1, h1, h2⟩
theorem Cl.kp {C Cc p : Addr} {H H1 : Hp} {m y o k : Rat} (h : Cl C Cc H p m y o k) (kpi : ∀ {a c dx : Addr} {fs : List (Str × V)}, H a = some (.ins c dx fs) → H1 a = some (.ins c dx fs)) : Cl C Cc H1 p m y o k := by
  obtain ⟨dx, a, b, c, d, e, ⟨x1, h1⟩, ⟨x2, h2⟩, ⟨x3, h3⟩, ⟨x4, h4⟩⟩ := h
  exact ⟨dx, a, b, c, d, kpi e, ⟨x1, kpi h1⟩, ⟨x2, kpi h2⟩, ⟨x3, kpi h3⟩, ⟨x4, kpi h4⟩⟩
/-- all that is no list stays -/
def NoL (H H1 : Hp) : Prop := ∀ c o, (∀ xs, o ≠ .lst xs) → H c = some o → H1 c = some o
theorem NoL.same {H H1 : Hp} (s : Same H H1) : NoL H H1 := fun c o _ e => s _ _ e
theorem NoL.but {H H1 : Hp} {l : Addr} {n : Nat} (b : But l H H1) (d : Dr H l n) : NoL H H1 := fun c o n e => by
  obtain ⟨_, _, _, el, _⟩ := d
  refine b c o (fun z => ?_) e
  rw [z, el] at e
  exact n _ (Option.some.inj e).symm
theorem NoL.upd {H : Hp} {l : Addr} {xs ys : List V} (e : H l = some (.lst xs)) : NoL H (L2.upd H l (.lst ys)) := fun c o n e' => by
  refine (upd_ne (fun z => ?_)).trans e'
  rw [z, e] at e'
  exact n _ (Option.some.inj e').symm
theorem Bk.noL {C Cc Cb Cf b p : Addr} {H H1 : Hp} {m y o k : Rat} {fs : List (Addr × Fst)} (h : Bk C Cc Cb Cf H b p m y o k fs) (s : NoL H H1) : Bk C Cc Cb Cf H1 b p m y o k fs := by
  have kpi : ∀ {a c dx : Addr} {fs : List (Str × V)}, H a = some (.ins c dx fs) → H1 a = some (.ins c dx fs) := fun e => s _ _ (fun _ z => nomatch z) e
  obtain ⟨dx, d, e1, e2⟩ := h.ob
  exact ⟨⟨dx, d, kpi e1, s _ _ (fun _ z => nomatch z) e2⟩, h.c.kp kpi, h.g, fun q hq => by
    obtain ⟨dxq, e⟩ := h.fe q hq
    exact ⟨dxq, kpi e⟩, h.sz, h.z⟩
theorem made_fb {Cb : Addr} {H : Hp} {R : Addr → Hp → Prop} {E : XK} {p : Addr} (h : ∀ b dx d H', H b = none → Same H H' → H' b = some (.ins Cb dx (fbs p d)) → H' d = some (.dK []) → R b H') :
    ∀ b dx, H b = none → H dx = none → dx ≠ b → spFbI Cb [.ref b, .ref p] (L2.upd (L2.upd H dx (.own b)) b (.ins Cb dx [])) (fun v H2 => v = .non ∧ R b H2) E := by
  intro b dx hb hd ne
  have s0 : Same H (L2.upd (L2.upd H dx (.own b)) b (.ins Cb dx [])) := Same.upd (Same.new hd) (by rw [upd_ne ne.symm]; exact hb)
  refine ⟨b, dx, p, rfl, upd_same, fun d H' b' nd e1 e2 => ⟨rfl, ?_⟩⟩
  exact h b dx d H' hb (fun c o e => b' c o (ne_of_none e hb) (s0 c o e)) e1 e2
def gR3 {α : Type} : List α → List α → List α → List α := fun us _ ws => us ++ ws
theorem gR3_rel {vs ds zs : List V} {us its ws : List Value} (h : Vals vs us) (_ : Vals ds its) (k : Vals zs ws) : Vals (gR3 vs ds zs) (gR3 us its ws) := h.append k
theorem kb_Feast_3_when : Kd "Feast.__init__" s_Feast_init 1 4 ["when"] ["self", "name", "number", "day", "when"] gR3 :=
  ⟨fun _ _ _ _ _ _ _ us its ws hu hi hw => match us, hu, its, hi, ws, hw with | [_, _, _, _], _, [_], _, [_], _ => ⟨_, rfl, rfl⟩, gR3_rel⟩
theorem bd_next_feast2 : Bd1 "next_feast" "Feasts.next_feast" s_Feasts_next_feast ["self", "day", "name"] 2 0 1 := fun _ _ _ _ _ _ _ us its hu hi => match us, hu, its, hi with | [_, _], _, [_], _ => ⟨_, rfl, rfl⟩
theorem bd_next_feast3 : Bd1 "next_feast" "Feasts.next_feast" s_Feasts_next_feast ["self", "day", "name"] 3 1 1 := fun _ _ _ _ _ _ _ us its hu hi => match us, hu, its, hi with | [_, _, _], _, [_], _ => ⟨_, rfl, rfl⟩
/-! ### the law's names -/
theorem rp_all {z : Str} (hz : PyData.strOk z = true) (n : Nat) : PyData.strOk (rpS z n) = true := by
  have hz : z.cps.all (· < 0x110000) = true := hz
  have h : ∀ (n : Nat) (acc : Array Nat), acc.all (· < 0x110000) = true → ((List.replicate n z.cps).foldl (· ++ ·) acc).all (· < 0x110000) = true := by
    intro n
    induction n with
    | zero => exact fun acc h => h
    | succ n ih =>
      intro acc h
      rw [List.replicate_succ, List.foldl_cons]
      refine ih _ ?_
      rw [Array.all_append, h, hz]
      rfl
  exact h n #[] (by simp)
theorem nodup_len {xs : List Str} (h : ∀ (j : Nat) (x : Str), xs[j]? = some x → x.length = j + 1) : xs.Nodup := by
  show xs.Pairwise (· ≠ ·)
  rw [List.pairwise_iff_getElem]
  intro i j hi hj hij e
  have h1 := h j _ (List.getElem?_eq_getElem hj)
  have h2 := h i _ (List.getElem?_eq_getElem hi)
  rw [e] at h2
  omega
theorem abc_at (i : Int) : ∃ c : Nat, atI (("abcdef" : Str).cps.toList) (i % 6) = some c ∧ c < 128 := by
  have h0 := Int.emod_nonneg i (show (6 : Int) ≠ 0 by decide)
  have h1 := Int.emod_lt_of_pos i (show (0 : Int) < 6 by decide)
  have h : i % 6 = 0 ∨ i % 6 = 1 ∨ i % 6 = 2 ∨ i % 6 = 3 ∨ i % 6 = 4 ∨ i % 6 = 5 := by omega
  rcases h with e | e | e | e | e | e <;> rw [e] <;> exact ⟨_, rfl, by decide +kernel⟩
theorem cut1 (us : List V) : cutV us none (some 1) = us.take 1 := by
  unfold cutV
  have e1 : HT.sIx us.length 0 none = 0 := rfl
  have e2 : HT.sIx us.length us.length (some 1) = min 1 us.length := HT.sIx_nat us.length us.length 1
  rw [e1, e2]
  cases us with
  | nil => rfl
  | cons u us => simp
theorem Duos.take {H : Hp} {us : List V} {xs : List (Int × Str)} (h : Duos H us xs) (n : Nat) : Duos H (us.take n) (xs.take n) := ⟨by rw [List.length_take, List.length_take, h.1], fun j v hj => by
  rw [List.getElem?_take] at hj
  rw [List.getElem?_take]
  split at hj
  · rename_i c
    rw [if_pos c]
    exact h.2 j v hj
  · cases hj⟩
/-- what the law's book holds -/
structure Lb (C Cc Cb Cf : Addr) (H : Hp) (l b p lf : Addr) (m y o k : Rat) (fs : List (Addr × Fst)) (n : Nat) : Prop where
  bk : Bk C Cc Cb Cf H b p m y o k fs
  dr : Dr H l n
  ls : H lf = some (.lst (fs.map fun q => V.ref q.1))
  g : ∀ q ∈ fs, FsG q.2
  ln : ∀ (j : Nat) q, fs[j]? = some q → q.2.nm.length = j + 1
  ne : lf ≠ l
theorem Lb.same {C Cc Cb Cf l b p lf : Addr} {H H1 : Hp} {m y o k : Rat} {fs : List (Addr × Fst)} {n : Nat} (h : Lb C Cc Cb Cf H l b p lf m y o k fs n) (s : Same H H1) : Lb C Cc Cb Cf H1 l b p lf m y o k fs n := ⟨h.bk.same s, h.dr.same s (Nat.le_refl _), s _ _ h.ls, h.g, h.ln, h.ne⟩
theorem Lb.but {C Cc Cb Cf l b p lf : Addr} {H H1 : Hp} {m y o k : Rat} {fs : List (Addr × Fst)} {n n1 : Nat} (h : Lb C Cc Cb Cf H l b p lf m y o k fs n) (s : But l H H1) (d : Dr H1 l n1) : Lb C Cc Cb Cf H1 l b p lf m y o k fs n1 := ⟨h.bk.noL (NoL.but s h.dr), d, s _ _ h.ne h.ls, h.g, h.ln, h.ne⟩
theorem Lb.nd {C Cc Cb Cf l b p lf : Addr} {H : Hp} {m y o k : Rat} {fs : List (Addr × Fst)} {n : Nat} (h : Lb C Cc Cb Cf H l b p lf m y o k fs n) : ((fs.map (·.2)).map (·.nm)).Nodup := nodup_len fun j x hj => by
  rw [List.getElem?_map, List.getElem?_map] at hj
  cases hq : fs[j]? with
  | none => rw [hq] at hj; cases hj
  | some q =>
    rw [hq] at hj
    cases hj
    exact h.ln j q hq
theorem Lb.gg {C Cc Cb Cf l b p lf : Addr} {H : Hp} {m y o k : Rat} {fs : List (Addr × Fst)} {n : Nat} (h : Lb C Cc Cb Cf H l b p lf m y o k fs n) : ∀ z ∈ fs.map (·.2), FsG z := fun z hz => by
  obtain ⟨q', hq', rfl⟩ := List.mem_map.mp hz
  exact h.g q' hq'
def BtL (l : Addr) (H H1 : Hp) : Prop := ∀ c xs, c ≠ l → H c = some (.lst xs) → H1 c = some (.lst xs)
theorem BtL.trans {l : Addr} {H H1 H2 : Hp} (a : BtL l H H1) (b : BtL l H1 H2) : BtL l H H2 := fun c xs n e => b c xs n (a c xs n e)
theorem BtL.but {l : Addr} {H H1 : Hp} (a : But l H H1) : BtL l H H1 := fun c xs n e => a c _ n e
theorem BtL.same {l : Addr} {H H1 : Hp} (a : Same H H1) : BtL l H H1 := fun c xs _ e => a c _ e
def spR69 : Sp := fun vs H Q _ => ∃ (l : Addr), vs = [.ref l] ∧ Dr H l 0 ∧ ∀ H', BtL l H H' → Q (.bl true) H'
section
variable {P : Program} {w : World} {K : PySem.W.Frag} {mg : Str → Option Value} {base : Heap} {C Cc Cb Cf Cy : Addr}
abbrev TE_l_right1 (_K : PySem.W.Frag) : TE := tVar 16
abbrev TT_l_right1 (K : PySem.W.Frag) : TT := tTest (tOp (rI0 fun i j => .bl (decide (j < i))) (tOp (rIxT K) (tVar 16) (tC (.int 0))) (tVar 11))
abbrev TE_l_right2 (_K : PySem.W.Frag) : TE := tVar 11
abbrev TT_l_right2 (K : PySem.W.Frag) : TT := tTest (tOp rEq (tVar 12) (tFld K (tVar 14) "name"))
set_option maxHeartbeats 32000000 in
theorem ok_lr69 (D : Df K mg "_law_right" s_l_right []) (Tb : FbT K Cb) (Tf : FeT K Cf) (Ty : YrT K C Cc Cy) (f_l_next : Ca P w K mg base CX0 1 "_law_next" s_l_next [] ["_law_draws_here"] spNext) (f_l_four : Ca P w K mg base CX0 4 "_law_four" s_l_four [] ["_law_draws_here"] spFour) (g_range : mg "range" = none) (g_len : mg "len" = none) (f_l_cal : Ca P w K mg base CX0 10 "_law_cal" s_l_cal [] ["_law_draws_here", "_law_four_here"] (spCal C Cc)) (f_Feasts : Ci P w K mg base CX0 1 "Feasts" Cb "Feasts.__init__" s_Feasts_init [] ["self", "calendar"] (spFbI Cb))
    (f_Feast : Ci P w K mg base CX0 1 "Feast" Cf "Feast.__init__" s_Feast_init [.str "plain"] ["self", "name", "number", "day", "when"] (spFeI Cf)) (f_add : Cm P w K mg base CX0 1 Cb "add" "Feasts.add" s_Feasts_add ["self", "feast"] (spFbA C Cc Cb Cf)) (f_Year : Ci P w K mg base CX0 11 "Year" Cy "Year.__init__" s_Year_init [] ["self", "calendar", "number"] (spYrI C Cc Cy))
    (f_in_year : Cm P w K mg base CX0 14 Cb "in_year" "Feasts.in_year" s_Feasts_in_year ["self", "year"] (spInY C Cc Cb Cf)) (f_l_rows : Ca P w K mg base CX0 16 "_law_rows" s_l_rows [] ["_law_book", "_law_first", "_law_many"] (spRws C Cc Cb Cf)) (f_days_in : Cm P w K mg base CX0 1 Cy "days_in" "Year.days_in" s_Year_days_in ["self"] (spYd Cy))
    (f_next_feast : CmD P w K mg base CX0 15 Cb "next_feast" "Feasts.next_feast" s_Feasts_next_feast [.non] ["self", "day", "name"] (spNxf C Cc Cb Cf)) (f_feast_days : Ca P w K mg base CX0 13 "feast_days" s_feast_days [] ["calendar", "feast", "year"] (spFds C Cc Cf)) :
    Ca P w K mg base CX0 17 "_law_right" s_l_right [] ["_law_draws_here"] spR69 := by
  refine ca0 (k := 16) D c_l_right (fun vs H Q E h => ?_) fun f cdv A outer s H vs Q E hr h => ?_
  · obtain ⟨l, rfl, _⟩ := h
    rfl
  · obtain ⟨l, rfl, d0', q⟩ := h
    refine ⟨_, (pss_cons (ps_set (i := 1) c_l_right.nd rfl (.inl rfl) (pe_ca f_l_cal b_l_cal hr (by decide) pass0 rfl (pa_cons (pv 0) (pa_cons (pe_ca f_l_four b_l_four hr (by decide) pass0 rfl (pa_cons (pv 0) pa_nil)) pa_nil))))
      (pss_cons (ps_set (i := 2) c_l_right.nd rfl (.inl rfl) (pe_ciN f_Feasts b_Feasts_init hr (by decide) pass0 rfl (pa_cons (pv 1) pa_nil)))
      (pss_cons (ps_set (i := 3) c_l_right.nd rfl (.inl rfl) (pe_lst pa_nil))
      (C8.pss_cut (ps_for PassesOwn.never rfl (pi_range1 rfl g_range (pa_cons (pe_op op_add pe_int (pe_op op_mod (pe_ca f_l_next b_l_next hr (by decide) pass0 rfl (pa_cons (pv 0) pa_nil)) pe_int)) pa_nil)) (pg_name (i := 4) c_l_right.nd rfl (.inl rfl)) (pss_cons (ps_set (i := 5) c_l_right.nd rfl (.inl rfl) (pe_ca f_l_next b_l_next hr (by decide) pass0 rfl (pa_cons (pv 0) pa_nil)))
      (pss_cons (ps_set (i := 6) c_l_right.nd rfl (.inl rfl) (pe_ix ix_list (pe_lst (pa_cons pe_str (pa_cons pe_str (pa_cons pe_str pa_nil)))) (pe_op op_mod (pv 5) pe_int) (fun _ _ => rfl)))
      (pss_cons (ps_set (i := 7) c_l_right.nd rfl (.inl rfl) (pe_op op_mulR (pe_ix ix_str pe_str (pe_op op_mod (pe_op op_add (pe_op op_mulA pe_int (pv 4)) (pv 5)) pe_int) (fun _ _ => rfl)) (pe_op op_add (pv 4) pe_int)))
      (pss_cons (ps_expr (pe_bm PySem.F.plainAttrs_list PySem.F.slot_list_append PySem.F.type_list_append mt_append (pv 3) (pa_cons (pe_ciK f_Feast kb_Feast_3_when (by decide) hr (by decide) pass0 rfl (pa_cons (pv 7) (pa_cons (pe_op op_add pe_int (pe_op op_mod (pe_op op_fdiv (pv 5) pe_int) pe_int)) (pa_cons (pe_op op_add pe_int (pe_op op_mod (pe_op op_fdiv (pv 5) pe_int) pe_int)) pa_nil))) (pk_cons (pv 6) pk_nil)) pa_nil)))
      (pss_one (ps_expr (pe_cm f_add b_Feasts_add hr (by decide) pass0 (pv 2) (pa_cons (pe_ix ix_list (pv 3) (pv 4) (fun _ _ => rfl)) pa_nil)))))))))
      (pss_cons (ps_set (i := 5) c_l_right.nd rfl (.inl rfl) (pe_ca f_l_next b_l_next hr (by decide) pass0 rfl (pa_cons (pv 0) pa_nil)))
      (pss_cons (ps_set (i := 8) c_l_right.nd rfl (.inl rfl) (pe_ix ix_list (pe_lst (pa_cons (pe_op op_sub (pe_op op_mod (pe_op op_fdiv (pv 5) pe_int) pe_int) pe_int) (pa_cons (pe_op op_mod (pe_op op_fdiv (pv 5) pe_int) pe_int) (pa_cons (pe_op op_sub pe_int (pe_op op_fdiv (pv 5) pe_int)) (pa_cons (pe_op op_add (pe_op op_pow pe_int pe_int) (pv 5)) pa_nil))))) (pe_op op_mod (pv 5) pe_int) (fun _ _ => rfl)))
      (pss_cons (ps_set (i := 9) c_l_right.nd rfl (.inl rfl) (pe_ciN f_Year b_Year_init hr (by decide) pass0 rfl (pa_cons (pv 1) (pa_cons (pv 8) pa_nil))))
      (pss_cons (ps_set (i := 10) c_l_right.nd rfl (.inl rfl) (pe_cm f_in_year b_Feasts_in_year hr (by decide) pass0 (pv 2) (pa_cons (pv 8) pa_nil)))
      (pss_cons (ps_if (pt_cmpR (op_neD hr.units) (pv 10) (pe_ca f_l_rows b_l_rows hr (by decide) pass0 rfl (pa_cons (pv 2) (pa_cons (pe_fld (pv 9) rfl) (pa_cons (pe_cm0 f_days_in b_Year_days_in hr (by decide) pass0 (pv 9)) pa_nil)))) (nomark _)) (pss_one (ps_ret pe_bl)) pss_nil)
      (pss_cons (ps_for PassesOwn.never rfl (pi_list (pv 10)) (pg_tup rfl (pgs_cons (pg_name (i := 11) c_l_right.nd rfl (.inr rfl)) (pgs_cons (pg_name (i := 12) c_l_right.nd rfl (.inl rfl)) pgs_nil))) (pss_cons (ps_set (i := 13) c_l_right.nd rfl (.inl rfl) (pe_op op_cat (pe_lc (own := [("_law_row", 16)]) (g := gName 16) (tt := TT_l_right1 K) (te := TE_l_right1 K) rfl c_l_right.nd (pi_list (pv 10)) (blkOk_by (N := ["_law_draws_here", "_law_calendar", "_law_book", "_law_feasts", "_law_k", "_law_pick", "_law_a_when", "_law_called", "_law_number", "_law_a_year", "_law_rows_here", "_law_day", "_law_name", "_law_more", "_law_feast", "_law_days", "_law_row"]) (sc := defScope s_l_right) (by decide +kernel)) (fun _ _ _ _ _ => (pg_name (i := 16) c_l_right.nd rfl (.inl rfl))) (fun _ _ _ _ _ => by exact pts_one (pt_cmpR op_gt (pe_ix ix_tup (pv 16) pe_int (fun _ _ => rfl)) (pv 11) (nomark _))) (fun _ _ _ _ _ => by exact (pv 16))) (pe_slice sl_list (pe_cm f_in_year b_Feasts_in_year hr (by decide) pass0 (pv 2) (pa_cons (pe_op op_add (pv 8) pe_int) pa_nil)) po_none (po_some pe_int))))
      (pss_one (ps_if (pt_cmpR (op_neD hr.units) (pe_cmD f_next_feast bd_next_feast2 (by decide) rfl hr (by decide) pass0 (pv 2) (pa_cons (pe_op op_add (pv 11) pe_int) pa_nil)) (pe_ix ix_list (pv 13) pe_int (fun _ _ => rfl)) (nomark _)) (pss_one (ps_ret pe_bl)) pss_nil))))
      (pss_cons (ps_for PassesOwn.never rfl (pi_list (pv 3)) (pg_name (i := 14) c_l_right.nd rfl (.inr rfl)) (pss_cons (ps_setLc (i := 15) (own := [("_law_day", 11), ("_law_name", 12)]) (g := gTup K 2 (gCons (gName 11) (gCons (gName 12) gNil))) (tt := TT_l_right2 K) (te := TE_l_right2 K) rfl c_l_right.nd rfl rfl (sw_true rfl rfl rfl (by decide +kernel)) (pi_list (pv 10)) (blkOk_by (N := ["_law_draws_here", "_law_calendar", "_law_book", "_law_feasts", "_law_k", "_law_pick", "_law_a_when", "_law_called", "_law_number", "_law_a_year", "_law_rows_here", "_law_day", "_law_name", "_law_more", "_law_feast", "_law_days", "_law_row"]) (sc := defScope s_l_right) (by decide +kernel)) (fun _ _ _ _ _ => (pg_tup rfl (pgs_cons (pg_name (i := 11) c_l_right.nd rfl (.inl rfl)) (pgs_cons (pg_name (i := 12) c_l_right.nd rfl (.inl rfl)) pgs_nil)))) (fun _ _ _ _ _ => by exact pts_one (pt_cmpR op_eq (pv 12) (pe_fld (pv 14) rfl) (nomark _))) (fun _ _ _ _ _ => by exact (pv 11)))
      (pss_cons (ps_if (PW.pt (pw_or (pt_cmpR (op_neD hr.units) (pv 15) (pe_ca f_feast_days b_feast_days hr (by decide) pass0 rfl (pa_cons (pv 1) (pa_cons (pv 14) (pa_cons (pv 8) pa_nil)))) (nomark _)) (pw_or1 (pt_cmpR op_gt (pe_callB call_len_seq rfl g_len (by decide +kernel) (pa_cons (pv 15) pa_nil)) pe_int (nomark _))))) (pss_one (ps_ret pe_bl)) pss_nil)
      (pss_one (ps_if (pt_cmpR (op_neD hr.units) (pe_cmD f_next_feast bd_next_feast3 (by decide) rfl hr (by decide) pass0 (pv 2) (pa_cons (pe_fld (pv 9) rfl) (pa_cons (pe_fld (pv 14) rfl) pa_nil))) (pe_tup (pa_cons (pe_ix ix_list (pv 15) pe_int (fun _ _ => rfl)) (pa_cons (pe_fld (pv 14) rfl) pa_nil))) (nomark _)) (pss_one (ps_ret pe_bl)) pss_nil)))))
      (pss_one (ps_ret pe_bl))))))))))))), ?_⟩
    refine ⟨_, rfl, _, rfl, l, 0, rfl, d0', by decide, fun r H1 m y o k g b1 d1 fo => ?_⟩
    refine ⟨l, r, _, m, y, o, k, rfl, d1, by decide, fo, g, fun p H2 b2 d2 pr => ?_⟩
    have b02 := b1.trans b2
    refine ⟨_, rfl, made_fb fun b dxb dd H3 nb s3 eb ed => ?_⟩
    have d3 := d2.same s3 (Nat.le_refl _)
    have hbk : Bk C Cc Cb Cf H3 b p m y o k [] := ⟨⟨dxb, dd, eb, ed⟩, pr.cl.same s3, g, fun q hq => (by cases hq), fun q hq => (by cases hq), by decide⟩
    refine ⟨(by show 0 ≤ sizeLine; decide), fun lf nlf => ?_⟩
    have s4 := Same.new (o := .lst []) nlf
    have nel : lf ≠ l := ne_of_none' d3 nlf
    have nlH : H lf = none := by
      cases h : H lf with
      | none => rfl
      | some o' =>
        have := s3 _ _ (b02 _ _ nel h)
        rw [nlf] at this
        cases this
    have hL : Lb C Cc Cb Cf (L2.upd H3 lf (.lst [])) l b p lf m y o k [] 30 := ⟨hbk.same s4, (d3.same s4 (Nat.le_refl _)).mono (by decide), upd_same, fun q hq => (by cases hq), fun j q hq => (by simp at hq), nel⟩
    have bl : BtL l H (L2.upd H3 lf (.lst [])) := (BtL.but b02).trans (BtL.same (s3.trans s4))
    generalize L2.upd H3 lf (.lst []) = H4 at *
    clear b1 b2 b02 d0' d1 d2 d3 s3 s4 eb ed nb nlf hbk pr fo
    refine ⟨fun σ' H' => ∃ (fs : List (Addr × Fst)) (n : Nat) (v4 v5 v6 v7 : Option V), σ' = [some (.ref l), some (.ref p), some (.ref b), some (.ref lf), v4, v5, v6, v7, none, none, none, none, none, none, none, none, none] ∧ Lb C Cc Cb Cf H' l b p lf m y o k fs n ∧ n ≤ 100 ∧ fs ≠ [] ∧ BtL l H H', ?_, ?_⟩
    · refine ⟨_, rfl, l, _, rfl, hL.dr, by decide, fun v H5 v0 v1 b5 d5 => ?_⟩
      have hL5 := hL.but b5 d5
      have bl5 := bl.trans (BtL.but b5)
      have w0 := Int.emod_nonneg v (show (4 : Int) ≠ 0 by decide)
      have w1 := Int.emod_lt_of_pos v (show (0 : Int) < 4 by decide)
      refine ⟨_, _, rfl, rfl, md, _, _, rfl, rfl, _, rfl, by omega, by omega, ?_⟩
      generalize hN : (1 + v % 4).toNat = N
      refine for_range (n := N) (fun j σ Hx => ∃ (fs : List (Addr × Fst)) (v4 v5 v6 v7 : Option V), σ = [some (.ref l), some (.ref p), some (.ref b), some (.ref lf), v4, v5, v6, v7, none, none, none, none, none, none, none, none, none] ∧ Lb C Cc Cb Cf Hx l b p lf m y o k fs (31 + j) ∧ fs.length = j ∧ BtL l H Hx) ⟨[], _, _, _, _, rfl, hL5, rfl, bl5⟩ ?_ ?_
      · rintro j σ Hx hj ⟨fs, v4, v5, v6, v7, rfl, hx, hlen, blx⟩
        refine ⟨_, rfl, l, _, rfl, hx.dr, by omega, fun u Ha u0 u1 ba da => ?_⟩
        have ha := hx.but ba da
        have bla := blx.trans (BtL.but ba)
        refine ⟨(by show 3 ≤ sizeLine; decide), fun pw npw => ?_⟩
        obtain ⟨w', hw'⟩ : ∃ w' : Str, atI [V.str "plain", V.str "odd", V.str "both"] (u % 3) = some (.str w') := by
          have h0 := Int.emod_nonneg u (show (3 : Int) ≠ 0 by decide)
          have h1 := Int.emod_lt_of_pos u (show (0 : Int) < 3 by decide)
          have h : u % 3 = 0 ∨ u % 3 = 1 ∨ u % 3 = 2 := by omega
          rcases h with e | e | e <;> rw [e] <;> exact ⟨_, rfl⟩
        have sw := Same.new (o := .lst [V.str "plain", V.str "odd", V.str "both"]) npw
        have ew := upd_same (H := Ha) (a := pw) (o := .lst [V.str "plain", V.str "odd", V.str "both"])
        have hb := ha.same sw
        have blb := bla.trans (BtL.same sw)
        generalize L2.upd Ha pw (.lst [V.str "plain", V.str "odd", V.str "both"]) = Hb at *
        refine ⟨_, rfl, _, _, rfl, rfl, md, pw, _, _, .str w', rfl, rfl, SqL.of ew, hw', ?_⟩
        obtain ⟨c, hc, hc128⟩ := abc_at (5 * (0 + (j : Int)) + u)
        refine ⟨_, rfl, _, _, rfl, rfl, ⟨(szi (n := 4) 5).mono (by decide), ?_⟩, _, rfl, _, _, rfl, rfl, _, _, rfl, rfl, md, _, _, c, rfl, rfl, ?_, hc, ?_⟩
        · exact (by rw [Int.zero_add]; exact znat (n := 20) j (by omega) (by decide) : Sz 20 (0 + (j : Int))).mono (by decide)
        · exact Nat.le_of_ble_eq_true (by decide +kernel)
        refine ⟨_, rfl, _, _, rfl, rfl, ⟨#[c]⟩, j + 1, rfl, (by show V.int _ = V.int _; congr 1; omega), by omega, (by show 1 ≤ 1000; decide), ?_⟩
        have hnm : (rpS ⟨#[c]⟩ (j + 1)).length = j + 1 := by
          rw [rp_len]
          show (j + 1) * 1 = j + 1
          omega
        have hok : PyData.strOk (rpS ⟨#[c]⟩ (j + 1)) = true := rp_all (by show (#[c] : Array Nat).all (· < 0x110000) = true; simp; omega) _
        generalize rpS ⟨#[c]⟩ (j + 1) = nm at *
        have m1 := Int.emod_nonneg (u / 3) (show (12 : Int) ≠ 0 by decide)
        have m2 := Int.emod_lt_of_pos (u / 3) (show (0 : Int) < 12 by decide)
        have m3 := Int.emod_nonneg (u / 36) (show (31 : Int) ≠ 0 by decide)
        refine ⟨_, rfl, .inl ⟨rfl, _, SqL.of hb.ls⟩, _, rfl, _, rfl, _, _, rfl, rfl, ⟨by decide, by decide⟩, _, _, rfl, rfl, md, _, _, rfl, rfl, _, rfl, _, _, rfl, rfl, ⟨by decide, by decide⟩, _, _, rfl, rfl, md, _, _, rfl, rfl, _, rfl, rfl, rfl, made_fe fun pf dxf Hc npf sc ef => ?_⟩
        have ef : Hc pf = some (.ins Cf dxf (ffs (.str nm) (.int (1 + u / 3 % 12)) (.int (1 + u / 36 % 31)) (.str w'))) := ef
        have hcc := hb.same sc
        have blc := blb.trans (BtL.same sc)
        have lfl : (fs.map fun q => V.ref q.1).length = j := by rw [List.length_map, hlen]
        refine ⟨lf, _, _, rfl, rfl, hcc.ls, by rw [lfl]; exact Nat.lt_of_lt_of_le (show j < 10 by omega) (by decide), ?_⟩
        have nd := NoL.upd (ys := (fs.map fun q => V.ref q.1) ++ [V.ref pf]) hcc.ls
        have bkd := hcc.bk.noL nd
        have drd : Dr (L2.upd Hc lf (.lst ((fs.map fun q => V.ref q.1) ++ [V.ref pf]))) l (31 + j + 1) := hcc.dr.kp fun xs e => (upd_ne (Ne.symm nel)).trans e
        have efd := nd _ _ (by intro _ z; cases z) ef
        have eld := upd_same (H := Hc) (a := lf) (o := .lst ((fs.map fun q => V.ref q.1) ++ [V.ref pf]))
        have bld : BtL l H (L2.upd Hc lf (.lst ((fs.map fun q => V.ref q.1) ++ [V.ref pf]))) := fun c xs n e => (upd_ne (ne_of_none e nlH)).trans (blc c xs n e)
        generalize L2.upd Hc lf (.lst ((fs.map fun q => V.ref q.1) ++ [V.ref pf])) = Hd at *
        obtain ⟨dxq, dq, ebq, edq⟩ := bkd.ob
        have hat : atI ((fs.map fun q => V.ref q.1) ++ [V.ref pf]) (0 + (j : Int)) = some (V.ref pf) := by
          rw [Int.zero_add]
          refine atI_nat ?_
          rw [List.getElem?_append_right (by omega), lfl, Nat.sub_self]
          rfl
        have zsz : Sz 900 (1 + u / 3 % 12) := (Sz.of (n := 5) (by omega) (by omega)).mono (by decide)
        refine ⟨_, rfl, b, dxq, _, rfl, ebq, fb_no _ _ (by decide +kernel) (by decide +kernel), _, rfl, _, rfl, lf, _, _, _, rfl, rfl, SqL.of eld, hat, b, p, pf, m, y, o, k, fs, ⟨nm, 1 + u / 3 % 12, 1 + u / 36 % 31, w'⟩, rfl, bkd, ⟨dxf, efd⟩, zsz, by omega, fun q' hq' e => ?_, fun He ke bke => ?_⟩
        · obtain ⟨i', hi'⟩ := List.getElem?_of_mem hq'
          have h1 := hcc.ln i' q' hi'
          have h2 := (List.getElem?_eq_some_iff.mp hi').1
          rw [e] at h1
          have h3 : nm.length = i' + 1 := h1
          omega
        · refine ⟨fs ++ [(pf, ⟨nm, 1 + u / 3 % 12, 1 + u / 36 % 31, w'⟩)], _, _, _, _, rfl, ⟨bke, (drd.kp fun xs e => ke _ _ (by intro _ z; cases z) e).mono (by omega), ?_, fun q' hq' => ?_, fun i' q' hi' => ?_, nel⟩, by rw [List.length_append, hlen]; rfl, fun c xs n e => ke _ _ (by intro _ z; cases z) (bld c xs n e)⟩
          · rw [ke _ _ (by intro _ z; cases z) eld, List.map_append]
            rfl
          · rcases List.mem_append.mp hq' with hq' | hq'
            · exact hcc.g q' hq'
            · rw [List.mem_singleton.mp hq']
              exact ⟨by show 1 ≤ 1 + u / 3 % 12; omega, by show 1 + u / 3 % 12 ≤ 12; omega, by show 1 ≤ 1 + u / 36 % 31; omega, hok⟩
          · by_cases c' : i' < fs.length
            · rw [List.getElem?_append_left c'] at hi'
              exact hcc.ln i' q' hi'
            · have h2 := (List.getElem?_eq_some_iff.mp hi').1
              rw [List.length_append, List.length_cons, List.length_nil] at h2
              have ei : i' = fs.length := by omega
              subst ei
              rw [List.getElem?_append_right (Nat.le_refl _), Nat.sub_self] at hi'
              cases hi'
              show nm.length = _
              omega
      · rintro σ Hx ⟨fs, v4, v5, v6, v7, rfl, hx, hlen, blx⟩
        exact ⟨fs, _, v4, v5, v6, v7, rfl, hx, by omega, fun e => (by rw [e] at hlen; simp at hlen; omega), blx⟩
    · rintro σ' H5 ⟨fs, n, v4, v5, v6, v7, rfl, hx, hn, hne, bl5⟩
      clear hL bl
      have F := g.fit
      refine ⟨_, rfl, l, _, rfl, hx.dr, by omega, fun u H6 u0 u1 b6 d6 => ?_⟩
      have hx6 := hx.but b6 d6
      have bl6 := bl5.trans (BtL.but b6)
      obtain ⟨nr, hnr, znr⟩ : ∃ nr : Int, atI [V.int (u / 4 % 60 - 30), V.int (u / 4 % 3000), V.int (0 - u / 4), V.int ((10 : Int) ^ (15 : Int).toNat + u)] (u % 4) = some (.int nr) ∧ Sz 70 nr := by
        have h0 := Int.emod_nonneg u (show (4 : Int) ≠ 0 by decide)
        have h1 := Int.emod_lt_of_pos u (show (0 : Int) < 4 by decide)
        have m1 := Int.emod_nonneg (u / 4) (show (60 : Int) ≠ 0 by decide)
        have m2 := Int.emod_lt_of_pos (u / 4) (show (0 : Int) < 60 by decide)
        have m3 := Int.emod_nonneg (u / 4) (show (3000 : Int) ≠ 0 by decide)
        have m4 := Int.emod_lt_of_pos (u / 4) (show (0 : Int) < 3000 by decide)
        have e15 : (10 : Int) ^ (15 : Int).toNat = 1000000000000000 := by decide
        have h : u % 4 = 0 ∨ u % 4 = 1 ∨ u % 4 = 2 ∨ u % 4 = 3 := by omega
        rw [e15]
        rcases h with e | e | e | e <;> rw [e]
        · exact ⟨_, rfl, (Sz.of (n := 60) (by omega) (by omega)).mono (by decide)⟩
        · exact ⟨_, rfl, (Sz.of (n := 60) (by omega) (by omega)).mono (by decide)⟩
        · exact ⟨_, rfl, (Sz.of (n := 60) (by omega) (by omega)).mono (by decide)⟩
        · exact ⟨_, rfl, (Sz.of (n := 60) (by omega) (by omega)).mono (by decide)⟩
      refine ⟨_, rfl, _, _, rfl, rfl, ⟨by decide, by decide⟩, _, _, rfl, rfl, md, _, _, rfl, rfl, _, rfl, _, _, rfl, rfl, ⟨by decide, by decide⟩, _, _, rfl, rfl, md, _, rfl, _, _, rfl, rfl, ⟨by decide, by decide⟩, _, _, rfl, rfl, _, _, rfl, rfl, ⟨by decide, by decide, by decide⟩, _, rfl, _, _, rfl, rfl, (by show 4 ≤ sizeLine; decide), fun pn npn => ?_⟩
      refine ⟨_, rfl, _, _, rfl, rfl, md, pn, _, _, .int nr, rfl, rfl, SqL.of upd_same, hnr, ?_⟩
      have s7 := Same.new (o := .lst [V.int (u / 4 % 60 - 30), V.int (u / 4 % 3000), V.int (0 - u / 4), V.int ((10 : Int) ^ (15 : Int).toNat + u)]) npn
      have hx7 := hx6.same s7
      have bl7 := bl6.trans (BtL.same s7)
      clear hnr
      change (fun HC : Hp => _) (L2.upd H6 pn (.lst [V.int (u / 4 % 60 - 30), V.int (u / 4 % 3000), V.int (0 - u / 4), V.int ((10 : Int) ^ (15 : Int).toNat + u)]))
      generalize L2.upd H6 pn (.lst [V.int (u / 4 % 60 - 30), V.int (u / 4 % 3000), V.int (0 - u / 4), V.int ((10 : Int) ^ (15 : Int).toNat + u)]) = H7 at *
      have hgg := hx7.gg
      have hnd := hx7.nd
      have hfne : fs.map (·.2) ≠ [] := fun e => hne (List.map_eq_nil_iff.mp e)
      have zf1 : Sz 590 (fdF m y o k nr) := g.zfd (n := 78) (znr.mono (by decide)) (by decide) (by decide)
      have zf2 : Sz 590 (fdF m y o k (nr + 1)) := g.zfd (n := 78) (zadd znr 1 (l := 78)) (by decide) (by decide)
      refine ⟨_, rfl, _, rfl, made_yr hx7.bk.c g (znr.mono (by decide)) fun yq D1 D2 usy H8 n8 s8 _ _ _ yd => ?_⟩
      have hx8 := hx7.same s8
      have bl8 := bl7.trans (BtL.same s8)
      obtain ⟨dxb, db, eb, edb⟩ := hx8.bk.ob
      refine ⟨_, rfl, b, dxb, _, rfl, eb, fb_no _ _ (by decide +kernel) (by decide +kernel), _, rfl, b, p, nr, m, y, o, k, fs, rfl, hx8.bk, znr.mono (by decide), fun rr usr H9 nrr s9 err dur => ?_⟩
      have hx9 := hx8.same s9
      have bl9 := bl8.trans (BtL.same s9)
      have yd9 := yd.same s9
      obtain ⟨dxy, ey⟩ := yd9.yr
      have eb9 := s9 _ _ eb
      have hsum : (ylL m y o k nr).sum = fdF m y o k (nr + 1) - fdF m y o k nr := by
        have hy := (yN_fact g nr).1
        unfold ylL
        rw [stp_sum]
        rw [fd_st, fd_st, show mwF m y o k (12 * nr) + ((yN m y o k nr : Nat) : Int) = mwF m y o k (12 * (nr + 1)) by rw [show 12 * (nr + 1) = 12 * nr + 12 by omega]; omega, show mwF m y o k (12 * nr) + ((0 : Nat) : Int) = mwF m y o k (12 * nr) by omega]
      obtain ⟨N, hN⟩ : ∃ N : Nat, (ylL m y o k nr).sum = (N : Int) := ⟨_, (Int.toNat_of_nonneg (by rw [hsum]; have := fd_lt (o := o) (k := k) F nr; omega)).symm⟩
      refine ⟨_, rfl, _, rfl, _, rfl, yq, Cy, dxy, _, _, rfl, ey, Ty.cl, Ty.n2, yf_first _ _ _ _ _, _, rfl, yq, dxy, _, rfl, ey, yf_no _ _ _ _ _, yq, _, _, D1, D2, _, _, rfl, ⟨dxy, ey⟩, yd9.e2, ?_⟩
      rw [hN]
      refine ⟨b, p, nr, N, m, y, o, k, fs, rfl, hx9.bk, hx9.g, by omega, zf1.mono (by decide), zf2.mono (by decide), fun r2 us2 H10 s10 er2 du2 => ?_⟩
      have hok := inY_ok (m := m) (y := y) (o := o) (k := k) (a := nr) hgg
      have err10 := s10 _ _ err
      have dur10 := dur.same fun t xs e => s10 _ _ e
      refine ⟨_, _, .lst (SqL.of err10) (duos_dps dur10), .lst (SqL.of er2) (duos_dps du2), sh_rows hok, sh_rows hok, _, rfl, no' (by rw [eqv_rowsD hok]; rfl) ?_⟩
      have hx10 := hx9.same s10
      have bl10 := bl9.trans (BtL.same s10)
      have yd10 := yd9.same s10
      have eb10 := s10 _ _ eb9
      clear s8 s9 s10 hx7 hx8 hx9 bl7 bl8 bl9 yd yd9 ey eb eb9 er2 du2 err dur
      obtain ⟨dxy2, ey10⟩ := yd10.yr
      have lnr : usr.length ≤ 100 := by
        rw [← dur10.1]
        have h1 := inY_len m y o k nr (fs.map (·.2))
        have h2 := hx10.bk.z
        rw [List.length_map] at h1
        omega
      refine ⟨_, rfl, rr, rfl, ⟨_, SqL.of err10⟩, for_list (K := K) (a := rr) (xs := usr) (fun i σ Hx => ∃ v4 v5 v6 v7 v11 v12 v13 : Option V, σ = [some (.ref l), some (.ref p), some (.ref b), some (.ref lf), v4, v5, v6, v7, some (.int nr), some (.ref yq), some (.ref rr), v11, v12, v13, none, none, none] ∧ Same H10 Hx) ⟨_, _, _, _, _, _, _, rfl, Same.refl _⟩ (fun i σ Hx _ ⟨_, _, _, _, _, _, _, _, s⟩ => SqL.of (s _ _ err10)) ?_ ?_⟩
      · rintro i v σ Hx hi ⟨v4', v5', v6', v7', v11, v12, v13, rfl, sx⟩
        obtain ⟨z, ez, t, rfl, et⟩ := dur10.2 i v hi
        have hzm := List.mem_of_getElem? ez
        obtain ⟨zd1, zd2⟩ := inY_in F hgg z hzm
        have zsz : Sz 591 z.1 := by
          unfold Sz at *
          omega
        refine ⟨t, _, rfl, SqT.of (sx _ _ et), rfl, _, _, rfl, _, _, rfl, rfl, ?_⟩
        refine ⟨_, rfl, rr, rfl, ⟨_, SqL.of (sx _ _ err10)⟩, fun D nD => ?_⟩
        refine lc_fltV (walk_list (K := K) (a := rr) (xs := usr)) yAt_same nD (Nat.lt_of_le_of_lt lnr (by decide)) (fun i => usr.getD i .non) (fun i => (fun r : Int × Str => decide (z.1 < r.1)) ((inY m y o k nr (fs.map (·.2))).getD i d0)) (fun H' s' => SqL.of (s' _ _ (sx _ _ err10))) ?_ ?_
        · rintro i2 v2 Ha Hb R N2 hi2 sa ⟨rfl, hv⟩ kT kF
          obtain ⟨zz, ezz, t2, rfl, et2⟩ := dur10.2 i2 v2 hv
          rw [getD_at ezz] at kT kF
          rw [getD_at hv] at kT
          refine ⟨rfl, ?_⟩
          refine ⟨_, rfl, t2, _, _, _, rfl, rfl, SqT.of (sa _ _ (sx _ _ et2)), rfl, _, rfl, _, _, rfl, rfl, _, rfl, ?_⟩
          by_cases c1 : z.1 < zz.1
          · rw [decide_eq_true c1]
            exact iteT ⟨_, rfl, kT (decide_eq_true c1) _ (Same.refl _)⟩
          · rw [decide_eq_false c1]
            exact iteF (kF (decide_eq_false c1) _ (Same.refl _))
        · intro Ha e1 sa
          have sxa := sx.trans sa
          have du1 := (dur10.filter (fun r : Int × Str => decide (z.1 < r.1))).same fun t xs e => sxa _ _ e
          refine ⟨_, rfl, b, dxb, _, rfl, sxa _ _ eb10, fb_no _ _ (by decide +kernel) (by decide +kernel), _, rfl, _, _, rfl, rfl, b, p, nr + 1, m, y, o, k, fs, rfl, hx10.bk.same sxa, (zadd znr 1 (l := 78)).mono (by decide), fun r3 us3 Hb nr3 sb er3 du3 => ?_⟩
          dsimp only [tNoPart]
          refine ⟨_, rfl, r3, _, rfl, SqL.of er3, fun pS nS => ?_⟩
          rw [cut1]
          have sS := Same.new (o := .lst (us3.take 1)) nS
          have eS := upd_same (H := Hb) (a := pS) (o := .lst (us3.take 1))
          have du3' := (du3.take 1).same fun t xs e => sS _ _ e
          have sbS := sb.trans sS
          have du1' := du1.same fun t xs e => sbS _ _ e
          have e1' := sbS _ _ e1
          have sxb := sxa.trans sbS
          generalize L2.upd Hb pS (.lst (us3.take 1)) = Hc at *
          have l1 := du1'.1
          have l1' : ((inY m y o k nr (fs.map (·.2))).filter fun r : Int × Str => decide (z.1 < r.1)).length ≤ 100 := Nat.le_trans (List.length_filter_le _ _) (by rw [dur10.1]; exact lnr)
          have l2 : (us3.take 1).length ≤ 1 := by
            rw [List.length_take]
            omega
          have lA : ((((List.range usr.length).filter fun i => (fun r : Int × Str => decide (z.1 < r.1)) ((inY m y o k nr (fs.map (·.2))).getD i d0)).map fun i => usr.getD i .non)).length ≤ 100 := by
            rw [List.length_map]
            refine Nat.le_trans (List.length_filter_le _ _) ?_
            rw [List.length_range]
            exact lnr
          refine ⟨D, pS, _, _, rfl, rfl, e1', eS, Nat.le_trans (Nat.add_le_add lA l2) (by decide), fun r4 nr4 => ?_⟩
          have s4 := Same.new (o := .lst ((((List.range usr.length).filter fun i => (fun r : Int × Str => decide (z.1 < r.1)) ((inY m y o k nr (fs.map (·.2))).getD i d0)).map fun i => usr.getD i .non) ++ us3.take 1)) nr4
          have e4 := upd_same (H := Hc) (a := r4) (o := .lst ((((List.range usr.length).filter fun i => (fun r : Int × Str => decide (z.1 < r.1)) ((inY m y o k nr (fs.map (·.2))).getD i d0)).map fun i => usr.getD i .non) ++ us3.take 1))
          have du4 := (du1'.append du3').same fun t xs e => s4 _ _ e
          have sxd := sxb.trans s4
          generalize L2.upd Hc r4 _ = Hd at *
          obtain ⟨z0, zs0, ys0, enx, emo⟩ := nx_more (o := o) (k := k) F hgg hfne zd1 zd2
          refine ⟨_, rfl, b, dxb, _, rfl, sxd _ _ eb10, fb_no _ _ (by decide +kernel) (by decide +kernel), _, rfl, _, _, rfl, rfl, b, p, z.1 + 1, none, m, y, o, k, fs, rfl, hx10.bk.same sxd, zadd zsz 1, (fun s e => by cases e), z0, zs0, enx, fun tn He se dn => ?_⟩
          rw [nx_sorted F hgg enx] at dn
          rw [emo] at du4
          obtain ⟨v0, hv0, dv0⟩ := du4.get (j := 0) (x := z0) rfl
          have hok0 : PyData.strOk z0.2 = true := by
            have hm : z0 ∈ nxL m y o k (z.1 + 1) none (fs.map (·.2)) := by
              rw [enx]
              exact List.mem_cons_self
            rcases List.mem_append.mp (List.mem_filter.mp hm).1 with h | h
            · exact inY_ok hgg z0 h
            · exact inY_ok hgg z0 h
          refine ⟨_, rfl, r4, _, _, v0, rfl, rfl, SqL.of (se _ _ e4), atI_nat (j := 0) hv0, _, _, duo_dp dn, duo_dp (dv0.same fun t xs e => se _ _ e), sh_row hok0, sh_row hok0, _, rfl, no' (by rw [eqv_rowD hok0]; rfl) ?_⟩
          exact ⟨_, _, _, _, _, _, _, rfl, sxd.trans se⟩
      · rintro σ Hx ⟨v4', v5', v6', v7', v11, v12, v13, rfl, sx⟩
        have hx11 := hx10.same sx
        have bl11 := bl10.trans (BtL.same sx)
        have err11 := sx _ _ err10
        have dur11 := dur10.same fun t xs e => sx _ _ e
        have eb11 := sx _ _ eb10
        have ey11 := sx _ _ ey10
        clear sx hx10 bl10 err10 dur10 eb10 ey10
        refine ⟨_, rfl, lf, rfl, ⟨_, SqL.of hx11.ls⟩, for_list (K := K) (a := lf) (xs := fs.map fun q => V.ref q.1) (fun i σ Hy => ∃ v4 v5 v6 v7 v11 v12 v13 v14 v15 v16 : Option V, σ = [some (.ref l), some (.ref p), some (.ref b), some (.ref lf), v4, v5, v6, v7, some (.int nr), some (.ref yq), some (.ref rr), v11, v12, v13, v14, v15, v16] ∧ Same Hx Hy) ⟨_, _, _, _, _, _, _, _, _, _, rfl, Same.refl _⟩ (fun i σ Hy _ ⟨_, _, _, _, _, _, _, _, _, _, _, s⟩ => SqL.of (s _ _ hx11.ls)) ?_ ?_⟩
        · rintro i v σ Hy hi ⟨w4, w5, w6, w7, w11, w12, w13, w14, w15, w16, rfl, sy⟩
          rw [List.getElem?_map] at hi
          cases hq : fs[i]? with
          | none => rw [hq] at hi; cases hi
          | some q0 =>
          rw [hq] at hi
          obtain rfl : v = V.ref q0.1 := (Option.some.inj hi).symm
          have hqm := List.mem_of_getElem? hq
          have hgq := hx11.g q0 hqm
          have hqm2 : q0.2 ∈ fs.map (·.2) := List.mem_map.mpr ⟨q0, hqm, rfl⟩
          obtain ⟨dxf, ef⟩ := hx11.bk.fe q0 hqm
          have ef := sy _ _ ef
          refine ⟨_, rfl, rr, rfl, ⟨_, SqL.of (sy _ _ err11)⟩, fun D nD => ?_⟩
          refine lc_fltV (walk_list (K := K) (a := rr) (xs := usr)) yAt_same nD (Nat.lt_of_le_of_lt lnr (by decide)) (fun i => V.int ((inY m y o k nr (fs.map (·.2))).getD i d0).1) (fun i => (fun r : Int × Str => decide (r.2 = q0.2.nm)) ((inY m y o k nr (fs.map (·.2))).getD i d0)) (fun H' s' => SqL.of (s' _ _ (sy _ _ err11))) ?_ ?_
          · rintro i2 v2 Ha Hb R N2 hi2 sa ⟨rfl, hv⟩ kT kF
            obtain ⟨zz, ezz, t2, rfl, et2⟩ := dur11.2 i2 v2 hv
            rw [getD_at ezz] at kT kF
            refine ⟨t2, _, rfl, SqT.of (sa _ _ (sy _ _ et2)), rfl, _, _, rfl, _, _, rfl, rfl, ?_⟩
            refine ⟨rfl, ?_⟩
            refine ⟨_, rfl, _, rfl, q0.1, Cf, dxf, _, _, rfl, sa _ _ ef, Tf.cl, Tf.n1, ff_name _ _ _ _, rfl, _, rfl, ?_⟩
            by_cases c1 : zz.2 = q0.2.nm
            · rw [decide_eq_true (congrArg V.str c1)]
              exact iteT ⟨_, rfl, kT (decide_eq_true c1) _ (Same.refl _)⟩
            · rw [decide_eq_false (fun e => c1 (V.str.inj e))]
              exact iteF (kF (decide_eq_false c1) _ (Same.refl _))
          · intro Ha e1 sa
            have sya := sy.trans sa
            rw [← dur11.1, flt_range d0 (fun r : Int × Str => decide (r.2 = q0.2.nm)) (fun r => V.int r.1)] at e1
            have e1 : Ha D = some (.lst ((fdL m y o k nr q0.2).map V.int)) := by
              rw [e1, ← inY_name (o := o) (k := k) (a := nr) F hqm2 hgq hnd, List.map_map]
              rfl
            have efa := sa _ _ ef
            refine ⟨_, rfl, _, rfl, _, rfl, _, rfl, p, q0.1, _, _, nr, _, _, m, y, o, k, rfl, hx11.bk.c.same sya, g, ⟨dxf, efa⟩, znr.mono (by decide), hx11.bk.sz q0 hqm, fun r5 Hb nr5 sb er5 => ?_⟩
            have er5 : Hb r5 = some (.lst ((fdL m y o k nr q0.2).map V.int)) := er5
            have e1b := sb _ _ e1
            refine ⟨_, _, dp_ints e1b, dp_ints er5, sh_ints _, sh_ints _, _, rfl, no' (by rw [eqv_intL]; rfl) ?_⟩
            have l2 := fdL_len m y o k nr q0.2
            have syb := sya.trans sb
            refine ⟨_, rfl, D, _, rfl, .inl (SqL.of e1b), _, _, rfl, rfl, _, rfl, no' ?_ ?_⟩
            · rw [List.length_map]
              exact decide_eq_false (by omega)
            obtain ⟨d, ds, zs, ed, enx⟩ := nx_name (o := o) (k := k) (a := nr) F hgg hnd hqm2
            refine ⟨_, rfl, b, dxb, _, rfl, syb _ _ eb11, fb_no _ _ (by decide +kernel) (by decide +kernel), _, rfl, yq, Cy, dxy2, _, _, rfl, syb _ _ ey11, Ty.cl, Ty.n2, yf_first _ _ _ _ _, _, rfl, q0.1, Cf, dxf, _, _, rfl, sb _ _ efa, Tf.cl, Tf.n1, ff_name _ _ _ _, b, p, fdF m y o k nr, some q0.2.nm, m, y, o, k, fs, rfl, hx11.bk.same syb, zf1.mono (by decide), (fun s e => ⟨q0, hqm, Option.some.inj e⟩), (d, q0.2.nm), zs, enx, fun tn Hc sc dn => ?_⟩
            rw [nx_sorted F hgg enx] at dn
            rw [ed] at e1b
            refine ⟨_, rfl, D, _, _, .int d, rfl, rfl, SqL.of (sc _ _ e1b), atI_nat (j := 0) rfl, _, rfl, q0.1, Cf, dxf, _, _, rfl, sc _ _ (sb _ _ efa), Tf.cl, Tf.n1, ff_name _ _ _ _, (by show 2 ≤ sizeLine; decide), fun tt ntt => ?_⟩
            have st := Same.new (o := .tup [V.int d, V.str q0.2.nm]) ntt
            have hok0 : PyData.strOk ((d, q0.2.nm) : Int × Str).2 = true := hgq.ok
            refine ⟨_, _, duo_dp (dn.same fun t xs e => st _ _ e), duo_dp (x := (d, q0.2.nm)) ⟨tt, rfl, upd_same⟩, sh_row hok0, sh_row hok0, _, rfl, no' (by rw [eqv_rowD hok0]; rfl) ?_⟩
            exact ⟨_, _, _, _, _, _, _, _, _, _, rfl, syb.trans (sc.trans st)⟩
        · rintro σ Hy ⟨w4, w5, w6, w7, w11, w12, w13, w14, w15, w16, rfl, sy⟩
          exact q Hy (bl11.trans (BtL.same sy))
end
/-! ### the law -/
section
variable {P : Program} {w : World} {K : PySem.W.Frag} {mg : Str → Option Value} {base : Heap}
theorem ok_law (D : Df K mg "law" s_law []) (f_l_draws : Ca P w K mg base CX0 1 "_law_draws" s_l_draws [] ["_law_cell"] spDraws) (f_l_right : Ca P w K mg base CX0 17 "_law_right" s_l_right [] ["_law_draws_here"] spR69) : Ca P w K mg base CX0 18 "law" s_law [] ["_law_script"] (spLaw K) := by
  refine ca0 (k := 17) D c_law (fun vs H Q E h => ?_) fun f cdv A outer s H vs Q E hr h => ?_
  · obtain ⟨a, ns, rfl, _⟩ := h
    rfl
  · obtain ⟨a, ns, rfl, hS, hlen, q⟩ := h
    refine ⟨_, (pss_cons (ps_for PassesOwn.never rfl (pi_list (pe_op op_cat (pe_slice sl_list (pv 0) po_none (po_some pe_int)) (pe_lst (pa_cons pe_int pa_nil)))) (pg_name (i := 1) c_law.nd rfl (.inl rfl)) (pss_one (ps_if (pt_not (pt_val (pe_ca f_l_right b_l_right hr (by decide) pass0 rfl (pa_cons (pe_ca f_l_draws b_l_draws hr (by decide) pass0 rfl (pa_cons (pv 1) pa_nil)) pa_nil)))) (pss_one (ps_ret pe_bl)) pss_nil)))
      (pss_one (ps_ret pe_bl))), ?_⟩
    refine ⟨_, rfl, _, rfl, a, _, rfl, hS, fun p1 n1 => ?_⟩
    refine ⟨(by show 1 ≤ sizeLine; decide), fun p2 n2 => ?_⟩
    have ne12 : p1 ≠ p2 := ne_of_none upd_same n2
    refine ⟨p1, p2, _, _, rfl, rfl, (by rw [upd_ne ne12]; exact upd_same), upd_same, cut_len hlen, fun l3 n3 => ?_⟩
    generalize hH0 : L2.upd _ l3 (.lst (cutV (ns.map V.int) none (some 1) ++ [V.int 0])) = H0
    have hl3 : H0 l3 = some (.lst (cutV (ns.map V.int) none (some 1) ++ [V.int 0])) := by rw [← hH0]; exact upd_same
    refine ⟨l3, rfl, ⟨_, SqL.of hl3⟩, for_list (K := K) (a := l3) (xs := cutV (ns.map V.int) none (some 1) ++ [V.int 0]) (fun i σ H' => ∃ v1 : Option V, σ = [some (.ref a), v1] ∧ H' l3 = some (.lst (cutV (ns.map V.int) none (some 1) ++ [V.int 0])))
      ⟨_, rfl, hl3⟩ (fun i σ H' _ ⟨_, _, e⟩ => SqL.of e) ?_ (fun σ H' ⟨_, e, _⟩ => by subst e; exact q H')⟩
    rintro i x σ H1 hi ⟨v1, rfl, e3⟩
    obtain ⟨c, rfl⟩ := cut_ints hi
    refine ⟨_, rfl, c, rfl, fun l H2 nl s2 d2 => ?_⟩
    have nel : l3 ≠ l := ne_of_none e3 nl
    exact ⟨l, rfl, d2, fun H3 b3 => ⟨_, rfl, no' rfl ⟨_, rfl, b3 _ _ nel (s2 _ _ e3)⟩⟩⟩
end
theorem df_mkD {K : PySem.W.Frag} {h : Heap} {mg : Str → Option Value} {x : Str} {st : Stmt} {f T : Addr} {oc kV doc pm cdv ct : Value} {od an : Option Addr} {osl : Array (Option Value)} {nT : Nat} {its : List Value} {dvs : List V} (X : K.In h) (G : h.Ns mainGlobals mg) (a : PySem.W.nsIn K mainGlobals x = some (some (.ref f)))
    (l : K.lookup f = some ⟨oc, od, .func (PySem.W.fnOf x x (defArgs st) (defBody st) (defScope st) (.ref T) kV doc pm an cdv ct), osl⟩) (c : PySem.W.codeIn K cdv x = true) (k : PySem.W.keepIn K (.ref f) = true) {oT : Obj} (lT : K.lookup T = some oT) (eT : oT.data = .seq its.toArray nT) (r : Vals dvs its) (ne : dvs ≠ []) : Df K mg x st dvs :=
  ⟨f, _, ⟨⟨oc, od, .ref T, kV, doc, pm, an, cdv, ct, osl, rfl, l, c, .inr ⟨ne, T, _, its, nT, rfl, lT, eT, r⟩, .inl rfl⟩, k⟩, PySem.W.mg_of X G a⟩
theorem net_mk {K : PySem.W.Frag} {C : Addr} {nm q N bs hd sn sub ab col dd k0 k1 k2 k3 k5 nw} (ne : PySem.W.findIn K (.ref C) "__ne__" = some (some (.builtin "object.__ne__"))) (l : K.lookup C = some (excClassObj nm q C N bs [.type "object"] hd sn sub ab col dd k0 k1 k2 k3 k5 nw)) : NeT K C := ⟨ne, ⟨_, _, _, _, _, _, _, _, _, _, _, _, _, _, _, _, l⟩⟩
/-! ### what the top has written -/
theorem fin {P : Program} {w : World} {K : PySem.W.Frag} {mg : Str → Option Value} {fa C Cc Cy Cf Cb : Addr} (hfa : mg "law" = some (.ref fa))
    (cl : Cls K C) (nT : PySem.W.findIn K (.ref C) "top" = some none) (nB : PySem.W.findIn K (.ref C) "bottom" = some none) (ha : PySem.W.findIn K (.ref C) "__class__" = some (some (.builtin "object.__class__")))
    (hn : PySem.W.specialIn K (.builtin "object.__class__") "__get__" = some (some (.builtin "getset_descriptor.__get__"))) (htk : PySem.W.takesIn K (.builtin "object.__class__") = some true) (hm : PySem.W.mroIn K C (.type "object") = some true)
    (iC : PySem.W.isClsIn K C = true) (tC : PySem.W.typeIn K (.ref C) = some (.type "type")) (sI : PySem.W.subIn K (.type "int") (.ref C) = some false) (hC : mg "Share" = some (.ref C))
    (dShare : Di K mg "Share" C "Share.__init__" s_Share_init [.int 1])
    (clc : Cls K Cc) (n1 : PySem.W.findIn K (.ref Cc) "month" = some none) (n2 : PySem.W.findIn K (.ref Cc) "year" = some none) (n3 : PySem.W.findIn K (.ref Cc) "moon" = some none) (n4 : PySem.W.findIn K (.ref Cc) "mark" = some none) (ne : Cc ≠ C) {uM : Value} (aM : mg "MARKS" = some uM) (rM : RelV (.int 12) uM)
    (dCal : Di K mg "Calendar" Cc "Calendar.__init__" s_Calendar_init [.non, .non])
    (cly : Cls K Cy) (y1 : PySem.W.findIn K (.ref Cy) "number" = some none) (y2 : PySem.W.findIn K (.ref Cy) "first" = some none) (y3 : PySem.W.findIn K (.ref Cy) "names" = some none) (y4 : PySem.W.findIn K (.ref Cy) "lengths" = some none) (y5 : PySem.W.findIn K (.ref Cy) "odd" = some none) (ey1 : Cy ≠ C) (ey2 : Cy ≠ Cc)
    (dYear : Di K mg "Year" Cy "Year.__init__" s_Year_init [])
    (clf : Cls K Cf) (fe1 : PySem.W.findIn K (.ref Cf) "name" = some none) (fe2 : PySem.W.findIn K (.ref Cf) "number" = some none) (fe3 : PySem.W.findIn K (.ref Cf) "day" = some none) (fe4 : PySem.W.findIn K (.ref Cf) "when" = some none)
    (dFeast : Di K mg "Feast" Cf "Feast.__init__" s_Feast_init [.str "plain"])
    (clb : Cls K Cb) (fb1 : PySem.W.findIn K (.ref Cb) "calendar" = some none) (fb2 : PySem.W.findIn K (.ref Cb) "feasts" = some none)
    (dFeasts : Di K mg "Feasts" Cb "Feasts.__init__" s_Feasts_init []) (dbNext : DmD K Cb "next_feast" "Feasts.next_feast" s_Feasts_next_feast [.non])
    (d_start : Dm K Cc "start" "Calendar.start" s_Calendar_start)
    (d_month_at : Dm K Cc "month_at" "Calendar.month_at" s_Calendar_month_at)
    (d_mark_day : Dm K Cc "mark_day" "Calendar.mark_day" s_Calendar_mark_day)
    (d_month_with : Dm K Cc "month_with" "Calendar.month_with" s_Calendar_month_with)
    (d_mark_in : Dm K Cc "mark_in" "Calendar.mark_in" s_Calendar_mark_in)
    (d_name_of : Dm K Cc "name_of" "Calendar.name_of" s_Calendar_name_of)
    (dyDays : Dm K Cy "days_in" "Year.days_in" s_Year_days_in)
    (dbAdd : Dm K Cb "add" "Feasts.add" s_Feasts_add)
    (dbIn : Dm K Cb "in_year" "Feasts.in_year" s_Feasts_in_year)
    (dbOn : Dm K Cb "on_day" "Feasts.on_day" s_Feasts_on_day)
    (dbMis : Dm K Cb "refuse_missing" "Feasts.refuse_missing" s_Feasts_refuse_missing)
    (g_abs : mg "abs" = none) (g_range : mg "range" = none) (g_isinstance : mg "isinstance" = none) (g_len : mg "len" = none) (g_sum : mg "sum" = none) (g_zip : mg "zip" = none) (g_sorted : mg "sorted" = none) (g_min : mg "min" = none)
    (d_common_divisor : Df K mg "common_divisor" s_common_divisor []) (d_as_share : Df K mg "as_share" s_as_share []) (d_plus : Df K mg "plus" s_plus []) (d_minus : Df K mg "minus" s_minus []) (d_times : Df K mg "times" s_times []) (d_over : Df K mg "over" s_over []) (d_before : Df K mg "before" s_before []) (d_whole : Df K mg "whole" s_whole []) (d_rounded_up : Df K mg "rounded_up" s_rounded_up []) (d_refuse_unfit : Df K mg "refuse_unfit" s_refuse_unfit []) (d_moment_or_nought : Df K mg "moment_or_nought" s_moment_or_nought []) (d_twelfth : Df K mg "twelfth" s_twelfth []) (d_nth_day : Df K mg "nth_day" s_nth_day []) (d_first_from : Df K mg "first_from" s_first_from []) (d_lengths_from : Df K mg "lengths_from" s_lengths_from []) (d_days_of : Df K mg "days_of" s_days_of []) (d_steps : Df K mg "steps" s_steps []) (d_plain_month : Df K mg "plain_month" s_plain_month []) (d_odd_month : Df K mg "odd_month" s_odd_month []) (d_day_in : Df K mg "day_in" s_day_in []) (d_month_in_year : Df K mg "month_in_year" s_month_in_year []) (d_held_in : Df K mg "held_in" s_held_in []) (d_first_day : Df K mg "first_day" s_first_day []) (d_year_with : Df K mg "year_with" s_year_with []) (d_months_in : Df K mg "months_in" s_months_in []) (d_odd_number : Df K mg "odd_number" s_odd_number []) (d_feast_months : Df K mg "feast_months" s_feast_months []) (d_feast_days : Df K mg "feast_days" s_feast_days []) (d_l_draws : Df K mg "_law_draws" s_l_draws []) (d_l_next : Df K mg "_law_next" s_l_next []) (d_l_low : Df K mg "_law_low" s_l_low []) (d_l_plus : Df K mg "_law_plus" s_l_plus []) (d_l_by : Df K mg "_law_by" s_l_by []) (d_l_part : Df K mg "_law_part" s_l_part []) (d_l_moment : Df K mg "_law_moment" s_l_moment []) (d_l_four : Df K mg "_law_four" s_l_four []) (d_l_cal : Df K mg "_law_cal" s_l_cal []) (d_l_rows : Df K mg "_law_rows" s_l_rows []) (d_l_right : Df K mg "_law_right" s_l_right []) (d_law : Df K mg "law" s_law []) :
    ∃ fd : FuncData, (∀ (s : Shared) (u : Value), BindsTo s fd ⟨[u], []⟩ [("_law_script", u)]) ∧ ∀ base : Heap, K.In base → base.Ns mainGlobals mg → FnOk P w K mg base CX0 18 fa fd ["_law_script"] (spLaw K) := by
  refine fin_of hfa d_law b_law fun base => ?_
  have T : ShX K C := ⟨⟨cl, nT, nB⟩, fun H a dx fs e => .base (.ins e cl ha hn htk hm), kit_no iC tC rfl sI⟩
  have marks : ∃ t, mg "MARKS" = some (.int 12 t) := by
    obtain ⟨t, e⟩ := rM
    exact ⟨t, by rw [aM, e]⟩
  have Tc : CaT K C Cc := ⟨clc, n1, n2, n3, n4, ne⟩
  have f1 := ok_gcd (P := P) (w := w) (base := base) d_common_divisor g_abs
  have f2 := ok_shI dShare T.toShT f1
  have f3 := ok_as d_as_share T g_isinstance hC f2
  have F : ShF P w K mg base C := { T := T, mkS := f2, asS := f3, plus := ok_plus d_plus T f3 f2, minus := ok_minus d_minus T f3 f2, times := ok_times d_times T f3 f2, over := ok_over d_over T f3 f2, before := ok_before d_before T f3, whole := ok_whole d_whole T f3, up := ok_rounded d_rounded_up T f3, marks := marks }
  have tw := ok_tw d_twelfth F
  have nth := ok_nth d_nth_day F
  have cal := ok_caI dCal Tc F (ok_unfit d_refuse_unfit F tw) (ok_moment d_moment_or_nought F)
  obtain ⟨tkM, hMk⟩ := id marks
  have lo := ok_low (P := P) (w := w) (base := base) d_l_low g_abs
  have nx := ok_next (P := P) (w := w) (base := base) d_l_next
  have dr := ok_draws (P := P) (w := w) (base := base) d_l_draws g_range
  have pl := ok_lplus d_l_plus lo
  have by' := ok_lby d_l_by lo
  have pt := ok_lpart d_l_part nx lo
  have mo := ok_lmom d_l_moment nx pt pl
  have fo := ok_lfour d_l_four nx pt pl by' mo
  have fr := ok_from d_first_from F
  have m1 := ok_start d_start Tc nth
  have m2 := ok_month_at d_month_at Tc fr
  have m3 := ok_mark_day d_mark_day Tc nth tw
  have m4 := ok_month_with d_month_with Tc m2 m3
  have m5 := ok_mark_in d_mark_in Tc fr tw m1 m3
  have m6 := ok_name d_name_of m5 hMk
  have pm := ok_plain d_plain_month m4 hMk
  have om := ok_oddm d_odd_month pm m5
  have di := ok_dayin d_day_in m1
  have das := ok_daysof d_days_of m1
  have miy := ok_miy d_month_in_year pm om
  have hel := ok_held d_held_in das g_min
  have st := ok_steps (P := P) (w := w) (base := base) d_steps g_zip
  have lf := ok_len d_lengths_from st m1 g_range
  have YT : YrT K C Cc Cy := ⟨cly, y1, y2, y3, y4, y5, ey1, ey2⟩
  have fd := ok_fd d_first_day m1 pm
  have mi := ok_min d_months_in pm
  have on := ok_oddn (P := P) (w := w) (base := base) d_odd_number
  have yI := ok_yrI dYear YT g_range m6 pm lf mi fd on
  have yD := ok_yrD (P := P) (w := w) (base := base) (mg := mg) dyDays YT g_sum
  have yw := ok_yw d_year_with m2 m6
  have Tf : FeT K Cf := ⟨clf, fe1, fe2, fe3, fe4⟩
  have feI := ok_feI (P := P) (w := w) (base := base) dFeast Tf
  have fmo := ok_fm d_feast_months Tf pm om miy
  have fds := ok_fds d_feast_days Tf di hel fmo
  have Tb : FbT K Cb := ⟨clb, fb1, fb2⟩
  have bI := ok_fbI (P := P) (w := w) (base := base) dFeasts Tb
  have bA := ok_fbA (P := P) (w := w) (mg := mg) (base := base) (C := C) (Cc := Cc) dbAdd Tb Tf
  have iny := ok_inY dbIn Tb g_sorted fds
  have ond := ok_onD dbOn Tb yw iny
  have mis := ok_mis (P := P) (w := w) (mg := mg) (base := base) (C := C) (Cc := Cc) (Cf := Cf) dbMis Tb
  have nxf := ok_nxf dbNext Tb yw g_min iny mis
  have cal' := ok_lcal d_l_cal nx f2 cal
  have rws := ok_lrws d_l_rows g_range ond
  have rg := ok_lr69 d_l_right Tb Tf YT nx fo g_range g_len cal' bI feI bA yI iny rws yD nxf fds
  exact ok_law d_law dr rg
theorem walk {l : PySem.W.OpenLaw} {q : Program} {loose : List Str} {XP : (Str → Option Value) → Heap → Prop} {YP : World → Heap → Prop} {d : DefRec} {K : Params → PySem.W.Frag} (hn : l.most = some 63) (hdf : d.params.defaults = [])
    (hY : ∀ (w : World) (h : Heap), YP w h → (K w.params).In h)
    (F : ∀ (w : World) (mg : Str → Option Value) (fa : Addr) (h : Heap), (K w.params).In h → h.Ns mainGlobals mg → mg d.name = some (.ref fa) →
      ∃ fd : FuncData, (∀ (s : Shared) (u : Value), BindsTo s fd ⟨[u], []⟩ [("_law_script", u)]) ∧ ∀ base : Heap, (K w.params).In base → base.Ns mainGlobals mg → FnOk l.prog w (K w.params) mg base CX0 18 fa fd ["_law_script"] (spLaw (K w.params))) :
    PySem.W.WalkO q loose XP YP l.row.toRowW d [] (fun f vs => PySem.call f vs) :=
  L2.walk_of (n := 63) (k := 18) (x := "_law_script") (CX := fun _ => CX0) (sp := fun w => spLaw (K w.params)) hn (by decide) hdf ⟨rfl, by decide, by decide⟩ hY F (fun _ _ a ns hl _ hS => ⟨a, ns, rfl, hS, hl, fun _ => rfl⟩) fun _ _ _ _ _ z => z
end MM
open PySem PySem.W PyProof.Rows in
set_option maxRecDepth 100000 in
set_option maxHeartbeats 0 in
theorem PySem.Challenge.cw_meanmoon_k69_whole_feasts_day_by_day_holds : PySem.Challenge.rw_meanmoon_k69_whole_feasts_day_by_day.Holds := by
  w_on; o_law; k_head; (case hw => w_witness2)
  k_fill
  refine MM.walk (l := PySem.Challenge.rw_meanmoon_k69_whole_feasts_day_by_day) rfl rfl (fun w h Y => PySem.W.kIn_of Y) ?F
  case F =>
    intro w mg fa h KX G hmg
    refine' MM.fin hmg
      ⟨?pg, ?hd, ?po, ?sa⟩ ?nT ?nB ?ha ?hn ?htk ?hm ?iC ?tC ?sI (PySem.W.mg_of KX G ?aC)
      (MM.di_mk (its := [_]) (PySem.W.mg_of KX G ?aC) ?s1 ?s2 ?s3 ?s4 ?s5 ?s6 ?s7 ?s8 ?s9 ?s0 (by decide))
      ⟨?pgc, ?hdc, ?poc, ?sac⟩ ?n1 ?n2 ?n3 ?n4 ?ne (PySem.W.mg_of KX G ?aM) ?rM
      (MM.di_mk (its := [_, _]) (PySem.W.mg_of KX G ?aD) ?c1 ?c2 ?c3 ?c4 ?c5 ?c6 ?c7 ?c8 ?c9 (.cons rfl (.cons rfl .nil)) (by decide))
      ⟨?pgy, ?hdy, ?poy, ?say⟩ ?yy1 ?yy2 ?yy3 ?yy4 ?yy5 ?ey1 ?ey2
      (MM.di_mk0 (PySem.W.mg_of KX G ?aY) ?w1 ?w2 ?w3 ?w4 ?w5 ?w6 ?w7)
      ⟨?pgf, ?hdf, ?pof, ?saf⟩ ?fy1 ?fy2 ?fy3 ?fy4
      (MM.di_mk (its := [_]) (PySem.W.mg_of KX G ?aFe) ?ft1 ?ft2 ?ft3 ?ft4 ?ft5 ?ft6 ?ft7 ?ft8 ?ft9 ?ft0 (by decide))
      ⟨?pgb, ?hdb, ?pob, ?sab⟩ ?fbb1 ?fbb2
      (MM.di_mk0 (PySem.W.mg_of KX G ?aFb) ?bv1 ?bv2 ?bv3 ?bv4 ?bv5 ?bv6 ?bv7)
      (MM.dmD_mk (its := [_]) ⟨?pgb, ?hdb, ?pob, ?sab⟩ ?bn1 ?bn2 ?bn3 ?bn4 ?bn5 ?bn6 ?bn7 ?bn8 (by decide))
      (MM.dm_mk ⟨?pgc, ?hdc, ?poc, ?sac⟩ ?md_starta ?md_starti ?md_startl ?md_startc ?md_startk)
      (MM.dm_mk ⟨?pgc, ?hdc, ?poc, ?sac⟩ ?md_month_ata ?md_month_ati ?md_month_atl ?md_month_atc ?md_month_atk)
      (MM.dm_mk ⟨?pgc, ?hdc, ?poc, ?sac⟩ ?md_mark_daya ?md_mark_dayi ?md_mark_dayl ?md_mark_dayc ?md_mark_dayk)
      (MM.dm_mk ⟨?pgc, ?hdc, ?poc, ?sac⟩ ?md_month_witha ?md_month_withi ?md_month_withl ?md_month_withc ?md_month_withk)
      (MM.dm_mk ⟨?pgc, ?hdc, ?poc, ?sac⟩ ?md_mark_ina ?md_mark_ini ?md_mark_inl ?md_mark_inc ?md_mark_ink)
      (MM.dm_mk ⟨?pgc, ?hdc, ?poc, ?sac⟩ ?md_name_ofa ?md_name_ofi ?md_name_ofl ?md_name_ofc ?md_name_ofk)
      (MM.dm_mk ⟨?pgy, ?hdy, ?poy, ?say⟩ ?mdyDaysa ?mdyDaysi ?mdyDaysl ?mdyDaysc ?mdyDaysk)
      (MM.dm_mk ⟨?pgb, ?hdb, ?pob, ?sab⟩ ?mdbAdda ?mdbAddi ?mdbAddl ?mdbAddc ?mdbAddk)
      (MM.dm_mk ⟨?pgb, ?hdb, ?pob, ?sab⟩ ?mdbIna ?mdbIni ?mdbInl ?mdbInc ?mdbInk)
      (MM.dm_mk ⟨?pgb, ?hdb, ?pob, ?sab⟩ ?mdbOna ?mdbOni ?mdbOnl ?mdbOnc ?mdbOnk)
      (MM.dm_mk ⟨?pgb, ?hdb, ?pob, ?sab⟩ ?mdbMisa ?mdbMisi ?mdbMisl ?mdbMisc ?mdbMisk)
      (PySem.W.mg_none_of KX G ?z0)
      (PySem.W.mg_none_of KX G ?z1)
      (PySem.W.mg_none_of KX G ?z2)
      (PySem.W.mg_none_of KX G ?z3)
      (PySem.W.mg_none_of KX G ?z4)
      (PySem.W.mg_none_of KX G ?z5)
      (PySem.W.mg_none_of KX G ?z6)
      (PySem.W.mg_none_of KX G ?z7)
      (MM.df_mk KX G ?a_common_divisor ?l_common_divisor ?c_common_divisor ?k_common_divisor)
      (MM.df_mk KX G ?a_as_share ?l_as_share ?c_as_share ?k_as_share)
      (MM.df_mk KX G ?a_plus ?l_plus ?c_plus ?k_plus)
      (MM.df_mk KX G ?a_minus ?l_minus ?c_minus ?k_minus)
      (MM.df_mk KX G ?a_times ?l_times ?c_times ?k_times)
      (MM.df_mk KX G ?a_over ?l_over ?c_over ?k_over)
      (MM.df_mk KX G ?a_before ?l_before ?c_before ?k_before)
      (MM.df_mk KX G ?a_whole ?l_whole ?c_whole ?k_whole)
      (MM.df_mk KX G ?a_rounded_up ?l_rounded_up ?c_rounded_up ?k_rounded_up)
      (MM.df_mk KX G ?a_refuse_unfit ?l_refuse_unfit ?c_refuse_unfit ?k_refuse_unfit)
      (MM.df_mk KX G ?a_moment_or_nought ?l_moment_or_nought ?c_moment_or_nought ?k_moment_or_nought)
      (MM.df_mk KX G ?a_twelfth ?l_twelfth ?c_twelfth ?k_twelfth)
      (MM.df_mk KX G ?a_nth_day ?l_nth_day ?c_nth_day ?k_nth_day)
      (MM.df_mk KX G ?a_first_from ?l_first_from ?c_first_from ?k_first_from)
      (MM.df_mk KX G ?a_lengths_from ?l_lengths_from ?c_lengths_from ?k_lengths_from)
      (MM.df_mk KX G ?a_days_of ?l_days_of ?c_days_of ?k_days_of)
      (MM.df_mk KX G ?a_steps ?l_steps ?c_steps ?k_steps)
      (MM.df_mk KX G ?a_plain_month ?l_plain_month ?c_plain_month ?k_plain_month)
      (MM.df_mk KX G ?a_odd_month ?l_odd_month ?c_odd_month ?k_odd_month)
      (MM.df_mk KX G ?a_day_in ?l_day_in ?c_day_in ?k_day_in)
      (MM.df_mk KX G ?a_month_in_year ?l_month_in_year ?c_month_in_year ?k_month_in_year)
      (MM.df_mk KX G ?a_held_in ?l_held_in ?c_held_in ?k_held_in)
      (MM.df_mk KX G ?a_first_day ?l_first_day ?c_first_day ?k_first_day)
      (MM.df_mk KX G ?a_year_with ?l_year_with ?c_year_with ?k_year_with)
      (MM.df_mk KX G ?a_months_in ?l_months_in ?c_months_in ?k_months_in)
      (MM.df_mk KX G ?a_odd_number ?l_odd_number ?c_odd_number ?k_odd_number)
      (MM.df_mk KX G ?a_feast_months ?l_feast_months ?c_feast_months ?k_feast_months)
      (MM.df_mk KX G ?a_feast_days ?l_feast_days ?c_feast_days ?k_feast_days)
      (MM.df_mk KX G ?a_l_draws ?l_l_draws ?c_l_draws ?k_l_draws)
      (MM.df_mk KX G ?a_l_next ?l_l_next ?c_l_next ?k_l_next)
      (MM.df_mk KX G ?a_l_low ?l_l_low ?c_l_low ?k_l_low)
      (MM.df_mk KX G ?a_l_plus ?l_l_plus ?c_l_plus ?k_l_plus)
      (MM.df_mk KX G ?a_l_by ?l_l_by ?c_l_by ?k_l_by)
      (MM.df_mk KX G ?a_l_part ?l_l_part ?c_l_part ?k_l_part)
      (MM.df_mk KX G ?a_l_moment ?l_l_moment ?c_l_moment ?k_l_moment)
      (MM.df_mk KX G ?a_l_four ?l_l_four ?c_l_four ?k_l_four)
      (MM.df_mk KX G ?a_l_cal ?l_l_cal ?c_l_cal ?k_l_cal)
      (MM.df_mk KX G ?a_l_rows ?l_l_rows ?c_l_rows ?k_l_rows)
      (MM.df_mk KX G ?a_l_right ?l_l_right ?c_l_right ?k_l_right)
      (MM.df_mk KX G ?a_law ?l_law ?c_law ?k_law)
    (case aC => k_is)
    (case pg => k_is)
    (case hd => k_is)
    (case po => k_is)
    (case sa => k_is)
    (case nT => k_is)
    (case nB => k_is)
    (case ha => k_is)
    (case hn => k_is)
    (case htk => k_is)
    (case hm => k_is)
    (case iC => k_is)
    (case tC => k_is)
    (case sI => k_is)
    (case s1 => k_is)
    (case s2 => k_is)
    (case s3 => k_is)
    (case s4 => k_is)
    (case s5 => k_is)
    (case s6 => k_is)
    (case s7 => k_is)
    (case s8 => k_is)
    (case aD => k_is)
    (case pgc => k_is)
    (case hdc => k_is)
    (case poc => k_is)
    (case sac => k_is)
    (case n1 => k_is)
    (case n2 => k_is)
    (case n3 => k_is)
    (case n4 => k_is)
    (case aM => k_is)
    (case c1 => k_is)
    (case c2 => k_is)
    (case c3 => k_is)
    (case c4 => k_is)
    (case c5 => k_is)
    (case c6 => k_is)
    (case c7 => k_is)
    (case c8 => k_is)
    (case aY => k_is)
    (case pgy => k_is)
    (case hdy => k_is)
    (case poy => k_is)
    (case say => k_is)
    (case yy1 => k_is)
    (case yy2 => k_is)
    (case yy3 => k_is)
    (case yy4 => k_is)
    (case yy5 => k_is)
    (case w1 => k_is)
    (case w2 => k_is)
    (case w3 => k_is)
    (case w4 => k_is)
    (case w5 => k_is)
    (case w6 => k_is)
    (case w7 => k_is)
    (case aFe => k_is)
    (case pgf => k_is)
    (case hdf => k_is)
    (case pof => k_is)
    (case saf => k_is)
    (case fy1 => k_is)
    (case fy2 => k_is)
    (case fy3 => k_is)
    (case fy4 => k_is)
    (case ft1 => k_is)
    (case ft2 => k_is)
    (case ft3 => k_is)
    (case ft4 => k_is)
    (case ft5 => k_is)
    (case ft6 => k_is)
    (case ft7 => k_is)
    (case ft8 => k_is)
    (case aFb => k_is)
    (case pgb => k_is)
    (case hdb => k_is)
    (case pob => k_is)
    (case sab => k_is)
    (case fbb1 => k_is)
    (case fbb2 => k_is)
    (case bv1 => k_is)
    (case bv2 => k_is)
    (case bv3 => k_is)
    (case bv4 => k_is)
    (case bv5 => k_is)
    (case bv6 => k_is)
    (case bv7 => k_is)
    (case bn1 => k_is)
    (case bn2 => k_is)
    (case bn3 => k_is)
    (case bn4 => k_is)
    (case bn5 => k_is)
    (case bn6 => k_is)
    (case md_starta => k_is)
    (case md_starti => k_is)
    (case md_startl => k_is)
    (case md_startc => k_is)
    (case md_startk => k_is)
    (case md_month_ata => k_is)
    (case md_month_ati => k_is)
    (case md_month_atl => k_is)
    (case md_month_atc => k_is)
    (case md_month_atk => k_is)
    (case md_mark_daya => k_is)
    (case md_mark_dayi => k_is)
    (case md_mark_dayl => k_is)
    (case md_mark_dayc => k_is)
    (case md_mark_dayk => k_is)
    (case md_month_witha => k_is)
    (case md_month_withi => k_is)
    (case md_month_withl => k_is)
    (case md_month_withc => k_is)
    (case md_month_withk => k_is)
    (case md_mark_ina => k_is)
    (case md_mark_ini => k_is)
    (case md_mark_inl => k_is)
    (case md_mark_inc => k_is)
    (case md_mark_ink => k_is)
    (case md_name_ofa => k_is)
    (case md_name_ofi => k_is)
    (case md_name_ofl => k_is)
    (case md_name_ofc => k_is)
    (case md_name_ofk => k_is)
    (case mdyDaysa => k_is)
    (case mdyDaysi => k_is)
    (case mdyDaysl => k_is)
    (case mdyDaysc => k_is)
    (case mdyDaysk => k_is)
    (case mdbAdda => k_is)
    (case mdbAddi => k_is)
    (case mdbAddl => k_is)
    (case mdbAddc => k_is)
    (case mdbAddk => k_is)
    (case mdbIna => k_is)
    (case mdbIni => k_is)
    (case mdbInl => k_is)
    (case mdbInc => k_is)
    (case mdbInk => k_is)
    (case mdbOna => k_is)
    (case mdbOni => k_is)
    (case mdbOnl => k_is)
    (case mdbOnc => k_is)
    (case mdbOnk => k_is)
    (case mdbMisa => k_is)
    (case mdbMisi => k_is)
    (case mdbMisl => k_is)
    (case mdbMisc => k_is)
    (case mdbMisk => k_is)
    (case z0 => k_is)
    (case z1 => k_is)
    (case z2 => k_is)
    (case z3 => k_is)
    (case z4 => k_is)
    (case z5 => k_is)
    (case z6 => k_is)
    (case z7 => k_is)
    (case a_common_divisor => k_is)
    (case l_common_divisor => k_is)
    (case c_common_divisor => k_is)
    (case k_common_divisor => k_is)
    (case a_as_share => k_is)
    (case l_as_share => k_is)
    (case c_as_share => k_is)
    (case k_as_share => k_is)
    (case a_plus => k_is)
    (case l_plus => k_is)
    (case c_plus => k_is)
    (case k_plus => k_is)
    (case a_minus => k_is)
    (case l_minus => k_is)
    (case c_minus => k_is)
    (case k_minus => k_is)
    (case a_times => k_is)
    (case l_times => k_is)
    (case c_times => k_is)
    (case k_times => k_is)
    (case a_over => k_is)
    (case l_over => k_is)
    (case c_over => k_is)
    (case k_over => k_is)
    (case a_before => k_is)
    (case l_before => k_is)
    (case c_before => k_is)
    (case k_before => k_is)
    (case a_whole => k_is)
    (case l_whole => k_is)
    (case c_whole => k_is)
    (case k_whole => k_is)
    (case a_rounded_up => k_is)
    (case l_rounded_up => k_is)
    (case c_rounded_up => k_is)
    (case k_rounded_up => k_is)
    (case a_refuse_unfit => k_is)
    (case l_refuse_unfit => k_is)
    (case c_refuse_unfit => k_is)
    (case k_refuse_unfit => k_is)
    (case a_moment_or_nought => k_is)
    (case l_moment_or_nought => k_is)
    (case c_moment_or_nought => k_is)
    (case k_moment_or_nought => k_is)
    (case a_twelfth => k_is)
    (case l_twelfth => k_is)
    (case c_twelfth => k_is)
    (case k_twelfth => k_is)
    (case a_nth_day => k_is)
    (case l_nth_day => k_is)
    (case c_nth_day => k_is)
    (case k_nth_day => k_is)
    (case a_first_from => k_is)
    (case l_first_from => k_is)
    (case c_first_from => k_is)
    (case k_first_from => k_is)
    (case a_lengths_from => k_is)
    (case l_lengths_from => k_is)
    (case c_lengths_from => k_is)
    (case k_lengths_from => k_is)
    (case a_days_of => k_is)
    (case l_days_of => k_is)
    (case c_days_of => k_is)
    (case k_days_of => k_is)
    (case a_steps => k_is)
    (case l_steps => k_is)
    (case c_steps => k_is)
    (case k_steps => k_is)
    (case a_plain_month => k_is)
    (case l_plain_month => k_is)
    (case c_plain_month => k_is)
    (case k_plain_month => k_is)
    (case a_odd_month => k_is)
    (case l_odd_month => k_is)
    (case c_odd_month => k_is)
    (case k_odd_month => k_is)
    (case a_day_in => k_is)
    (case l_day_in => k_is)
    (case c_day_in => k_is)
    (case k_day_in => k_is)
    (case a_month_in_year => k_is)
    (case l_month_in_year => k_is)
    (case c_month_in_year => k_is)
    (case k_month_in_year => k_is)
    (case a_held_in => k_is)
    (case l_held_in => k_is)
    (case c_held_in => k_is)
    (case k_held_in => k_is)
    (case a_first_day => k_is)
    (case l_first_day => k_is)
    (case c_first_day => k_is)
    (case k_first_day => k_is)
    (case a_year_with => k_is)
    (case l_year_with => k_is)
    (case c_year_with => k_is)
    (case k_year_with => k_is)
    (case a_months_in => k_is)
    (case l_months_in => k_is)
    (case c_months_in => k_is)
    (case k_months_in => k_is)
    (case a_odd_number => k_is)
    (case l_odd_number => k_is)
    (case c_odd_number => k_is)
    (case k_odd_number => k_is)
    (case a_feast_months => k_is)
    (case l_feast_months => k_is)
    (case c_feast_months => k_is)
    (case k_feast_months => k_is)
    (case a_feast_days => k_is)
    (case l_feast_days => k_is)
    (case c_feast_days => k_is)
    (case k_feast_days => k_is)
    (case a_l_draws => k_is)
    (case l_l_draws => k_is)
    (case c_l_draws => k_is)
    (case k_l_draws => k_is)
    (case a_l_next => k_is)
    (case l_l_next => k_is)
    (case c_l_next => k_is)
    (case k_l_next => k_is)
    (case a_l_low => k_is)
    (case l_l_low => k_is)
    (case c_l_low => k_is)
    (case k_l_low => k_is)
    (case a_l_plus => k_is)
    (case l_l_plus => k_is)
    (case c_l_plus => k_is)
    (case k_l_plus => k_is)
    (case a_l_by => k_is)
    (case l_l_by => k_is)
    (case c_l_by => k_is)
    (case k_l_by => k_is)
    (case a_l_part => k_is)
    (case l_l_part => k_is)
    (case c_l_part => k_is)
    (case k_l_part => k_is)
    (case a_l_moment => k_is)
    (case l_l_moment => k_is)
    (case c_l_moment => k_is)
    (case k_l_moment => k_is)
    (case a_l_four => k_is)
    (case l_l_four => k_is)
    (case c_l_four => k_is)
    (case k_l_four => k_is)
    (case a_l_cal => k_is)
    (case l_l_cal => k_is)
    (case c_l_cal => k_is)
    (case k_l_cal => k_is)
    (case a_l_rows => k_is)
    (case l_l_rows => k_is)
    (case c_l_rows => k_is)
    (case k_l_rows => k_is)
    (case a_l_right => k_is)
    (case l_l_right => k_is)
    (case c_l_right => k_is)
    (case k_l_right => k_is)
    (case a_law => k_is)
    (case l_law => k_is)
    (case c_law => k_is)
    (case k_law => k_is)
    (case s9 => rfl)
    (case s0 => exact .cons ⟨_, rfl⟩ .nil)
    (case ne => decide)
    (case rM => exact ⟨_, rfl⟩)
    (case c9 => rfl)
    (case ey1 => decide)
    (case ey2 => decide)
    (case ft9 => rfl)
    (case ft0 => exact .cons ⟨_, rfl⟩ .nil)
    (case bn7 => rfl)
    (case bn8 => exact .cons rfl .nil)
#print axioms PySem.Challenge.cw_meanmoon_k69_whole_feasts_day_by_day_holds
