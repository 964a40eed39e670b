import PyProof.Rows.All
import Wide.All
import OpenK.AllK
import Wide.FinOn
import PyProof.NoPylong
import HandS.ForMost
import HandS.Wide
import HandS.Defaults
import HandS.MakeKw
import HandS.MakeKwOnly
import HandS.Exc
import HandS.WordsExc
import HandS.IsInst
import HandS.FStr
import HandS.Style
import HandS.Codes
import HandS.NoneIn
import PyProof.LongRange
import KE.KTryMore
import KE.KIsAll
import HandS.ExcIs
import HandS.ExcField
import HandS.ExcInit
import KE.KCallOwn
import HandS.OwnEq
import HandS.Walk
import HandS.Zip
import PyProof.P3Eq
import PyProof.EqLayable
import PyProof.InstNe
import KE.KTupSum
import HandS.SortInts
import HandS.Deep
import HandS.StrMore
import HandS.Text
import OpenK.KOps
import PyProof.EqAt
import PyProof.EqKinds
import PyProof.FString2
import KE.KFmtOwn
import HandS.SortRule
import HandS.Conv
import PyProof.FactsLen
import PyProof.InstSpecial
import HandS.Nested
import HandS.BoundDict
import HandS.EndTab
import HandS.More
import PySem.Challenge.RW_meanmoon_k47_whole_years_between_new_yea
set_option Elab.async false
set_option linter.all false
set_option maxRecDepth 100000
set_option maxHeartbeats 4000000
namespace MM
/-! fractions as Rat: the program's and the law's lowest terms are num and den -/
theorem gcd_fmod (a b : Int) : Int.gcd b (a.fmod b) = Int.gcd a b := by
  have h : a.fmod b = a - b * a.fdiv b := by have := Int.mul_fdiv_add_fmod a b; omega
  rw [h, Int.gcd_comm a b]
  rw [Int.sub_eq_add_neg, ← Int.mul_neg, Int.gcd_add_mul_left_right]
theorem gcd_emod' (a b : Int) : Int.gcd b (a % b) = Int.gcd a b := by
  have h : a % b = a - b * (a / b) := by have := Int.mul_ediv_add_emod a b; omega
  rw [h, Int.gcd_comm a b]
  rw [Int.sub_eq_add_neg, ← Int.mul_neg, Int.gcd_add_mul_left_right]
theorem fmod_lt (a : Int) {b : Int} (h : b ≠ 0) : (a.fmod b).natAbs < b.natAbs := by
  rcases Int.lt_or_gt_of_ne h with hb | hb
  · have e : a.fmod b = -((-a).fmod (-b)) := by rw [Int.neg_fmod_neg, Int.neg_neg]
    have h1 := Int.fmod_nonneg_of_pos (-a) (show (0 : Int) < -b by omega)
    have h2 := Int.fmod_lt_of_pos (-a) (show (0 : Int) < -b by omega)
    rw [e]
    omega
  · have h1 := Int.fmod_nonneg_of_pos a hb
    have h2 := Int.fmod_lt_of_pos a hb
    omega
theorem gcd_pos {t b : Int} (h : b ≠ 0) : 0 < Int.gcd t b := Int.gcd_pos_of_ne_zero_right t h
/-- the divisor that makes lowest terms -/
def gs (t b : Int) : Int := if b < 0 then -(Int.gcd t b : Int) else (Int.gcd t b : Int)
theorem gs_ne {t b : Int} (h : b ≠ 0) : gs t b ≠ 0 := by
  have := gcd_pos (t := t) h
  unfold gs
  split <;> omega
theorem low_num {t b : Int} (h : b ≠ 0) : t.fdiv (gs t b) = (Rat.divInt t b).num := by
  have hg := gcd_pos (t := t) h
  rw [Rat.num_divInt, Int.gcd_comm b t]
  unfold gs
  split
  · rename_i hb
    rw [Int.sign_eq_neg_one_of_neg hb, Int.neg_one_mul]
    rw [← Int.neg_fdiv_neg, Int.neg_neg, Int.fdiv_eq_ediv_of_nonneg _ (by omega)]
  · rw [Int.sign_eq_one_of_pos (by omega), Int.one_mul, Int.fdiv_eq_ediv_of_nonneg _ (by omega)]
theorem low_den {t b : Int} (h : b ≠ 0) : b.fdiv (gs t b) = ((Rat.divInt t b).den : Int) := by
  have hg := gcd_pos (t := t) h
  rw [Rat.den_divInt, if_neg h, Int.gcd_comm b t, Int.natCast_ediv]
  unfold gs
  split
  · rename_i hb
    rw [← Int.neg_fdiv_neg, Int.neg_neg, Int.fdiv_eq_ediv_of_nonneg _ (by omega)]
    congr 1
    omega
  · rw [Int.fdiv_eq_ediv_of_nonneg _ (by omega)]
    congr 1
    omega
theorem den_pos (q : Rat) : (0 : Int) < (q.den : Int) := by
  have := q.den_pos
  omega
/-- sizes -/
def Sz (n : Nat) (i : Int) : Prop := i.natAbs < 2 ^ n
def Rz (n : Nat) (q : Rat) : Prop := Sz n q.num ∧ Sz n q.den
theorem Sz.mono {n m : Nat} {i : Int} (h : Sz n i) (l : n ≤ m) : Sz m i := Nat.lt_of_lt_of_le h (Nat.pow_le_pow_right (by decide) l)
theorem Rz.mono {n m : Nat} {q : Rat} (h : Rz n q) (l : n ≤ m) : Rz m q := ⟨h.1.mono l, h.2.mono l⟩
theorem Sz.mul {n m : Nat} {i j : Int} (h : Sz n i) (k : Sz m j) : Sz (n + m) (i * j) := by
  unfold Sz
  rw [Int.natAbs_mul, Nat.pow_add]
  exact Nat.mul_lt_mul'' h k
theorem Sz.add {n m : Nat} {i j : Int} (h : Sz n i) (k : Sz n j) (l : n < m) : Sz m (i + j) := by
  have h' : i.natAbs < 2 ^ n := h
  have k' : j.natAbs < 2 ^ n := k
  have e : 2 ^ (n + 1) ≤ 2 ^ m := Nat.pow_le_pow_right (by decide) l
  rw [Nat.pow_succ] at e
  have z := Int.natAbs_add_le i j
  unfold Sz
  omega
theorem Sz.neg {n : Nat} {i : Int} (h : Sz n i) : Sz n (-i) := by
  unfold Sz
  rw [Int.natAbs_neg]
  exact h
theorem Sz.sub {n m : Nat} {i j : Int} (h : Sz n i) (k : Sz n j) (l : n < m) : Sz m (i - j) := by
  rw [Int.sub_eq_add_neg]
  exact h.add k.neg l
theorem natAbs_ediv_le (a : Int) {b : Nat} : (a / (b : Int)).natAbs ≤ a.natAbs := Int.natAbs_ediv_le_natAbs _ _
theorem Rz.divInt {n : Nat} {t b : Int} (h : Sz n t) (k : Sz n b) (h0 : 0 < n) : Rz n (Rat.divInt t b) := by
  refine ⟨?_, ?_⟩
  · unfold Sz
    rw [Rat.num_divInt]
    refine Nat.lt_of_le_of_lt (Int.natAbs_ediv_le_natAbs _ _) ?_
    rw [Int.natAbs_mul]
    refine Nat.lt_of_le_of_lt ?_ h
    have : b.sign.natAbs ≤ 1 := by
      rcases Int.lt_trichotomy b 0 with z | z | z
      · rw [Int.sign_eq_neg_one_of_neg z]; decide
      · rw [z]; decide
      · rw [Int.sign_eq_one_of_pos z]; decide
    calc b.sign.natAbs * t.natAbs ≤ 1 * t.natAbs := Nat.mul_le_mul_right _ this
      _ = t.natAbs := Nat.one_mul _
  · unfold Sz
    rw [Rat.den_divInt]
    split
    · show 1 < 2 ^ n
      exact Nat.one_lt_two_pow (by omega)
    · rw [Int.natAbs_natCast]
      exact Nat.lt_of_le_of_lt (Nat.div_le_self _ _) k
theorem add_eq (p q : Rat) : p + q = Rat.divInt (p.num * q.den + q.num * p.den) ((p.den : Int) * q.den) := by
  have := Rat.divInt_add_divInt p.num q.num (d₁ := p.den) (d₂ := q.den) (by have := den_pos p; omega) (by have := den_pos q; omega)
  rw [Rat.num_divInt_den, Rat.num_divInt_den] at this
  exact this
theorem sub_eq (p q : Rat) : p - q = Rat.divInt (p.num * q.den - q.num * p.den) ((p.den : Int) * q.den) := by
  rw [Rat.sub_eq_add_neg, add_eq]
  rw [Rat.neg_num, Rat.neg_den, Int.neg_mul, ← Int.sub_eq_add_neg]
theorem mul_eq (p q : Rat) : p * q = Rat.divInt (p.num * q.num) ((p.den : Int) * q.den) := by
  have := Rat.divInt_mul_divInt p.num q.num (d₁ := p.den) (d₂ := q.den)
  rw [Rat.num_divInt_den, Rat.num_divInt_den] at this
  exact this
theorem div_eq (p q : Rat) (h : q ≠ 0) : p / q = Rat.divInt (p.num * q.den) ((p.den : Int) * q.num) := by
  rw [Rat.div_def, mul_eq]
  have hq : q.num ≠ 0 := fun z => h (Rat.num_eq_zero.mp z)
  have e : q⁻¹ = Rat.divInt q.den q.num := by
    have := Rat.inv_divInt q.num q.den
    rw [Rat.num_divInt_den] at this
    exact this
  rw [← mul_eq, e]
  have := Rat.divInt_mul_divInt p.num q.den (d₁ := p.den) (d₂ := q.num)
  rw [Rat.num_divInt_den] at this
  exact this
theorem lt_iff' (p q : Rat) : p < q ↔ p.num * q.den < q.num * p.den := Rat.lt_iff p q
theorem Rz.add {n l m : Nat} {p q : Rat} (h : Rz n p) (k : Rz l q) (hl : n + l < m) : Rz m (p + q) := by
  rw [add_eq]
  exact Rz.divInt (Sz.add (n := n + l) ((h.1.mul k.2).mono (by omega)) ((k.1.mul h.2).mono (by omega)) hl) ((h.2.mul k.2).mono (by omega)) (by omega)
theorem Rz.sub {n l m : Nat} {p q : Rat} (h : Rz n p) (k : Rz l q) (hl : n + l < m) : Rz m (p - q) := by
  rw [sub_eq]
  exact Rz.divInt (Sz.sub (n := n + l) ((h.1.mul k.2).mono (by omega)) ((k.1.mul h.2).mono (by omega)) hl) ((h.2.mul k.2).mono (by omega)) (by omega)
theorem Rz.mul {n l m : Nat} {p q : Rat} (h : Rz n p) (k : Rz l q) (hl : n + l < m) : Rz m (p * q) := by
  rw [mul_eq]
  exact Rz.divInt ((h.1.mul k.1).mono (by omega)) ((h.2.mul k.2).mono (by omega)) (by omega)
theorem Rz.div {n l m : Nat} {p q : Rat} (h : Rz n p) (k : Rz l q) (z : q ≠ 0) (hl : n + l < m) : Rz m (p / q) := by
  rw [div_eq p q z]
  exact Rz.divInt ((h.1.mul k.2).mono (by omega)) ((h.2.mul k.1).mono (by omega)) (by omega)
theorem Rz.int {n : Nat} {i : Int} (h : Sz n i) (h0 : 0 < n) : Rz n (i : Rat) := ⟨h, (by show 1 < 2 ^ n; exact Nat.one_lt_two_pow (by omega))⟩
theorem Sz.floor {n : Nat} {q : Rat} (h : Rz n q) : Sz n q.floor := by
  unfold Sz
  rw [Rat.floor_def]
  exact Nat.lt_of_le_of_lt (Int.natAbs_ediv_le_natAbs _ _) h.1
theorem neg_div_ceil (q : Rat) : -(-q.num / (q.den : Int)) = q.ceil := by
  have := Rat.ceil_eq_neg_floor_neg q
  rw [this, Rat.floor_def, Rat.neg_num, Rat.neg_den]
theorem Rz.neg {n : Nat} {q : Rat} (h : Rz n q) : Rz n (-q) := ⟨by rw [Rat.neg_num]; exact h.1.neg, by rw [Rat.neg_den]; exact h.2⟩
theorem Sz.ceil {n : Nat} {q : Rat} (h : Rz n q) : Sz n q.ceil := by
  rw [Rat.ceil_eq_neg_floor_neg]
  exact (Sz.floor h.neg).neg
theorem Sz.of {n : Nat} {i : Int} (h1 : -(2 ^ n) < i) (h2 : i < 2 ^ n) : Sz n i := by
  unfold Sz
  have e : ((2 ^ n : Nat) : Int) = (2 : Int) ^ n := by simp
  omega
end MM
namespace MM
/-! the calendar's mathematics: floor, ceil, and the steps of months and marks -/
structure Fit (m y : Rat) : Prop where
  one : 1 ≤ m
  between : (m.ceil : Rat) ≤ y / 12
  thirteen : y + 1 ≤ 13 * m
theorem Fit.pos {m y : Rat} (f : Fit m y) : 0 < m := by
  have := f.one
  grind
theorem Fit.ypos {m y : Rat} (f : Fit m y) : 0 < y / 12 := by
  have h1 := f.one
  have h2 := f.between
  have h3 : m ≤ (m.ceil : Rat) := Rat.le_ceil
  grind
def stF (m o : Rat) (k : Int) : Int := (o + k * m).floor
def mdF (y k : Rat) (j : Int) : Int := (k + j * (y / 12)).floor
def maF (m o : Rat) (d : Int) : Int := ((((d + 1 : Int) : Rat) - o) / m).ceil - 1
def jF (y k : Rat) (d : Int) : Int := (((d : Rat) - k) / (y / 12)).ceil
theorem lt_ceil_iff {q : Rat} {i : Int} : i < q.ceil ↔ (i : Rat) < q := by
  have h : q.ceil ≤ i ↔ q ≤ (i : Rat) := Rat.ceil_le_iff
  constructor
  · intro hi
    have : ¬ q.ceil ≤ i := by omega
    rw [h] at this
    exact Rat.not_le.mp this
  · intro hi
    have : ¬ q ≤ (i : Rat) := Rat.not_le.mpr hi
    rw [← h] at this
    omega
theorem floor_le_iff {q : Rat} {i : Int} : q.floor ≤ i ↔ q < ((i + 1 : Int) : Rat) := by
  have h := Rat.floor_lt_iff (a := q) (x := i + 1)
  rw [← h]
  omega
/-- the months up to K begin by the day d -/
theorem st_le {m o : Rat} (hm : 0 < m) {k d : Int} : stF m o k ≤ d ↔ k ≤ maF m o d := by
  unfold stF maF
  rw [floor_le_iff]
  have e : k ≤ ((((d + 1 : Int) : Rat) - o) / m).ceil - 1 ↔ k < ((((d + 1 : Int) : Rat) - o) / m).ceil := by omega
  rw [e, lt_ceil_iff, Rat.lt_div_iff hm]
  constructor <;> intro h <;> grind
theorem ma_of {m o : Rat} (hm : 0 < m) {k d : Int} (h1 : stF m o k ≤ d) (h2 : d < stF m o (k + 1)) : maF m o d = k := by
  have a := (st_le hm).mp h1
  have b : ¬ k + 1 ≤ maF m o d := fun z => by
    have := (st_le hm).mpr z
    omega
  omega
theorem st_ma {m o : Rat} (hm : 0 < m) (d : Int) : stF m o (maF m o d) ≤ d := (st_le hm).mpr (Int.le_refl _)
theorem ma_st {m o : Rat} (hm : 0 < m) (d : Int) : d < stF m o (maF m o d + 1) := by
  have : ¬ stF m o (maF m o d + 1) ≤ d := fun z => by
    have := (st_le hm).mp z
    omega
  omega
theorem cast_add1 (k : Int) : ((k + 1 : Int) : Rat) = (k : Rat) + 1 := by
  rw [Rat.intCast_add]
  rfl
theorem st_step {m o : Rat} (hm : 1 ≤ m) (k : Int) : stF m o k + 1 ≤ stF m o (k + 1) := by
  unfold stF
  rw [Rat.le_floor_iff, cast_add1, cast_add1]
  have h := Rat.floor_le (o + (k : Rat) * m)
  grind
theorem md_lt {y k : Rat} (hy : 0 < y / 12) {j d : Int} : mdF y k j < d ↔ j < jF y k d := by
  unfold mdF jF
  rw [Rat.floor_lt_iff, lt_ceil_iff, Rat.lt_div_iff hy]
  constructor <;> intro h <;> grind
theorem md_ge {y k : Rat} (hy : 0 < y / 12) (d : Int) : d ≤ mdF y k (jF y k d) := by
  have : ¬ mdF y k (jF y k d) < d := fun z => by
    have := (md_lt hy).mp z
    omega
  omega
/-- of two months in a row one has a mark -/
theorem two_months {m y o k : Rat} (f : Fit m y) (i : Int) : mdF y k (jF y k (stF m o (i - 1))) < stF m o (i + 1) := by
  have hy := f.ypos
  have h1 : mdF y k (jF y k (stF m o (i - 1)) - 1) < stF m o (i - 1) := (md_lt hy).mpr (by omega)
  unfold mdF at h1 ⊢
  rw [Rat.floor_lt_iff] at h1 ⊢
  have e1 : ((jF y k (stF m o (i - 1)) - 1 : Int) : Rat) = (jF y k (stF m o (i - 1)) : Rat) - 1 := by rw [Rat.intCast_sub]; rfl
  rw [e1] at h1
  have h2 : ((stF m o (i - 1) : Int) : Rat) ≤ o + ((i - 1 : Int) : Rat) * m := Rat.floor_le _
  have h3 : o + ((i + 1 : Int) : Rat) * m - 1 < ((stF m o (i + 1) : Int) : Rat) := Rat.lt_floor
  have e2 : ((i - 1 : Int) : Rat) = (i : Rat) - 1 := by rw [Rat.intCast_sub]; rfl
  rw [e2] at h2
  rw [cast_add1] at h3
  have a := f.one
  have b := f.thirteen
  have c : y / 12 ≤ 2 * m - 1 := by grind
  grind
theorem k0_le {m o : Rat} (hm : 0 < m) (d : Int) : (((d : Rat) - o) / m).floor - 1 ≤ maF m o d := by
  have h : ((((d : Rat) - o) / m).floor - 1) < ((((d + 1 : Int) : Rat) - o) / m).ceil := by
    rw [lt_ceil_iff, Rat.intCast_sub]
    have h1 := Rat.floor_le (((d : Rat) - o) / m)
    have h2 : ((d : Rat) - o) / m < (((d + 1 : Int) : Rat) - o) / m := by
      rw [cast_add1, Rat.lt_div_iff hm, Rat.div_mul_cancel (by grind)]
      grind
    have h3 : ((1 : Int) : Rat) = 1 := rfl
    grind
  unfold maF
  omega
theorem j0_le {y k : Rat} (d : Int) : (((d : Rat) - k) / (y / 12)).floor - 1 ≤ jF y k d := by
  have h : (((d : Rat) - k) / (y / 12)).floor ≤ (((d : Rat) - k) / (y / 12)).ceil := Rat.intCast_le_intCast.mp (Rat.le_trans (Rat.floor_le _) Rat.le_ceil)
  unfold jF
  omega
end MM
namespace MM
theorem floor_divInt {t b : Int} (hb : 0 < b) : (Rat.divInt t b).floor = t / b := by
  rw [Rat.floor_def]
  have h := Rat.num_divInt_den (Rat.divInt t b)
  have hd := den_pos (Rat.divInt t b)
  rw [Rat.divInt_eq_divInt_iff (by omega) (by omega)] at h
  have e1 : t / b = (t * ((Rat.divInt t b).den : Int)) / (b * ((Rat.divInt t b).den : Int)) := (Int.mul_ediv_mul_of_pos_left _ _ hd).symm
  rw [e1, ← h, Int.mul_comm b, Int.mul_ediv_mul_of_pos_left _ _ hb]
theorem inv_eq (q : Rat) : q⁻¹ = Rat.divInt q.den q.num := by
  have := Rat.inv_divInt q.num q.den
  rw [Rat.num_divInt_den] at this
  exact this
theorem div12 (x y : Rat) (hy : y ≠ 0) : Rat.divInt (x.num * 12 * y.den) ((x.den : Int) * y.num) = x / (y / 12) := by
  have e : x / (y / 12) = x * 12 * y⁻¹ := by grind
  rw [e, inv_eq]
  have h1 : x * 12 = Rat.divInt (x.num * 12) ((x.den : Int) * 1) := by
    have h := Rat.divInt_mul_divInt x.num 12 (d₁ := x.den) (d₂ := 1)
    rw [Rat.num_divInt_den] at h
    exact h
  rw [h1, Rat.divInt_mul_divInt, Int.mul_one]
theorem Sz.between {n : Nat} {a x b : Int} (ha : Sz n a) (hb : Sz n b) (h1 : a ≤ x) (h2 : x ≤ b) : Sz n x := by
  unfold Sz at *
  omega
theorem Fit.ypos' {m y : Rat} (f : Fit m y) : 0 < y := by
  have := f.ypos
  grind
theorem num_pos {q : Rat} (h : 0 < q) : 0 < q.num := by
  have := (lt_iff' 0 q).mp h
  rw [show (0 : Rat).num = 0 from rfl, show (0 : Rat).den = 1 from rfl] at this
  omega
end MM
namespace MM
theorem unit_divInt {t b : Int} (h0 : 0 ≤ t) (h1 : t ≤ b) (hb : 0 < b) : 0 ≤ Rat.divInt t b ∧ Rat.divInt t b ≤ 1 := by
  have hb' : (0 : Rat) < (b : Rat) := Rat.intCast_lt_intCast.mpr hb
  have h0' : (0 : Rat) ≤ (t : Rat) := Rat.intCast_le_intCast.mpr h0
  have h1' : (t : Rat) ≤ (b : Rat) := Rat.intCast_le_intCast.mpr h1
  rw [Rat.divInt_eq_div]
  have e : (t : Rat) / (b : Rat) * (b : Rat) = t := Rat.div_mul_cancel (by grind)
  refine ⟨?_, ?_⟩
  · apply Rat.not_lt.mp
    intro z
    have := Rat.mul_lt_mul_of_pos_right z hb'
    grind
  · apply Rat.not_lt.mp
    intro z
    have := Rat.mul_lt_mul_of_pos_right z hb'
    grind
theorem cast_sub1 (w : Int) : ((w - 1 : Int) : Rat) = (w : Rat) - 1 := by
  rw [Rat.intCast_sub]
  rfl
theorem cast_12 (w : Int) : ((12 * w : Int) : Rat) = 12 * (w : Rat) := by
  rw [Rat.intCast_mul]
  rfl
/-- the law's drawn month and year make a calendar -/
theorem fit_drawn {w : Int} (hw : 1 ≤ w) {s r : Rat} (s0 : 0 ≤ s) (s1 : s ≤ 1) (r0 : 0 ≤ r) (r1 : r ≤ 1) :
    Fit ((((12 * w + 1 : Int) : Rat) + s * ((w - 1 : Int) : Rat)) * Rat.divInt 1 13) (((12 * w : Int) : Rat) + r * s * ((w - 1 : Int) : Rat)) := by
  have hW : (1 : Rat) ≤ (w : Rat) := Rat.intCast_le_intCast.mpr hw
  rw [cast_add1, cast_12, cast_sub1, Rat.divInt_eq_div]
  have a0 : 0 ≤ s * ((w : Rat) - 1) := Rat.mul_nonneg s0 (by grind)
  have a1 : s * ((w : Rat) - 1) ≤ 1 * ((w : Rat) - 1) := Rat.mul_le_mul_of_nonneg_right s1 (by grind)
  have b0 : 0 ≤ r * (s * ((w : Rat) - 1)) := Rat.mul_nonneg r0 a0
  have b1 : r * (s * ((w : Rat) - 1)) ≤ 1 * (s * ((w : Rat) - 1)) := Rat.mul_le_mul_of_nonneg_right r1 a0
  have e : r * s * ((w : Rat) - 1) = r * (s * ((w : Rat) - 1)) := Rat.mul_assoc _ _ _
  rw [e]
  have c1 : ((1 : Int) : Rat) = 1 := rfl
  have c13 : ((13 : Int) : Rat) = 13 := rfl
  rw [c1, c13]
  generalize s * ((w : Rat) - 1) = z at *
  generalize r * z = u at *
  refine ⟨by grind, ?_, by grind⟩
  have h : ((12 * (w : Rat) + 1 + z) * (1 / 13)).ceil ≤ w := Rat.ceil_le_iff.mpr (by grind)
  have h' : (((12 * (w : Rat) + 1 + z) * (1 / 13)).ceil : Rat) ≤ (w : Rat) := Rat.intCast_le_intCast.mpr h
  grind
end MM
namespace MM
open PySem PySem.Spec PyProof.Rows L2
/-! ### defs and their calls -/
/-- a def of the module under its name, with its defaults -/
structure Df (K : PySem.W.Frag) (mg : Str → Option Value) (x : Str) (st : Stmt) (dvs : List V) : Prop where
  ex : ∃ (f : Addr) (fd : FuncData), FunD K x x (defArgs st) (defBody st) (defScope st) dvs [] f fd ∧ mg x = some (.ref f)
/-- what is known of a def that is called: its promise, how it is bound -/
structure Ca (P : Program) (w : World) (K : PySem.W.Frag) (mg : Str → Option Value) (base : Heap) (CX : CXT) (k : Nat) (x : Str) (st : Stmt) (dvs : List V) (ps : List Str) (sp : Sp) : Prop where
  ex : ∃ (f : Addr) (fd : FuncData), FunD K x x (defArgs st) (defBody st) (defScope st) dvs [] f fd ∧ mg x = some (.ref f) ∧ FnOk P w K mg base CX k f fd ps sp
/-- the parameters of a def, all given by place -/
def Bd (x qual : Str) (st : Stmt) (ps : List Str) : Prop := ∀ (kV doc pm : Value) (an : Option Addr) (cdv ct : Value) (us : List Value), us.length = ps.length →
  bindArgs (PySem.W.fnOf x qual (defArgs st) (defBody st) (defScope st) .none kV doc pm an cdv ct) ⟨us, []⟩ = pure (ps.zip us)
section
variable {P : Program} {w : World} {K : PySem.W.Frag} {mg : Str → Option Value} {base : Heap} {x : Str} {st : Stmt} {dvs : List V} {N ps : List Str} {k : Nat} {sp : Sp}
theorem ca0 (D : Df K mg x st dvs) (S : FnScope N ps (defScope st)) (len : ∀ vs H Q E, sp vs H Q E → vs.length = ps.length)
    (body : ∀ (f : Addr) (cdv : Value) (A : Around) (outer : List Env) (s : Shared) (H : Hp) (vs : List V) (Q : VK) (E : XK), Room k (A.deeper (envOfC x (defScope st) s.heap.objs.size f cdv)) → sp vs H Q E →
      ∃ t, PSs (cxOf CX0 P w K mg base N x (defScope st) f cdv A outer s H E).nox (defBody st) t ∧ t { nx := fun _ H' => Q .non H', rt := Q } (start N vs) H) : Ca P w K mg base CX0 (k + 1) x st dvs ps sp := by
  obtain ⟨f, fd, F, hm⟩ := D.ex
  refine ⟨f, fd, F, hm, F.ok S len fun cdv A outer s H vs Q E hr h => ?_⟩
  obtain ⟨t, h1, h2⟩ := body f cdv A outer s H vs Q E hr h
  exact ⟨t, h1.nox, h2⟩
theorem caX (D : Df K mg x st dvs) (S : FnScope N ps (defScope st)) (len : ∀ vs H Q E, sp vs H Q E → vs.length = ps.length)
    (body : ∀ (f : Addr) (cdv : Value) (A : Around) (outer : List Env) (s : Shared) (H : Hp) (vs : List V) (Q : VK) (E : XK), Room k (A.deeper (envOfC x (defScope st) s.heap.objs.size f cdv)) → sp vs H Q E →
      ∃ t, PSs (cxOf (L2.CX P w) P w K mg base N x (defScope st) f cdv A outer s H E) (defBody st) t ∧ t { nx := fun _ H' => Q .non H', rt := Q } (start N vs) H) : Ca P w K mg base (L2.CX P w) (k + 1) x st dvs ps sp := by
  obtain ⟨f, fd, F, hm⟩ := D.ex
  exact ⟨f, fd, F, hm, F.ok S len fun cdv A outer s H vs Q E hr h => body f cdv A outer s H vs Q E hr h⟩
theorem FunD.none {qual : Str} {params : Arguments} {bodyS : List Stmt} {scope : Scope} {f : Addr} {fd : FuncData} (F : FunD K x qual params bodyS scope [] [] f fd) :
    ∃ (kV doc pm : Value) (an : Option Addr) (cdv ct : Value), fd = PySem.W.fnOf x qual params bodyS scope .none kV doc pm an cdv ct := by
  obtain ⟨oc, od, dV, kV, doc, pm, an, cdv, ct, osl, rfl, lk, hcd, hD, hK⟩ := F.ex
  rcases hD with ⟨_, rfl⟩ | ⟨e, _⟩
  · exact ⟨kV, doc, pm, an, cdv, ct, rfl⟩
  · exact absurd rfl e
end
section
variable {X : Cx} {CX : CXT} {k j n : Nat} {C : Addr} {x m : Str} {st : Stmt} {sp : Sp} {ps ks : List Str} {dvs : List V} {E : XK} {p pos apos : Pos} {e o : Expr} {es : List Expr} {kws : List Keyword} {ta : TE} {t tk : TA}
/-- f(e, ..), all parameters by place -/
theorem pe_ca (c : Ca X.prog X.w X.K X.mg X.base CX k x st [] ps sp) (b : Bd x x st ps) (hr : Room j X.A) (hk : k ≤ j) (hx : Passes CX X E) (hg : Gl X x) (ha : PA X (e :: es) t)
    (hdb : (x == ("__debug__" : Str)) = false := by decide) (he : starEach (e :: es) X.env = (false, eval e X.env) :: starEach es X.env := by rfl) (hpl : (backTo pos (starEach es X.env)).any (·.1) = false := by rfl) :
    PE X (.Call (.Name x p) (e :: es) [] pos) (tCall sp [] E t) := by
  obtain ⟨f, fd, F, hm, G⟩ := c.ex
  exact pe_call G (hr.mono hk) hg hm F.kp (F.bindsN b) .nil hx ha hdb he hpl
/-- how keywords bind where there is no default: g puts the places' values and the keywords' in order -/
structure Kb (x : Str) (st : Stmt) (n : Nat) (ks ps : List Str) (g : {α : Type} → List α → List α → List α) : Prop where
  bind : ∀ (kV doc pm : Value) (an : Option Addr) (cdv ct : Value) (us ws : List Value), us.length = n → ws.length = ks.length →
    bindArgs (PySem.W.fnOf x x (defArgs st) (defBody st) (defScope st) .none kV doc pm an cdv ct) ⟨us, ks.zip ws⟩ = pure (ps.zip (g us ws))
  rel : ∀ {vs zs : List V} {us ws : List Value}, vs.length = n → zs.length = ks.length → Vals vs us → Vals zs ws → Vals (g vs zs) (g us ws)
/-- f(k = v, ..) of a def without defaults -/
theorem pe_caK {g : {α : Type} → List α → List α → List α} (c : Ca X.prog X.w X.K X.mg X.base CX k x st [] ps sp) (b : Kb x st 0 ks ps g) (hr : Room j X.A) (hk : k ≤ j) (hx : Passes CX X E) (hg : Gl X x) (hkw : PK X kws tk)
    (hall : (backToKw pos (keywordEach kws X.env)).all (·.1.isSome) = true := by rfl) (hks : (backToKw pos (keywordEach kws X.env)).filterMap (·.1) = ks := by rfl) (hdb : (x == ("__debug__" : Str)) = false := by decide)
    (hpl : ((backTo pos (starEach [] X.env)).any (·.1) || (backToKw pos (keywordEach kws X.env)).any (·.1.isNone)) = false := by rfl) :
    PE X (.Call (.Name x p) [] kws pos) (fun σ H Q => tk σ H fun zs H2 => zs.length = ks.length ∧ sp (g [] zs) H2 Q E) := by
  obtain ⟨f, fd, F, hm, G⟩ := c.ex
  obtain ⟨kV, doc, pm, an, cdv, ct, rfl⟩ := FunD.none F
  refine ⟨fun pins s σ H Q I h => ?_⟩
  refine wpAny_Call_Name_kw (ld_glob I hg hm ?_ hdb)
  refine PySem.W.callWith_KW0 (h₀ := X.base) I.ok.mod.kin F.kp hall ?_ hpl
  refine thn (hkw.run pos pins s σ H _ I h) fun ws s2 ⟨zs, H2, I2, rz, l2, q2⟩ => ⟨I2.kIn, ?_⟩
  rw [hks]
  have r2 : Vals (g [] zs) (g [] ws) := b.rel rfl l2 .nil rz
  refine wpAny_call (codeAny_mono (G.run X.A X.stack s2 H2 ⟨[], ks.zip ws⟩ (g [] ws) (g [] zs) Q E (hr.mono hk) I2.env0 (.of_eq (b.bind kV doc pm an cdv ct [] ws rfl (rz.length.symm.trans l2))) r2 q2) fun r s' hq => ?_)
  match r, hq with
  | .error e, hq => exact hx pins σ H2 s2 e s' I2 hq
  | .ok (.ret u), hq => exact I2.after hq
  | .ok .next, hq => exact False.elim hq
  | .ok .brk, hq => exact False.elim hq
  | .ok .cont, hq => exact False.elim hq
end
/-! ### whole numbers -/
section
variable {X : Cx}
/-- // by any divisor but 0 -/
def CDivA (_ j : Int) : Prop := j ≠ 0 ∧ Sz 8900 j
theorem op_fdivA : OpR X (binaryOp .FloorDiv) (rI CDivA fun i j => .int (i.fdiv j)) := opI fun i j _ _ _ _ _ hc q =>
  PyProof.Rows.floordiv_int hc.1 q (.inl (PyProof.noPylong_of_log2 (Nat.lt_of_lt_of_le (PySem.Flt.log2_lt_of (by decide) hc.2) (by decide))))
/-- * of two numbers of some thousand bits -/
def CMulA (i j : Int) : Prop := Sz 100000 i ∧ Sz 100000 j
theorem op_mulA : OpR X (binaryOp .Mult) (rI CMulA fun i j => .int (i * j)) := opI fun i j _ _ _ _ _ hc q =>
  PyProof.Rows.mul_int q (CMulW.ok (wide_mul hc.1 hc.2 (by decide) (by decide) (by decide)))
end
/-! ### a pick out of a written list -/
theorem pick {α : Type} {xs : List α} {z : Int} {P : α → Prop} (h0 : 0 ≤ z) (h1 : z < xs.length) (h : ∀ x ∈ xs, P x) : ∃ v, atI xs z = some v ∧ P v := by
  have hl : z.toNat < xs.length := by omega
  refine ⟨xs[z.toNat], ?_, h _ (List.getElem_mem hl)⟩
  unfold atI ixN
  rw [if_pos h0, if_pos h1]
  exact List.getElem?_eq_getElem hl
end MM
namespace MM
open PySem PySem.Spec PyProof.Rows L2
/-- what binds where some parameters have defaults: n given by place, the defaults from the j-th on fill up -/
def Bd1 (x qual : Str) (st : Stmt) (ps : List Str) (n j m : Nat) : Prop := ∀ (T : Addr) (kV doc pm : Value) (an : Option Addr) (cdv ct : Value) (us its : List Value), us.length = n → its.length = m →
  ∃ k, bindArgs (PySem.W.fnOf x qual (defArgs st) (defBody st) (defScope st) (.ref T) kV doc pm an cdv ct) ⟨us, []⟩ = seqItems? (.ref T) >>= k ∧ k (some its.toArray) = pure (ps.zip (us ++ its.drop j))
/-- the __init__ of a class -/
structure Di (K : PySem.W.Frag) (mg : Str → Option Value) (x : Str) (C : Addr) (qual : Str) (st : Stmt) (dvs : List V) : Prop where
  ex : ∃ (f : Addr) (fd : FuncData), FunD K "__init__" qual (defArgs st) (defBody st) (defScope st) dvs [] f fd ∧ Mk K C f ∧ mg x = some (.ref C)
structure Ci (P : Program) (w : World) (K : PySem.W.Frag) (mg : Str → Option Value) (base : Heap) (CX : CXT) (k : Nat) (x : Str) (C : Addr) (qual : Str) (st : Stmt) (dvs : List V) (ps : List Str) (sp : Sp) : Prop where
  ex : ∃ (f : Addr) (fd : FuncData), FunD K "__init__" qual (defArgs st) (defBody st) (defScope st) dvs [] f fd ∧ Mk K C f ∧ mg x = some (.ref C) ∧ FnOk P w K mg base CX k f fd ps sp
/-- a method of a class -/
structure Dm (K : PySem.W.Frag) (C : Addr) (m qual : Str) (st : Stmt) : Prop where
  ex : ∃ (f : Addr) (fd : FuncData), FunD K m qual (defArgs st) (defBody st) (defScope st) [] [] f fd ∧ Meth K C m f ∧ Cls K C
structure Cm (P : Program) (w : World) (K : PySem.W.Frag) (mg : Str → Option Value) (base : Heap) (CX : CXT) (k : Nat) (C : Addr) (m qual : Str) (st : Stmt) (ps : List Str) (sp : Sp) : Prop where
  ex : ∃ (f : Addr) (fd : FuncData), FunD K m qual (defArgs st) (defBody st) (defScope st) [] [] f fd ∧ Meth K C m f ∧ Cls K C ∧ FnOk P w K mg base CX k f fd ps sp
section
variable {P : Program} {w : World} {K : PySem.W.Frag} {mg : Str → Option Value} {base : Heap} {x m qual : Str} {C : Addr} {st : Stmt} {dvs : List V} {N ps : List Str} {k : Nat} {sp : Sp}
theorem ci0 (D : Di K mg x C qual st dvs) (S : FnScope N ps (defScope st)) (len : ∀ vs H Q E, sp vs H Q E → vs.length = ps.length)
    (body : ∀ (f : Addr) (cdv : Value) (A : Around) (outer : List Env) (s : Shared) (H : Hp) (vs : List V) (Q : VK) (E : XK), Room k (A.deeper (envOfC qual (defScope st) s.heap.objs.size f cdv)) → sp vs H Q E →
      ∃ t, PSs (cxOf CX0 P w K mg base N qual (defScope st) f cdv A outer s H E).nox (defBody st) t ∧ t { nx := fun _ H' => Q .non H', rt := Q } (start N vs) H) : Ci P w K mg base CX0 (k + 1) x C qual st dvs ps sp := by
  obtain ⟨f, fd, F, M, hm⟩ := D.ex
  refine ⟨f, fd, F, M, hm, F.ok S len fun cdv A outer s H vs Q E hr h => ?_⟩
  obtain ⟨t, h1, h2⟩ := body f cdv A outer s H vs Q E hr h
  exact ⟨t, h1.nox, h2⟩
theorem ciX (D : Di K mg x C qual st dvs) (S : FnScope N ps (defScope st)) (len : ∀ vs H Q E, sp vs H Q E → vs.length = ps.length)
    (body : ∀ (f : Addr) (cdv : Value) (A : Around) (outer : List Env) (s : Shared) (H : Hp) (vs : List V) (Q : VK) (E : XK), Room k (A.deeper (envOfC qual (defScope st) s.heap.objs.size f cdv)) → sp vs H Q E →
      ∃ t, PSs (cxOf (L2.CX P w) P w K mg base N qual (defScope st) f cdv A outer s H E) (defBody st) t ∧ t { nx := fun _ H' => Q .non H', rt := Q } (start N vs) H) : Ci P w K mg base (L2.CX P w) (k + 1) x C qual st dvs ps sp := by
  obtain ⟨f, fd, F, M, hm⟩ := D.ex
  exact ⟨f, fd, F, M, hm, F.ok S len fun cdv A outer s H vs Q E hr h => body f cdv A outer s H vs Q E hr h⟩
theorem cm0 (D : Dm K C m qual st) (S : FnScope N ps (defScope st)) (len : ∀ vs H Q E, sp vs H Q E → vs.length = ps.length)
    (body : ∀ (f : Addr) (cdv : Value) (A : Around) (outer : List Env) (s : Shared) (H : Hp) (vs : List V) (Q : VK) (E : XK), Room k (A.deeper (envOfC qual (defScope st) s.heap.objs.size f cdv)) → sp vs H Q E →
      ∃ t, PSs (cxOf CX0 P w K mg base N qual (defScope st) f cdv A outer s H E).nox (defBody st) t ∧ t { nx := fun _ H' => Q .non H', rt := Q } (start N vs) H) : Cm P w K mg base CX0 (k + 1) C m qual st ps sp := by
  obtain ⟨f, fd, F, M, hc⟩ := D.ex
  refine ⟨f, fd, F, M, hc, F.ok S len fun cdv A outer s H vs Q E hr h => ?_⟩
  obtain ⟨t, h1, h2⟩ := body f cdv A outer s H vs Q E hr h
  exact ⟨t, h1.nox, h2⟩
end
section
variable {X : Cx} {CX : CXT} {k j n d : Nat} {C : Addr} {x m qual : Str} {st : Stmt} {sp : Sp} {ps ks : List Str} {dvs : List V} {E : XK} {p pos apos : Pos} {e o : Expr} {es : List Expr} {kws : List Keyword} {ta : TE} {t tk : TA}
/-- C(e, ..): n values, then the defaults from the d-th on; n counts self too -/
theorem pe_ci (c : Ci X.prog X.w X.K X.mg X.base CX k x C qual st dvs ps sp) (b : Bd1 "__init__" qual st ps n d dvs.length) (hd : dvs ≠ []) (hn : n + (dvs.length - d) = ps.length) (hr : Room j X.A) (hk : k + 1 ≤ j) (hx : Passes CX X E) (hg : Gl X x) (ha : PA X (e :: es) t)
    (hdb : (x == ("__debug__" : Str)) = false := by decide) (he : starEach (e :: es) X.env = (false, eval e X.env) :: starEach es X.env := by rfl) (hpl : (backTo pos (starEach es X.env)).any (·.1) = false := by rfl) :
    PE X (.Call (.Name x p) (e :: es) [] pos) (tMake C sp (dvs.drop d) E t) := by
  obtain ⟨f, fd, F, M, hm, G⟩ := c.ex
  obtain ⟨ds, r, bb⟩ := F.binds1 n d hd hn b
  exact pe_make M G (hr.mono hk) hg hm bb r hx ha hdb he hpl
/-- o.m(e, ..) -/
theorem pe_cm {pl : Sem Bool} (c : Cm X.prog X.w X.K X.mg X.base CX k C m qual st ps sp) (b : Bd m qual st ps) (hr : Room j X.A) (hk : k ≤ j) (hx : Passes CX X E) (he : PE X o ta) (ha : PA X (e :: es) t)
    (hst : starEach (e :: es) X.env = (false, eval e X.env) :: starEach es X.env := by rfl) (hpl : (backTo pos (starEach es X.env)).any (·.1) = false := by rfl)
    (ht : eval (.Call (.Attribute o m apos) (e :: es) [] pos) X.env = (eval o X.env >>= fun ov => standAt apos.atName >>= fun _ => holding [ov] (getMethod ov m pl) >>= fun q => callWith pos q.1 q.2 (backTo pos (starEach (e :: es) X.env)) (backToKw pos (keywordEach [] X.env))) := by rfl) :
    PE X (.Call (.Attribute o m apos) (e :: es) [] pos) (tMeth C m sp [] E ta t) := by
  obtain ⟨f, fd, F, M, hc, G⟩ := c.ex
  exact pe_meth (pl := pl) he hc M G (hr.mono hk) (F.bindsN b) .nil hx ha hst hpl ht
/-- how keywords bind in a method, or a def, without defaults -/
structure Kbm (x qual : Str) (st : Stmt) (n : Nat) (ks ps : List Str) (g : {α : Type} → List α → List α → List α) : Prop where
  bind : ∀ (kV doc pm : Value) (an : Option Addr) (cdv ct : Value) (us ws : List Value), us.length = n → ws.length = ks.length →
    bindArgs (PySem.W.fnOf x qual (defArgs st) (defBody st) (defScope st) .none kV doc pm an cdv ct) ⟨us, ks.zip ws⟩ = pure (ps.zip (g us ws))
  rel : ∀ {vs zs : List V} {us ws : List Value}, vs.length = n → zs.length = ks.length → Vals vs us → Vals zs ws → Vals (g vs zs) (g us ws)
/-- o.m(k = v, ..) -/
theorem pe_cmK {pl : Sem Bool} {g : {α : Type} → List α → List α → List α} (c : Cm X.prog X.w X.K X.mg X.base CX k C m qual st ps sp) (b : Kbm m qual st 1 ks ps g) (hr : Room j X.A) (hk : k ≤ j) (hx : Passes CX X E) (he : PE X o ta) (hkw : PK X kws tk)
    (hall : (backToKw pos (keywordEach kws X.env)).all (·.1.isSome) = true := by rfl) (hks : (backToKw pos (keywordEach kws X.env)).filterMap (·.1) = ks := by rfl)
    (hpl : ((backTo pos (starEach [] X.env)).any (·.1) || (backToKw pos (keywordEach kws X.env)).any (·.1.isNone)) = false := by rfl)
    (ht : eval (.Call (.Attribute o m apos) [] kws pos) X.env = (eval o X.env >>= fun ov => standAt apos.atName >>= fun _ => holding [ov] (getMethod ov m pl) >>= fun q => callWith pos q.1 q.2 (backTo pos (starEach [] X.env)) (backToKw pos (keywordEach kws X.env))) := by rfl) :
    PE X (.Call (.Attribute o m apos) [] kws pos) (fun σ H Q => ta σ H fun x H1 => ∃ a dx fs, x = .ref a ∧ H1 a = some (.ins C dx fs) ∧ fs.lookup m = none ∧ tk σ H1 fun zs H2 => zs.length = ks.length ∧ sp (g [.ref a] zs) H2 Q E) := by
  obtain ⟨f, fd, F, M, hc, G⟩ := c.ex
  obtain ⟨kV, doc, pm, an, cdv, ct, rfl⟩ := FunD.none F
  refine ⟨fun pins s σ H Q I h => ?_⟩
  refine PySem.W.methodCall_KW (pl := pl) (thn (he.run pins s σ H _ I h) fun u s1 ⟨y, H1, I1, ry, a, dx, fs, ey, ea, l, q⟩ => ?_) ht
  subst ey
  obtain rfl : u = Value.ref a := ry
  refine getmeth_ok I1 ea hc M l ?_
  refine PySem.W.callWith_KW0 (first := [.ref a]) (h₀ := X.base) I.ok.mod.kin M.kp hall ?_ hpl
  refine thn (hkw.run pos pins s1 σ H1 _ I1 q) fun ws s2 ⟨zs, H2, I2, rz, l2, q2⟩ => ⟨I2.kIn, ?_⟩
  rw [hks]
  have r2 : Vals (g [V.ref a] zs) (g [Value.ref a] ws) := b.rel rfl l2 (.cons rfl .nil) rz
  refine wpAny_call (codeAny_mono (G.run X.A X.stack s2 H2 ⟨[.ref a], ks.zip ws⟩ (g [.ref a] ws) (g [.ref a] zs) Q E (hr.mono hk) I2.env0 (.of_eq (b.bind kV doc pm an cdv ct [.ref a] ws rfl (rz.length.symm.trans l2))) r2 q2) fun r s' hq => ?_)
  match r, hq with
  | .error e, hq => exact hx pins σ H2 s2 e s' I2 hq
  | .ok (.ret u), hq => exact I2.after hq
  | .ok .next, hq => exact False.elim hq
  | .ok .brk, hq => exact False.elim hq
  | .ok .cont, hq => exact False.elim hq
end
/-- the keywords take their places: one self, the keywords in the parameters' order -/
def g1 {α : Type} : List α → List α → List α := fun us ws => us ++ ws
theorem g1_rel {n m : Nat} {vs zs : List V} {us ws : List Value} (_ : vs.length = n) (_ : zs.length = m) (h : Vals vs us) (k : Vals zs ws) : Vals (g1 vs zs) (g1 us ws) := h.append k
/-- how C(.., k = v, ..) binds where __init__ has defaults -/
structure Kd (qual : Str) (st : Stmt) (dn n : Nat) (ks ps : List Str) (g : {α : Type} → List α → List α → List α → List α) : Prop where
  bind : ∀ (T : Addr) (kV doc pm : Value) (an : Option Addr) (cdv ct : Value) (us its ws : List Value), us.length = n → its.length = dn → ws.length = ks.length →
    ∃ k, bindArgs (PySem.W.fnOf "__init__" qual (defArgs st) (defBody st) (defScope st) (.ref T) kV doc pm an cdv ct) ⟨us, ks.zip ws⟩ = seqItems? (.ref T) >>= k ∧ k (some its.toArray) = pure (ps.zip (g us its ws))
  rel : ∀ {vs ds zs : List V} {us its ws : List Value}, Vals vs us → Vals ds its → Vals zs ws → Vals (g vs ds zs) (g us its ws)
section
variable {X : Cx} {CX : CXT} {k j n d : Nat} {C : Addr} {x m qual : Str} {st : Stmt} {sp : Sp} {ps ks : List Str} {dvs : List V} {E : XK} {p pos apos : Pos} {e o : Expr} {es : List Expr} {kws : List Keyword} {ta : TE} {t tk : TA}
theorem pe_ciK0 {g : {α : Type} → List α → List α → List α → List α} (c : Ci X.prog X.w X.K X.mg X.base CX k x C qual st dvs ps sp) (b : Kd qual st dvs.length 1 ks ps g) (hd : dvs ≠ []) (hr : Room j X.A) (hk : k + 1 ≤ j) (hx : Passes CX X E) (hg : Gl X x) (hkw : PK X kws tk)
    (hall : (backToKw pos (keywordEach kws X.env)).all (·.1.isSome) = true := by rfl) (hks : (backToKw pos (keywordEach kws X.env)).filterMap (·.1) = ks := by rfl) (hdb : (x == ("__debug__" : Str)) = false := by decide)
    (hpl : ((backTo pos (starEach [] X.env)).any (·.1) || (backToKw pos (keywordEach kws X.env)).any (·.1.isNone)) = false := by rfl) :
    PE X (.Call (.Name x p) [] kws pos) (tMakeK C 0 ks.length sp (fun vs zs => g vs dvs zs) E tNil tk) := by
  obtain ⟨f, fd, F, M, hm, G⟩ := c.ex
  obtain ⟨its, hb⟩ := F.kbindsD 1 ks g hd b.rel b.bind
  exact pe_makeK0 M G (hr.mono hk) hg hm hb hx hkw hall hks hdb hpl
theorem pe_ciK {g : {α : Type} → List α → List α → List α → List α} (c : Ci X.prog X.w X.K X.mg X.base CX k x C qual st dvs ps sp) (b : Kd qual st dvs.length (n + 1) ks ps g) (hd : dvs ≠ []) (hr : Room j X.A) (hk : k + 1 ≤ j) (hx : Passes CX X E) (hg : Gl X x) (ha : PA X (e :: es) t) (hkw : PK X kws tk)
    (hall : (backToKw pos (keywordEach kws X.env)).all (·.1.isSome) = true := by rfl) (hks : (backToKw pos (keywordEach kws X.env)).filterMap (·.1) = ks := by rfl) (hdb : (x == ("__debug__" : Str)) = false := by decide)
    (he : starEach (e :: es) X.env = (false, eval e X.env) :: starEach es X.env := by rfl) (hpl : ((backTo pos (starEach (e :: es) X.env)).any (·.1) || (backToKw pos (keywordEach kws X.env)).any (·.1.isNone)) = false := by rfl) :
    PE X (.Call (.Name x p) (e :: es) kws pos) (tMakeK C n ks.length sp (fun vs zs => g vs dvs zs) E t tk) := by
  obtain ⟨f, fd, F, M, hm, G⟩ := c.ex
  obtain ⟨its, hb⟩ := F.kbindsD (n + 1) ks g hd b.rel b.bind
  exact pe_makeK M G (hr.mono hk) hg hm hb hx ha hkw hall hks hdb he hpl
end
end MM
namespace MM
open PySem PySem.Spec PyProof.Rows L2
/-! ### range(a, b) of numbers of any size -/
theorem turn_long {P : Program} {w : World} {K : PySem.W.Frag} {tg : Expr} (it : Addr) (lo : Int) (n : Nat) : Turn P w K tg (Itr lo n) [it] it (fun i h => IsLongIter h it (lo + (i : Nat) * 1) ((n : Int) - (i : Nat)) 1) := by
  refine { mem := List.mem_singleton.mpr rfl, obj := fun i h st b hb => ?_, keep := fun i h h' st k => k it (List.mem_singleton.mpr rfl) _ st, item := ?_, done := ?_, self := fun _ _ _ _ _ st h => wpAny_pyIter_longiter st h }
  · cases List.mem_singleton.mp hb
    exact ⟨_, st, fun v z => nomatch (show Data.fields _ = Data.cell v from z)⟩
  · intro X hP hw hK hc i pins s σ H E I hf st hg
    subst hP; subst hw; subst hK
    obtain ⟨f0, f1, f2, f3, f4, f5⟩ := hf it (List.mem_singleton.mpr rfl)
    refine (Walks.longrange (prog := X.prog) (w := X.w) (I.ok.hd hc) it lo 1 n).item i s _ _ hg st fun v h' tk hv st' kk => ?_
    obtain ⟨t, rfl⟩ := hv
    have J : Inv X pins σ H { s with heap := h', toks := tk } := I.turned (fun b o hb e => kk b o (fun z => hb (List.mem_singleton.mp z)) e) f0 f1 f3 f4 f5
    refine ⟨_, rfl, go_of (s := { s with heap := h', toks := tk }) (n := "longrange_iterator") st' rfl rfl (by decide) ⟨.int (lo + i), H, J, ⟨t, ?_⟩, ⟨rfl, rfl⟩, st', fun b hb => (hf b hb).1⟩⟩
    rw [Int.mul_one]
  · intro X hP hw hK hc i pins s σ H E I hf st hg
    subst hP; subst hw; subst hK
    obtain ⟨f0, f1, f2, f3, f4, f5⟩ := hf it (List.mem_singleton.mpr rfl)
    have hl : n ≤ i := hg
    exact wpAny_pyNext_long_end (I.ok.hd hc) st (by omega) fun h' eb => ⟨rfl, I.turned (t' := s.toks) (fun b o hb e => eb b o hb e) f0 f1 f3 f4 f5⟩
section
variable {X : Cx} {tg : Expr}
theorem long_it {pins : List (Addr × Obj)} {σ : L2.St} {H : Hp} {s : Shared} {R : It → Hp → Prop} {E : Value → Shared → Prop} {lo hi : Int} {t u v : Tok} {tk : Nat} (I : Inv X pins σ H s) (q : R (Itr lo (hi - lo).toNat) H) :
    wpAny (model X.prog X.w) X.A (pyIter (.ref s.heap.objs.size)) (PIE X pins σ tg R) E { s with heap := s.heap.push { cls := .type "range", data := .fields #[.int lo t, .int hi u, .int 1 v] }, toks := tk } := by
  have J : Inv X pins σ H { s with heap := s.heap.push { cls := .type "range", data := .fields #[.int lo t, .int hi u, .int 1 v] }, toks := tk } := I.kept fun b o e => Heap.get?_push_of_some _ e
  have e0 : lo + ((0 : Nat) : Int) * 1 = lo := by simp
  have e1 : (((hi - lo).toNat : Nat) : Int) - ((0 : Nat) : Int) = Builtin.Range.rangeSize lo hi 1 := by
    rw [rangeSize_one]
    split <;> omega
  cases hsm : Builtin.Range.small lo hi 1 with
  | true =>
    refine wpAny_pyIter_range (IsRange.new ..) hsm ⟨_, [_], _, _, H, rfl, J.kept (t' := tk) fun b o e => Heap.get?_push_of_some _ e, turn_range _ lo (hi - lo).toNat, ?_, fun b hb => ?_, q⟩
    · show IsRangeIter _ _ (lo + ((0 : Nat) : Int) * 1) ((((hi - lo).toNat : Nat) : Int) - ((0 : Nat) : Int)) 1
      rw [e0, e1]
      exact Heap.get?_push_size _ rfl
    · cases List.mem_singleton.mp hb
      exact J.fpOk (Nat.le_refl _) (J.hok.fresh (Nat.le_refl _))
  | false =>
    refine wpAny_pyIter_longrange (IsRange.new ..) hsm ⟨_, [_], _, _, H, rfl, J.kept (t' := tk) fun b o e => Heap.get?_push_of_some _ e, turn_long _ lo (hi - lo).toNat, ?_, fun b hb => ?_, q⟩
    · show IsLongIter _ _ (lo + ((0 : Nat) : Int) * 1) ((((hi - lo).toNat : Nat) : Int) - ((0 : Nat) : Int)) 1
      rw [e0, e1]
      exact Heap.get?_push_size _ rfl
    · cases List.mem_singleton.mp hb
      exact J.fpOk (Nat.le_refl _) (J.hok.fresh (Nat.le_refl _))
def iRngA (ta : TA) : TI := fun σ H R => ta σ H fun vs H1 => ∃ i j : Int, vs = [.int i, .int j] ∧ R (Itr i (j - i).toNat) H1
theorem pi_rangeA {a b : Expr} {ta : TA} {p pos : Pos} (hg : Gl X "range") (hm : X.mg "range" = none) (ha : PA X [a, b] ta) (hs : starEach [a, b] X.env = [(false, eval a X.env), (false, eval b X.env)] := by rfl) (hs2 : starEach [b] X.env = [(false, eval b X.env)] := by rfl) :
    PI X tg (.Call (.Name "range" p) [a, b] [] pos) (iRngA ta) := by
  refine ⟨fun pins s σ H R I h => Call_ (ld_blt I hg hm boot_range (PyProof.Rows.callWith_type1 (thn (ha.run pos pins s σ H _ I h) fun us s1 ⟨vs, H1, I1, r1, q1⟩ => ?_) (by rw [hs, hs2]) (by rw [hs2]; rfl)))⟩
  obtain ⟨i, j, e, q⟩ := q1
  subst e
  obtain ⟨u1, u2, rfl, ⟨t, rfl⟩, ⟨t', rfl⟩⟩ := vals2 r1
  exact call_range_2 (long_it I1 q)
end
end MM
namespace MM
open PySem PySem.Spec PyProof.Rows L2
section
variable {K : PySem.W.Frag} {h : Heap} {mg : Str → Option Value} {x m qual : Str} {st : Stmt} {f C T : Addr} {oc kV doc pm cdv ct cT : Value} {od an dT : Option Addr} {osl sT : Array (Option Value)} {nT : Nat}
theorem df_mk (X : K.In h) (G : h.Ns mainGlobals mg) (a : PySem.W.nsIn K mainGlobals x = some (some (.ref f))) (l : K.lookup f = some ⟨oc, od, .func (PySem.W.fnOf x x (defArgs st) (defBody st) (defScope st) .none kV doc pm an cdv ct), osl⟩)
    (c : PySem.W.codeIn K cdv x = true) (k : PySem.W.keepIn K (.ref f) = true) : Df K mg x st [] :=
  ⟨f, _, ⟨⟨oc, od, .none, kV, doc, pm, an, cdv, ct, osl, rfl, l, c, .inl ⟨rfl, rfl⟩, .inl rfl⟩, k⟩, PySem.W.mg_of X G a⟩
theorem dm_mk (cl : Cls K C) (a : PySem.W.findIn K (.ref C) m = some (some (.ref f))) (i : PySem.W.isFn K (.ref f) = true) (l : K.lookup f = some ⟨oc, od, .func (PySem.W.fnOf m qual (defArgs st) (defBody st) (defScope st) .none kV doc pm an cdv ct), osl⟩)
    (c : PySem.W.codeIn K cdv qual = true) (k : PySem.W.keepIn K (.ref f) = true) : Dm K C m qual st :=
  ⟨f, _, ⟨⟨oc, od, .none, kV, doc, pm, an, cdv, ct, osl, rfl, l, c, .inl ⟨rfl, rfl⟩, .inl rfl⟩, k⟩, ⟨a, i, k⟩, cl⟩
theorem di_mk {its : List Value} {dvs : List V} (hC : mg x = some (.ref C)) (a : PySem.W.findIn K (.ref C) "__init__" = some (some (.ref f))) (i : PySem.W.isFn K (.ref f) = true)
    (l : K.lookup f = some ⟨oc, od, .func (PySem.W.fnOf "__init__" qual (defArgs st) (defBody st) (defScope st) (.ref T) kV doc pm an cdv ct), osl⟩) (c : PySem.W.codeIn K cdv qual = true) (k : PySem.W.keepIn K (.ref f) = true)
    (mk : PySem.W.makesIn K C = true) (kc : PySem.W.keepIn K (.ref C) = true) {oT : Obj} (lT : K.lookup T = some oT) (eT : oT.data = .seq its.toArray nT) (r : Vals dvs its) (ne : dvs ≠ []) : Di K mg x C qual st dvs :=
  ⟨f, _, ⟨⟨oc, od, .ref T, kV, doc, pm, an, cdv, ct, osl, rfl, l, c, .inr ⟨ne, T, _, its, nT, rfl, lT, eT, r⟩, .inl rfl⟩, k⟩, ⟨mk, a, i, kc⟩, hC⟩
theorem kit_no {t : Value} (iC : PySem.W.isClsIn K C = true) (tC : PySem.W.typeIn K (.ref C) = some (.type "type")) (ht : (t == Value.ref C) = false) (sI : PySem.W.subIn K t (.ref C) = some false) : PySem.W.kitOne K t (.ref C) = some false := by
  unfold PySem.W.kitOne PySem.W.kitCls
  have iC' : (PySem.W.clsIn K C).isSome = true := iC
  rw [ht, if_neg Bool.false_ne_true]
  show (if ((PySem.W.clsIn K C).isSome && PySem.W.typeIn K (.ref C) == some (.type "type")) = true then PySem.W.subIn K t (.ref C) else none) = some false
  rw [iC', tC, if_pos (by simp)]
  exact sI
theorem fund_inj {params : Arguments} {body : List Stmt} {scope : Scope} {dvs : List V} {kws : List (Str × V)} {fd fd' : FuncData} (F : FunD K x qual params body scope dvs kws f fd) (F' : FunD K x qual params body scope dvs kws f fd') : fd = fd' := by
  obtain ⟨oc, od, dV, kV, doc, pm, an, cdv, ct, osl, e, lk, _⟩ := F.ex
  obtain ⟨oc', od', dV', kV', doc', pm', an', cdv', ct', osl', e', lk', _⟩ := F'.ex
  rw [lk] at lk'
  injection lk' with z
  injection z with z1 z2 z3 z4
  injection z3
end
/-- from the law's promise to what the end of the walk asks -/
theorem fin_of {P : Program} {w : World} {K : PySem.W.Frag} {mg : Str → Option Value} {st : Stmt} {k : Nat} {x : Str} {sp : Sp} {fa : Addr} (hfa : mg "law" = some (.ref fa)) (D : Df K mg "law" st []) (b : Bd "law" "law" st [x])
    (h : ∀ base : Heap, Ca P w K mg base CX0 k "law" st [] [x] sp) :
    ∃ fd : FuncData, (∀ (s : Shared) (u : Value), BindsTo s fd ⟨[u], []⟩ [(x, u)]) ∧ ∀ base : Heap, K.In base → base.Ns mainGlobals mg → FnOk P w K mg base CX0 k fa fd [x] sp := by
  obtain ⟨f, fd, F, hm⟩ := D.ex
  have e := hfa.symm.trans hm
  cases e
  refine ⟨fd, fun s u => ?_, fun base _ _ => ?_⟩
  · obtain ⟨kV, doc, pm, an, cdv, ct, rfl⟩ := FunD.none F
    exact .of_eq (b kV doc pm an cdv ct [u] rfl)
  · obtain ⟨f', fd', F', hm', G⟩ := (h base).ex
    have e' := hm.symm.trans hm'
    cases e'
    have e2 := fund_inj F F'
    subst e2
    exact G
end MM
namespace MM
open PySem PySem.Spec PyProof.Rows L2
/-! ### an except clause with a tuple of classes -/
theorem for_true {M : Model} {A : Around} {E : Value → Shared → Prop} {s : Shared} {Q : PUnit → Shared → Prop} {f : Value → PUnit → Sem (ForInStep PUnit)} : ∀ (cs : List Value),
    (∀ c ∈ cs, ∀ Q' : ForInStep PUnit → Shared → Prop, Q' (.yield .unit) s → wpAny M A (f c .unit) Q' E s) → Q .unit s → wpAny M A (forIn cs PUnit.unit f) Q E s
  | [], _, q => by
    rw [List.forIn_nil]
    exact wpAny_pure q
  | c :: cs, h, q => by
    rw [List.forIn_cons]
    exact wpAny_bind (h c List.mem_cons_self _ (for_true cs (fun d hd => h d (List.mem_cons_of_mem _ hd)) q))
theorem for_first {M : Model} {A : Around} {E : Value → Shared → Prop} {s : Shared} {Q : Option Bool × Unit → Shared → Prop} {f : Value → Option Bool × Unit → Sem (ForInStep (Option Bool × Unit))} {B : Value → Bool} : ∀ (cs : List Value),
    (∀ c ∈ cs, ∀ Q' : ForInStep (Option Bool × Unit) → Shared → Prop, Q' (if B c then .done (some true, ()) else .yield (none, ())) s → wpAny M A (f c (none, ())) Q' E s) →
    Q (if cs.any B then (some true, ()) else (none, ())) s → wpAny M A (forIn cs ((none, ()) : Option Bool × Unit) f) Q E s
  | [], _, q => by
    rw [List.forIn_nil]
    exact wpAny_pure q
  | c :: cs, h, q => by
    rw [List.forIn_cons]
    refine wpAny_bind (h c List.mem_cons_self _ ?_)
    cases hb : B c with
    | true =>
      rw [List.any_cons, hb, Bool.true_or] at q
      exact wpAny_pure q
    | false =>
      rw [List.any_cons, hb, Bool.false_or] at q
      exact for_first cs (fun d hd => h d (List.mem_cons_of_mem _ hd)) q
theorem exm_tups {M : Model} {K : PySem.W.Frag} {cls : Value} {cs : List Value} {tp e : Addr} {h : Heap} {o : Obj} {n : Nat} {B : Value → Bool} (X : K.In h) (LT : PySem.W.Looks M h (typeOf (.ref e)) cls) (hp : h.get? tp = some o) (hc : o.cls = .type "tuple") (hd : o.data = .seq cs.toArray n)
    (hx : ∀ c ∈ cs, PySem.W.exmOne K cls c = some (B c)) : PySem.W.Looks M h (excMatches (.ref e) (.ref tp)) (cs.any B) := by
  intro A Q E s k q
  have LT0 : PySem.W.Looks M h (isInstance (.ref tp) (.type "tuple")) true := by
    refine PySem.W.Looks.andThen (a := .type "tuple") (fun A Q E s k q => wpAny_typeOf_ref (k _ _ hp) (by rw [hc]; exact q)) (PySem.W.Looks.of_pure isSubtype_tuple_tuple)
  unfold excMatches
  refine wpAny_bind ((LT0.keeps k).here ?_)
  dsimp only
  rw [if_pos rfl]
  refine wpAny_bind (wpAny_seqItems (k _ _ hp) hd (wpAny_bind (wpAny_pure ?_)))
  show wpAny M A (forIn cs PUnit.unit _ >>= _) _ _ _
  refine wpAny_bind (for_true cs (fun c hcm Q' q' => ?_) ?_)
  · refine wpAny_bind (((PySem.W.exm_cls (M := M) X (hx c hcm)).1.keeps k).here ?_)
    rw [if_neg (by decide)]
    exact wpAny_pure q'
  · refine wpAny_bind ((LT.keeps k).here (wpAny_bind (for_first (B := B) cs (fun c hcm Q' q' => ?_) ?_)))
    · refine wpAny_bind (((PySem.W.exm_cls (M := M) X (hx c hcm)).2.keeps k).here ?_)
      cases hb : B c with
      | true =>
        rw [hb] at q'
        rw [if_pos rfl]
        exact wpAny_pure q'
      | false =>
        rw [hb] at q'
        rw [if_neg (by decide)]
        exact wpAny_pure q'
    · cases hb : cs.any B with
      | true =>
        rw [hb] at q
        exact wpAny_pure q
      | false =>
        rw [hb] at q
        exact wpAny_pure q
/-! ### a caught exception that is kept -/
/-- at a: an exception of the class cls, its own dict at d -/
def KX (a : Addr) (cls : Value) (d : Option Addr) : HO := .ext fun h => ∃ (oe : Obj) (vs : Array Value), h.get? a = some oe ∧ Zc cls d oe ∧ oe.data = .fields vs
theorem kx_ok {P : Program} {w : World} {H : Hp} {h : Heap} {a : Addr} {cls : Value} {d : Option Addr} {oe : Obj} {vs : Array Value} (e : h.get? a = some oe) (z : Zc cls d oe) (hd : oe.data = .fields vs) : ObjOk P w H h a (KX a cls d) :=
  ⟨⟨oe, vs, e, z, hd⟩, ⟨oe, e⟩, fun h1 h2 ⟨o, v, e1, z1, d1⟩ k => ⟨o, v, k _ e1, z1, d1⟩⟩
section
variable {X : Cx} {pins : List (Addr × Obj)} {σ : L2.St} {H : Hp} {s : Shared} {a : Addr} {oe : Obj} {vs : Array Value} {cls : Value} {d : Option Addr}
theorem Inv.track (I : Inv X pins σ H s) (ha : s.heap.get? a = some oe) (hz : Zc cls d oe) (hd : oe.data = .fields vs) (na : H a = none) (n0 : X.s_0.heap.get? a = none) (nL : a ≠ X.env.locals) (nC : ∀ x c, X.env.cells.lookup x = some c → c ≠ a)
    (nP : ∀ p ∈ X.pn ++ pins, p.1 ≠ a) : Inv X pins σ (L2.upd H a (KX a cls d)) s := by
  have neA : ∀ {b : Addr} {o : HO}, H b = some o → b ≠ a := fun e => ne_of_none e na
  have ne0 : ∀ {b : Addr} {o : Obj}, X.s_0.heap.get? b = some o → b ≠ a := fun e z => by
    rw [z, n0] at e
    cases e
  refine ⟨I.ok, I.os, I.bare, ⟨I.base.keep, I.base.slot, fun b o e n hx => ?_, I.base.there, fun b xs e => ?_, fun b o u e => ?_, fun b ps e => ?_⟩, I.loc, I.cell, ?_, fun x c e => ?_, fun p hp => ?_, fun b u e => ?_, I.len⟩
  · rw [upd_ne (ne0 e)]
    exact I.base.free b o e n hx
  · have q := I.base.tups b xs e
    rw [upd_ne (neA q)]
    exact q
  · have q := I.base.frzs b o u e
    rw [upd_ne (neA q)]
    exact q
  · obtain ⟨m, q⟩ := I.base.tbls b ps e
    exact ⟨m, by rw [upd_ne (neA q)]; exact q⟩
  · rw [upd_ne nL.symm]
    exact I.free
  · rw [upd_ne (nC x c e)]
    exact I.freeC x c e
  · obtain ⟨q1, q2, q3⟩ := I.pin p hp
    exact ⟨q1, by rw [upd_ne (nP p hp)]; exact q2, q3⟩
  · by_cases hb : b = a
    · subst hb
      rw [upd_same] at e
      cases e
      exact kx_ok ha hz hd
    · rw [upd_ne hb] at e
      exact (I.hok b u e).stay (fun c v _ q => q) (fun c q => by rw [upd_ne (neA q)]; exact q) fun c xs q => by rw [upd_ne (neA q)]; exact q
end
theorem flying_more {B h h' : Heap} {l : List Env} {e : Addr} {Z : Obj → Prop} (x : HandSPX.FlyingZ B l e Z h) (k : ∀ b o, h.get? b = some o → h'.get? b = some o) : HandSPX.FlyingZ B l e Z h' := by
  obtain ⟨f1, f2, f3, oe, vs, T, oT, ts, he, hz, hd, h1, hnT, hTe, hT, hdT, h3⟩ := x
  exact ⟨fun b o q => k b o (f1 b o q), f2, f3.of_keeps fun b o hb _ => ⟨o, k b o hb, rfl⟩, oe, vs, T, oT, ts, k _ _ he, hz, hd, h1, hnT, hTe, k _ _ hT, hdT, h3⟩
/-- the names of a tuple of classes -/
inductive Nms (X : Cx) : List Expr → List Value → Prop
  | nil : Nms X [] []
  | cons {x : Str} {p : Pos} {c : Value} {es : List Expr} {cs : List Value} (g : Gl X x) (d : (x == ("__debug__" : Str)) = false) (m : X.mg x = some c) (r : Nms X es cs) : Nms X (.Name x p :: es) (c :: cs)
/-- what try .. except (..) as n: m = n wishes of an exception of the body: i is n's slot, j m's -/
def wKeep (K : PySem.W.Frag) (cs : List Value) (i j : Nat) (D : Ends) : WX := fun cls d σ H =>
  (∃ B : Value → Bool, (∀ c ∈ cs, PySem.W.exmOne K cls c = some (B c)) ∧ cs.any B = true) ∧ ∀ a, H a = none → D.nx (((σ.set i (some (.ref a))).set j (some (.ref a))).set i none) (L2.upd H a (KX a cls d))
section
variable {X : Cx} {cs : List Value} {es : List Expr} {n m : Str} {i j : Nat} {body : List Stmt} {kt : Nat} {tpos np mp apos pos pos' : Pos} {tb : WX → TS}
theorem nms_run {Y : Cx} {pins : List (Addr × Obj)} {σ : L2.St} {H : Hp} {s : Shared} (I : Inv Y pins σ H s) {es : List Expr} {cs : List Value} (h : Nms Y es cs) : ∀ {Q : List Value → Shared → Prop} {E : Value → Shared → Prop} {pos : Pos}, Q cs s →
    wpAny (model Y.prog Y.w) Y.A (spliced (backTo pos (starEach es Y.env))) Q E s := by
  induction h with
  | nil => exact fun q => wpAny_items_nil q
  | cons g d m r ih => exact fun q => wpAny_items_cons (ld_glob I g m (ih q) d)
theorem Nms.to {X Y : Cx} (he : Y.env = X.env) (hm : Y.mg = X.mg) {es : List Expr} {cs : List Value} (h : Nms X es cs) : Nms Y es cs := by
  induction h with
  | nil => exact .nil
  | cons g d m r ih => exact .cons (by unfold Gl; rw [he]; exact g) d (by rw [hm]; exact m) ih
/-- try: body / except (..) as n: m = n; nothing else leaves the body -/
theorem ps_try_keep (hs : X.stack = X.env :: X.outer) (hf : X.env.frame = some X.env.locals) (hex : X.ex = []) (hN : X.N.Nodup) (hi : X.N[i]? = some n) (hln : X.env.kindOf n = some .local) (hj : X.N[j]? = some m) (hlm : X.env.kindOf m = some .local) (hc : Nms X es cs) (hz : cs.length ≤ 100)
    (hdb : (n == ("__debug__" : Str)) = false := by decide) (hcd : (n == ("__classdict__" : Str)) = false := by decide)
    (hb : ∀ (W : WX) (pn : List (Addr × Obj)) (xe : Value → Shared → Prop), Takes (X.tr pn xe) W → PassesOwn (model X.prog X.w) X.A X.env xe → PSs (X.tr pn xe) body (tb W))
    (hsw : swapsWith (.Name n np) (some (.Name m mp)) apos.line X.env = pure false := by rfl) :
    PS X (.Try body [.ExceptHandler (some (.Tuple es kt tpos)) (some n) [.Assign [.Name m mp] (.Name n np) apos] pos'] [] [] pos) (fun D σ H => tb (wKeep X.K cs i j D) D σ H) := by
  refine ⟨fun pins s σ H D I h => ?_⟩
  have ok := I.ok
  have hfr : X.A.frames = some (X.env :: X.outer) := by rw [ok.frames, hs]
  refine wpAny_Try_except ?_
  refine wpAny_mono ((hb (wKeep X.K cs i j D) (X.pn ++ pins) (fun e s₁ => wpAny (model X.prog X.w) X.A (noteFrame e X.env) (fun _ s₂ => wpAny (model X.prog X.w) X.A (setFlight e none) (fun _ s₃ =>
    wpAny (model X.prog X.w) X.A (handleBy e X.env [.ExceptHandler (some (.Tuple es kt tpos)) (some n) [.Assign [.Name m mp] (.Name n np) apos] pos']) (SP X pins D) X.xe s₃) X.xe s₂) X.xe s₁) (fun u s' xx => ?_) PassesOwn.looking).run [] s σ H D (I.toTry _) h) (fun f s1 hsp => ?_) (fun e s1 he => he)
  · obtain ⟨a, B, sI, pins', σ', H', cls, d, rfl, J', nb, up, sky, na, os, ag, ⟨Bc, hB, hany⟩, wish⟩ := xx
    have J : Inv X pins σ' H' sI := J'.ofTry ok
    have sky' : Sky B (X.env :: X.outer) a (Zc cls d) X.env.locals s'.heap := by rw [← hs]; exact sky
    show wpAny (model X.prog X.w) X.A (noteFrame (.ref a) X.env) _ _ _
    refine Sky.land Zc.steady hfr hf sky' fun h3 fl3 up3 => ?_
    have J3 : Inv X pins σ' H' { s' with heap := h3 } := J.landed nb fl3.1 (up.trans up3) os ag
    obtain ⟨oe3, vs3, he3, hz3, hd3⟩ := fl3.there
    have nfr : a ∉ frs (X.env :: X.outer) := fun hm => by
      obtain ⟨_, o', e', hnf⟩ := fl3.2.2.1.mem hm
      rw [he3] at e'
      cases e'
      exact hnf _ hd3
    have nL : a ≠ X.env.locals := fun z => nfr (List.mem_filterMap.mpr ⟨X.env, List.mem_cons_self, by rw [hf, z]⟩)
    have nF : a ∉ X.fs := fun hm => by
      obtain ⟨e, he, q⟩ := List.mem_filterMap.mp hm
      exact nfr (List.mem_filterMap.mpr ⟨e, List.mem_cons_of_mem _ he, q⟩)
    have nI : sI.heap.get? a = none := by
      cases q : sI.heap.get? a with
      | none => rfl
      | some o =>
        have z := nb a o q (by rw [hs]; exact nfr)
        rw [fl3.2.1] at z
        cases z
    have n0 : X.s_0.heap.get? a = none := by
      cases q : X.s_0.heap.get? a with
      | none => rfl
      | some o =>
        obtain ⟨o', z⟩ := J.base.there a o q (by rw [hex]; exact fun y => nomatch y)
        rw [nI] at z
        cases z
    have nC : ∀ x c, X.env.cells.lookup x = some c → c ≠ a := fun x c e z => by
      obtain ⟨v, o, ho, _⟩ := J.cell x c e
      rw [z, nI] at ho
      cases ho
    have nP : ∀ p ∈ X.pn ++ pins, p.1 ≠ a := fun p hp z => by
      have q := (J.pin p hp).1
      rw [z, nI] at q
      cases q
    have S3 := J3.suite he3 hd3 na nL nF
    refine wpAny_handleBy_cons (codeAny_handlers_test ?_) (by intro q; cases q)
    refine wpAny_Tuple (nms_run (Y := X.suite a ((a, oe3) :: (X.pn ++ pins))) S3 (Nms.to (X := X) (Y := X.suite a ((a, oe3) :: (X.pn ++ pins))) rfl rfl hc) ⟨Nat.le_trans hz (by decide), ?_⟩)
    have kp : ∀ b o, h3.get? b = some o → (h3.push { cls := .type "tuple", data := .seq cs.toArray }).get? b = some o := fun b o e => Heap.get?_push_of_some _ e
    have LT : PySem.W.Looks (model X.prog X.w) (h3.push { cls := .type "tuple", data := .seq cs.toArray }) (typeOf (.ref a)) cls := fun A Q E s k q => wpAny_typeOf_ref (k _ _ (kp _ _ he3)) (by rw [hz3.1]; exact q)
    have LM := exm_tups (M := model X.prog X.w) (J3.kIn.keeps kp) LT (Heap.get?_push_size h3 rfl) rfl rfl hB
    rw [hany] at LM
    refine LM.here ?_
    refine codeAny_handlers_suite_as ?_
    have fl3' := flying_more fl3 kp
    refine HandSPX.lands_againZ fl3' fun h4 fl4 up4 => ?_
    have upp : h3.UpToSlots (h3.push { cls := .type "tuple", data := .seq cs.toArray }) := fun b o hb _ => ⟨o.slots, kp b o hb⟩
    have J4 : Inv X pins σ' H' { s' with heap := h4 } := J.landed nb fl4.1 (((up.trans up3).trans upp).trans up4) os ag
    obtain ⟨oe4, vs4, he4, hz4, hd4⟩ := fl4.there
    have S4 := J4.suite he4 hd4 na nL nF
    refine store_ok (X := X.suite a ((a, oe4) :: (X.pn ++ pins))) (v := .ref a) S4 hN hi (.inl hln) rfl (fun s5 S5 => ?_) (.inr hln)
    have rd : PSs (X.suite a ((a, oe4) :: (X.pn ++ pins))) [.Assign [.Name m mp] (.Name n np) apos] (tAsg (tVar i) (gName j)) := pss_one (ps_set hN hj (.inl hlm) (pe_var hi (.inl hln) hdb hcd) hsw (.inr hlm))
    refine wpAny_mono (rd.run [] s5 _ H' { nx := fun σ6 H6 => σ6 = (σ'.set i (some (.ref a))).set j (some (.ref a)) ∧ H6 = H', rt := fun _ _ => False } S5 ⟨_, ?_, rfl, rfl⟩) (fun f s6 hsp => ?_) (fun _ _ z => False.elim z)
    · exact List.getElem?_set_self (by rw [J.len]; exact (List.getElem?_eq_some_iff.mp hi).1)
    · cases f with
      | next =>
        obtain ⟨σ6, H6, S6, rfl, rfl⟩ := hsp
        obtain ⟨p1, p2, _⟩ := S6.pin (a, oe4) (List.mem_append_left _ List.mem_cons_self)
        have J6 := Inv.track (S6.unsuite ok) p1 hz4 hd4 na n0 nL nC nP
        exact gone_ok J6 hN hi hln fun s7 J7 => ⟨_, _, J7, wish a na⟩
      | brk =>
        obtain ⟨_, _, _, z⟩ := hsp
        exact z.elim
      | cont =>
        obtain ⟨_, _, _, z⟩ := hsp
        exact z.elim
      | ret u =>
        obtain ⟨_, _, _, _, _, z⟩ := hsp
        exact z.elim
  · cases f with
    | next =>
      obtain ⟨σ1, H1, J1, q⟩ := hsp
      exact wpAny_execs_nil ⟨σ1, H1, J1.ofTry ok, q⟩
    | brk =>
      obtain ⟨σ1, H1, J1, q⟩ := hsp
      exact ⟨σ1, H1, J1.ofTry ok, q⟩
    | cont =>
      obtain ⟨σ1, H1, J1, q⟩ := hsp
      exact ⟨σ1, H1, J1.ofTry ok, q⟩
    | ret u =>
      obtain ⟨v1, σ1, H1, J1, r1, q⟩ := hsp
      exact ⟨v1, σ1, H1, J1.ofTry ok, r1, q⟩
end
end MM
namespace MM
open PySem PySem.Spec PySem.Calls PyProof.Rows L2
/-! ### str(x) of an instance with its own __str__ -/
def rStrO (C : Addr) (sp : Sp) (E : XK) : List V → Hp → VK → Prop := fun xs H Q => ∃ (a dx : Addr) (fs : List (Str × V)), xs = [.ref a] ∧ H a = some (.ins C dx fs) ∧ sp [.ref a] H (fun v H' => ∃ x : Str, v = .str x ∧ Q (.str x) H') E
section
variable {X : Cx} {CX : CXT} {k : Nat} {C f : Addr} {fd : FuncData} {ps : List Str} {sp : Sp} {E : XK}
theorem call_strO (F : FnOk X.prog X.w X.K X.mg X.base CX k f fd ps sp) (hs : PySem.W.findIn X.K (.ref C) "__str__" = some (some (.ref f))) (hf : PySem.W.isFn X.K (.ref f) = true) (hb : Binds X.K fd ps []) (hx : Passes CX X E) (hr : Room (k + 2) X.A) : CallR X (.type "str") (rStrO C sp E) := by
  intro pins s σ H xs us Q I r h
  obtain ⟨a, dx, fs, rfl, ha, hq⟩ := h
  obtain ⟨u, rfl, r1⟩ := vals1 r
  cases (show u = Value.ref a from r1)
  obtain ⟨mA, J, _⟩ := ins_get I.hok ha
  obtain ⟨od, J, _⟩ := J.look
  have hr1 : Room (k + 1) X.A.in1 := hr.in1
  have hr2 : Room k X.A.in1.in1 := hr1.in1
  have hl : ([Value.ref a] ++ []).length = ps.length := (show ([V.ref a] : List V).length = _ from F.len _ _ _ _ hq)
  refine PySem.W.kso_call hr2.units0 I.kIn J hs hf (wpAny_call (codeAny_mono (F.run X.A.in1.in1 X.stack s H ⟨[.ref a], []⟩ [.ref a] [.ref a] _ E hr2 I.env0.in1.in1 (hb s [.ref a] I.kIn hl) (.cons rfl .nil) hq) fun res s' hres => ?_))
  match res, hres with
  | .error er, hres => exact hx pins σ H s er s' I hres
  | .ok .next, hres => exact hres.elim
  | .ok .brk, hres => exact hres.elim
  | .ok .cont, hres => exact hres.elim
  | .ok (.ret u), hres =>
    obtain ⟨z, H', I', rz, x, rfl, q⟩ := I.after hres
    obtain ⟨t, rfl⟩ := rz
    exact ⟨.str x, H', I', ⟨t, rfl⟩, q⟩
/-- x == y by x's own __eq__, whatever y is -/
def rEqO (K : PySem.W.Frag) (C : Addr) (sp : Sp) (E : XK) : R2 := fun x y H Q => ∃ (a dx : Addr) (fs : List (Str × V)) (t : Value), x = .ref a ∧ H a = some (.ins C dx fs) ∧ TyX K H y t ∧ PySem.W.notFirst K C t = true ∧ sp [.ref a, y] H (fun v H' => ∃ b : Bool, v = .bl b ∧ Q (.bl b) H') E
theorem op_eqO (F : FnOk X.prog X.w X.K X.mg X.base CX k f fd ps sp) (hs : PySem.W.findIn X.K (.ref C) "__eq__" = some (some (.ref f))) (hf : PySem.W.isFn X.K (.ref f) = true) (hb : Binds X.K fd ps []) (hx : Passes CX X E) (hr : Room k X.A) : OpR X (compareOp .Eq) (rEqO X.K C sp E) := by
  intro pins s σ H x y v u Q I rx ry h
  obtain ⟨a, dx, fs, t, rfl, ha, ty, nf, hq⟩ := h
  cases (show v = Value.ref a from rx)
  obtain ⟨mA, J, _⟩ := ins_get I.hok ha
  obtain ⟨od, J, _⟩ := J.look
  obtain ⟨P, kx, hP, _⟩ := kit_of I ry ty
  obtain ⟨m, fr⟩ := I.fr
  have hl : ([Value.ref a, u] ++ []).length = ps.length := (show ([V.ref a, y] : List V).length = _ from F.len _ _ _ _ hq)
  show wpAny (model X.prog X.w) X.A (richCompare .Eq (.ref a) u) _ _ s
  refine PySem.W.cmp_K (op := .Eq) hr.units0 fr I.ok.mod.kin J (kx.ty _ _ I.kIn hP) nf hs hf (wpAny_call (codeAny_mono (F.run X.A X.stack s H ⟨[.ref a, u], []⟩ [.ref a, u] [.ref a, y] _ E hr I.env0 (hb s [.ref a, u] I.kIn hl) (.cons rfl (.cons ry .nil)) hq) fun res s' hres => ?_))
  match res, hres with
  | .error er, hres => exact hx pins σ H s er s' I hres
  | .ok .next, hres => exact hres.elim
  | .ok .brk, hres => exact hres.elim
  | .ok .cont, hres => exact hres.elim
  | .ok (.ret z0), hres =>
    obtain ⟨z, H', I', rz, b, rfl, q⟩ := I.after hres
    cases (show z0 = Value.bool b from rz)
    exact ⟨.bl b, H', I', rfl, q⟩
end
end MM
namespace MM
open PySem PySem.Spec PySem.Calls PyProof.Rows L2
section
variable {X : Cx} {CX : CXT} {k j : Nat} {C : Addr} {qual : Str} {st : Stmt} {ps : List Str} {sp : Sp} {E : XK}
/-- x == y by the __eq__ of x's class -/
theorem op_eqC (c : Cm X.prog X.w X.K X.mg X.base CX k C "__eq__" qual st ps sp) (b : Bd "__eq__" qual st ps) (hx : Passes CX X E) (hr : Room j X.A) (hk : k ≤ j) : OpR X (compareOp .Eq) (rEqO X.K C sp E) := by
  obtain ⟨f, fd, F, M, hc, G⟩ := c.ex
  exact op_eqO G M.1 M.2 (F.bindsN b) hx (hr.mono hk)
theorem nf_self {K : PySem.W.Frag} {C : Addr} : PySem.W.notFirst K C (.ref C) = true := by
  unfold PySem.W.notFirst
  simp
end
end MM
namespace MM
open PySem PySem.Spec PyProof.Rows L2
theorem no' {A B : Prop} {b : Bool} (hb : b = false) (h : B) : if b = true then A else B := by
  subst hb
  exact iteF h
theorem upd_keep {H H1 : Hp} {D : Addr} {o : HO} (nD : H D = none) (s : Same H H1) : Same H (L2.upd H1 D o) := fun b u e => by
  rw [upd_ne (ne_of_none e nD)]
  exact s b u e
section
variable {J : It} {n : Nat} {G : Hp → Prop} {Y : Nat → Hp → V → Hp → Prop}
/-- a comprehension without a test whose i-th thing has Ps i -/
theorem lc_all (w : Walk J n G Y) (hY : ∀ i H x H', Y i H x H' → Same H H') {g : TG} {te : TE} {vs : List Nat} {σ : L2.St} {H : Hp} {D : Addr} {Qd : Hp → Prop} (nD : H D = none) (hn : n < sizeLine) (Ps : Nat → V → Hp → Prop)
    (hm : ∀ j v H1 H2, Same H1 H2 → Ps j v H1 → Ps j v H2) (hp : ∀ j v H1 acc acc', H1 D = some (.lst acc) → Ps j v H1 → Ps j v (L2.upd H1 D (.lst acc'))) (hG : ∀ H', Same H H' → G H')
    (hs : ∀ i x H1 H2 (R : V → Hp → Prop), i < n → Same H H1 → Y i H1 x H2 → (∀ v H3, Same H2 H3 → Ps i v H3 → R v H3) → g x (wipe σ vs) H2 fun σ2 H3 => wipe σ2 vs = wipe σ vs ∧ te σ2 H3 R)
    (hd : ∀ (us : List V) H', us.length = n → H' D = some (.lst us) → Same H H' → (∀ j v, us[j]? = some v → Ps j v H') → Qd H') :
    ∃ W : Nat → Nat → Hp → Prop, (∃ m, W 0 m (L2.upd H D (.lst []))) ∧ ∀ i m H, W i m H →
      (J.stop i H ∧ Qd H) ∨ (J.go i H ∧ ∃ Nx : Hp → Prop, (∀ H', Nx H' → ∃ m', m' < m ∧ W (i + 1) m' H') ∧ ∀ x H', J.yld i H x H' → g x (wipe σ vs) H' fun σ2 H2 => wipe σ2 vs = wipe σ vs ∧ tYes σ2 H2 fun b H3 =>
        if b = true then te σ2 H3 fun y H4 => ∃ acc, H4 D = some (.lst acc) ∧ acc.length < sizeLine ∧ Nx (L2.upd H4 D (.lst (acc ++ [y]))) else Nx H3) := by
  refine lc_it w (fun i H' => ∃ us : List V, us.length = i ∧ H' D = some (.lst us) ∧ Same H H' ∧ ∀ j v, us[j]? = some v → Ps j v H') ⟨[], rfl, upd_same, upd_keep nD (Same.refl H), fun j v h => by simp at h⟩ (fun i H' _ ⟨_, _, _, s, _⟩ => hG H' s) ?_ (fun H' ⟨us, l, e, s, p⟩ => hd us H' l e s p)
  rintro i x H1 H2 hi ⟨us, hl, e, s, p⟩ y
  refine hs i x H1 H2 _ hi s y fun v H3 s3 pv => ?_
  have s2 := hY _ _ _ _ y
  have e3 := s3 _ _ (s2 _ _ e)
  refine ⟨us, e3, by omega, us ++ [v], by rw [List.length_append, hl]; rfl, upd_same, upd_keep nD (s.trans (s2.trans s3)), fun j u hj => ?_⟩
  by_cases hjl : j < us.length
  · rw [List.getElem?_append_left hjl] at hj
    exact hp _ _ _ _ _ e3 (hm _ _ _ _ (s2.trans s3) (p j u hj))
  · rw [List.getElem?_append_right (by omega)] at hj
    have ej : j = us.length := by
      by_cases hz : j - us.length = 0
      · omega
      · have : ([v] : List V)[j - us.length]? = none := List.getElem?_eq_none_iff.mpr (by simp; omega)
        rw [this] at hj
        cases hj
    subst ej
    rw [Nat.sub_self] at hj
    cases hj
    rw [hl]
    exact hp _ _ _ _ _ e3 pv
/-- a comprehension whose i-th thing is the whole number f i -/
theorem lc_ints (w : Walk J n G Y) (hY : ∀ i H x H', Y i H x H' → Same H H') {g : TG} {te : TE} {vs : List Nat} {σ : L2.St} {H : Hp} {D : Addr} {Qd : Hp → Prop} (nD : H D = none) (hn : n < sizeLine) (f : Nat → Int) (hG : ∀ H', Same H H' → G H')
    (hs : ∀ i x H1 H2 (R : V → Hp → Prop), i < n → Same H H1 → Y i H1 x H2 → (∀ H3, Same H2 H3 → R (.int (f i)) H3) → g x (wipe σ vs) H2 fun σ2 H3 => wipe σ2 vs = wipe σ vs ∧ te σ2 H3 R)
    (hd : ∀ H', H' D = some (.lst (((List.range n).map f).map V.int)) → Same H H' → Qd H') :
    ∃ W : Nat → Nat → Hp → Prop, (∃ m, W 0 m (L2.upd H D (.lst []))) ∧ ∀ i m H, W i m H →
      (J.stop i H ∧ Qd H) ∨ (J.go i H ∧ ∃ Nx : Hp → Prop, (∀ H', Nx H' → ∃ m', m' < m ∧ W (i + 1) m' H') ∧ ∀ x H', J.yld i H x H' → g x (wipe σ vs) H' fun σ2 H2 => wipe σ2 vs = wipe σ vs ∧ tYes σ2 H2 fun b H3 =>
        if b = true then te σ2 H3 fun y H4 => ∃ acc, H4 D = some (.lst acc) ∧ acc.length < sizeLine ∧ Nx (L2.upd H4 D (.lst (acc ++ [y]))) else Nx H3) := by
  refine lc_all w hY nD hn (fun i v _ => v = .int (f i)) (fun _ _ _ _ _ h => h) (fun _ _ _ _ _ _ h => h) hG (fun i x H1 H2 R hi s y k => hs i x H1 H2 R hi s y fun H3 s3 => k _ H3 s3 rfl) fun us H' l e s p => ?_
  have eu : us = ((List.range n).map f).map V.int := by
    refine List.ext_getElem? fun j => ?_
    by_cases hj : j < us.length
    · have h1 := List.getElem?_eq_getElem hj
      rw [h1, p j _ h1]
      rw [List.getElem?_map, List.getElem?_map, List.getElem?_range (by omega)]
      rfl
    · rw [List.getElem?_eq_none_iff.mpr (by omega), List.getElem?_eq_none_iff.mpr (by simp; omega)]
  subst eu
  exact hd H' e s
end
theorem yFn_same {f : Nat → V} : ∀ i H x H', YFn f i H x H' → Same H H' := fun _ _ _ _ h => by rw [h.1]; exact Same.refl _
theorem yAt_same {xs : List V} : ∀ i H x H', YAt xs i H x H' → Same H H' := fun _ _ _ _ h => by rw [h.1]; exact Same.refl _
theorem yPair_same {xs ys : Nat → Option V} : ∀ i H x H', YPair xs ys i H x H' → Same H H' := by
  rintro i H x H' ⟨T, a, b, rfl, nT, rfl, _⟩
  exact upd_keep nT (Same.refl H)
/-! ### lists of whole numbers, compared -/
theorem dps_ints {K : PySem.W.Frag} {H : Hp} : ∀ ns : List Int, DpAll K H (ns.map V.int) (ns.map PyData.int)
  | [] => .nil
  | n :: ns => .cons (.int n) (dps_ints ns)
theorem dp_ints {K : PySem.W.Frag} {H : Hp} {a : Addr} {ns : List Int} (h : H a = some (.lst (ns.map V.int))) : Dp K H (.ref a) (.list (ns.map PyData.int)) := .lst (SqL.of h) (dps_ints ns)
theorem lay_ints : ∀ ns : List Int, PyData.canLayAll0 (ns.map PyData.int) = true
  | [] => rfl
  | n :: ns => by
    rw [List.map_cons, PyData.canLayAll0, lay_ints ns]
    rfl
theorem dep_ints : ∀ ns : List Int, PyData.depthAll (ns.map PyData.int) ≤ 1
  | [] => by simp [PyData.depthAll]
  | n :: ns => by
    have h := dep_ints ns
    simp only [List.map_cons, PyData.depthAll, PyData.depth]
    omega
theorem sh_ints (ns : List Int) : SeqAt.shaped (.list (ns.map PyData.int)) = true := by
  have h := dep_ints ns
  show (PyData.canLay0 (.list (ns.map PyData.int)) && decide (PyData.depth (.list (ns.map PyData.int)) ≤ 64)) = true
  rw [Bool.and_eq_true]
  refine ⟨by simp only [PyData.canLay0]; exact lay_ints ns, decide_eq_true ?_⟩
  simp only [PyData.depth]
  omega
theorem eqv_intL (ns : List Int) : PyData.eqv (.list (ns.map PyData.int)) (.list (ns.map PyData.int)) = true := SeqAt.eqv_refl _ (by simp only [PyData.canLay0]; exact lay_ints ns)
/-! ### steps from each to the next -/
def stp (f : Nat → Int) (n : Nat) : List Int := (List.range n).map fun i => f (i + 1) - f i
theorem stp_sum (f : Nat → Int) : ∀ n, (stp f n).sum = f n - f 0
  | 0 => by simp [stp]
  | n + 1 => by
    have h := stp_sum f n
    unfold stp at *
    rw [List.range_succ, List.map_append, List.sum_append, h]
    simp
    omega
end MM
namespace MM
open PySem PySem.Spec PySem.Calls PyProof.Rows L2
/-! ### x != y where the class has an own __eq__ and no __ne__ -/
section
variable {prog : Program} {w : World} {A : Around} {E : Value → Shared → Prop} {s : Shared} {K : PySem.W.Frag} {x C L f : Addr} {h₀ : Heap} {m : Str → Option Value} {ox : Obj} {od : Option Obj} {name : Str} {b tb : Value}
theorem ifBound_B {M : Model} {id : String} {args : List Value} {Q : Option Value → Shared → Prop} (X : K.In s.heap) (I : PySem.W.InstAt s.heap x ox C od) (hs : PySem.W.findIn K (.ref C) name = some (some (.builtin id))) (S : Slot "object" name id)
    (h : wpAny M A (call (.builtin id) (.ref x :: args)) (fun v => Q (some v)) E s) : wpAny M A (callSpecialIfBound? (.ref x) name args) Q E s := by
  simp only [callSpecialIfBound?, bindSpecialIfBound?]
  refine wpAny_holding (wpAny_bind (wpAny_bind (wpAny_bind (I.type.here ((PySem.W.looks_findIn X hs).here ?_)))))
  simp only [S.bind]
  refine wpAny_bind (wpAny_askSetting (wpAny_ite ?_))
  have fin : wpAny M A (call (.builtin id) ([.ref x] ++ args) >>= fun v => pure (some v)) Q E s := wpAny_bind (wpAny_mono h (fun v s' h' => wpAny_pure h') fun _ _ h' => h')
  split
  · exact wpAny_bind (wpAny_pure (wpAny_pure fin))
  · exact wpAny_tryCatch (wpAny_bind (wpAny_pure (wpAny_pure fin)))
theorem objNe_own {Q : Fin → Shared → Prop} (X : K.In s.heap) (I : PySem.W.InstAt s.heap x ox C od) (hs : PySem.W.findIn K (.ref C) "__eq__" = some (some (.ref f))) (hf : PySem.W.isFn K (.ref f) = true) (hu : A.units < cLine)
    (hcall : wpAny (model prog w) A (call (.ref f) [.ref x, b]) (fun v s' => ∃ r, v = .bool r ∧ Q (.done (.ret (.bool (!r)))) s') E s) :
    wpAny (model prog w) A (Builtin.«object.__ne__» ⟨[.ref x, b], []⟩) Q E s := by
  obtain ⟨h, g, d, t, os⟩ := s
  unfold Builtin.«object.__ne__»
  repeat (first
    | with_reducible refine wpAny_cRoomFor hu ?_
    | (refine wpAny_bind (m := callSpecialIfBound? (.ref x) (Str.ofString "__eq__") [b])
        (PySem.W.ifBound_K X I hs hf (wpAny_mono hcall (fun r s' hr => by
          obtain ⟨b, rfl, hq⟩ := hr
          repeat (first | exact hq | exact wpAny_pure hq | exact wpAny_truthy_bool hq | (refine wpAny_bind (m := truthy (.bool _)) (wpAny_truthy_bool ?_)) | wp_step)) fun _ _ e => e)))
    | wp_step)
/-- what the written part says of such a class -/
structure NeT (K : PySem.W.Frag) (C : Addr) : Prop where
  ne : PySem.W.findIn K (.ref C) "__ne__" = some (some (.builtin "object.__ne__"))
  cls : ∃ nm q N bs hd sn sub ab col dd k0 k1 k2 k3 k5 nw, K.lookup C = some (excClassObj nm q C N bs [.type "object"] hd sn sub ab col dd k0 k1 k2 k3 k5 nw)
theorem ne_K {Q : Value → Shared → Prop} (T : NeT K C) (hu : A.units + 1 < cLine) (F : Fr h₀ L s.heap m) (X₀ : K.In h₀) (I : PySem.W.InstAt s.heap x ox C od) (hb : PySem.W.Looks (model prog w) s.heap (typeOf b) tb) (hn : PySem.W.notFirst K C tb = true)
    (hs : PySem.W.findIn K (.ref C) "__eq__" = some (some (.ref f))) (hf : PySem.W.isFn K (.ref f) = true)
    (h : wpAny (model prog w) A.in1 (call (.ref f) [.ref x, b]) (fun v s' => ∃ r, v = .bool r ∧ Q (.bool (!r)) s') E s) : wpAny (model prog w) A (richCompare .NotEq (.ref x) b) Q E s := by
  have X := X₀.keeps F.keep
  obtain ⟨nm, q, N, bs, hd, sn, sub, ab, col, dd, k0, k1, k2, k3, k5, nw, hC⟩ := T.cls
  have one : wpAny (model prog w) A (tryCompare (.ref x) "__ne__" b) (fun r s' => ∃ v, r = some v ∧ Q v s') E s := by
    unfold tryCompare
    obtain ⟨hp, g, d, t, os⟩ := s
    refine wpAny_bind (ifBound_B X I T.ne PySem.F.cmp_object.ne (wpAny_call (codeAny_call_builtin PySem.F.cmp_object.ne.plain PySem.F.cmpEntry_ne (wpAny_check_slot_inst PySem.F.cmpKind_ne PySem.F.cmpSplit_ne (PySem.F.cmpArgs_ne _ _) PySem.F.cmp_object.hasObject I.at_ I.cls (X _ _ hC) (objNe_own (A := A.in1) X I hs hf hu (wpAny_mono h (fun v s' hv => ?_) fun _ _ e => e))))))
    obtain ⟨r, rfl, hq⟩ := hv
    first | exact ⟨r, rfl, wpAny_pure ⟨_, rfl, hq⟩⟩ | exact ⟨r, rfl, wpAny_pure (wpAny_pure ⟨_, rfl, hq⟩)⟩ | exact ⟨r, rfl, ⟨_, rfl, hq⟩⟩
  unfold richCompare
  simp only [oneThing_ref]
  refine wpAny_holding (wpAny_bind (wpAny_cRoomFor (Nat.lt_of_succ_lt hu) ?_))
  refine wpAny_bind (I.type.here (wpAny_bind (hb.here ?_)))
  split
  · rename_i q
    have e : PySem.W.subIn K tb (.ref C) = some false := by
      rcases Bool.or_eq_true_iff.mp hn with e | e
      · rw [beq_iff_eq.mp e] at q
        simp at q
      · exact beq_iff_eq.mp e
    refine wpAny_bind ((PySem.W.looks_subIn X e).here ?_)
    simp only [Bool.false_eq_true, if_false]
    refine wpAny_bind (wpAny_mono one (fun r s' z => ?_) fun _ _ e => e)
    obtain ⟨v, rfl, hq⟩ := z
    exact wpAny_pure hq
  · refine wpAny_bind (wpAny_pure ?_)
    simp only [Bool.false_eq_true, if_false]
    refine wpAny_bind (wpAny_mono one (fun r s' z => ?_) fun _ _ e => e)
    obtain ⟨v, rfl, hq⟩ := z
    exact wpAny_pure hq
end
section
variable {X : Cx} {CX : CXT} {k j : Nat} {C f : Addr} {fd : FuncData} {qual : Str} {st : Stmt} {ps : List Str} {sp : Sp} {E : XK}
def rNeO (K : PySem.W.Frag) (C : Addr) (sp : Sp) (E : XK) : R2 := fun x y H Q => ∃ (a dx : Addr) (fs : List (Str × V)) (t : Value), x = .ref a ∧ H a = some (.ins C dx fs) ∧ TyX K H y t ∧ PySem.W.notFirst K C t = true ∧ sp [.ref a, y] H (fun v H' => ∃ b : Bool, v = .bl b ∧ Q (.bl (!b)) H') E
theorem op_neO (T : NeT X.K C) (F : FnOk X.prog X.w X.K X.mg X.base CX k f fd ps sp) (hs : PySem.W.findIn X.K (.ref C) "__eq__" = some (some (.ref f))) (hf : PySem.W.isFn X.K (.ref f) = true) (hb : Binds X.K fd ps []) (hx : Passes CX X E) (hr : Room (k + 1) X.A) : OpR X (compareOp .NotEq) (rNeO X.K C sp E) := by
  intro pins s σ H x y v u Q I rx ry h
  obtain ⟨a, dx, fs, t, rfl, ha, ty, nf, hq⟩ := h
  cases (show v = Value.ref a from rx)
  obtain ⟨mA, J, _⟩ := ins_get I.hok ha
  obtain ⟨od, J, _⟩ := J.look
  obtain ⟨P, kx, hP, _⟩ := kit_of I ry ty
  obtain ⟨m, fr⟩ := I.fr
  have hl : ([Value.ref a, u] ++ []).length = ps.length := (show ([V.ref a, y] : List V).length = _ from F.len _ _ _ _ hq)
  have hr1 : Room k X.A.in1 := hr.in1
  have hun : X.A.units + 1 < cLine := by
    have := hr.un
    omega
  show wpAny (model X.prog X.w) X.A (richCompare .NotEq (.ref a) u) _ _ s
  refine ne_K T hun fr I.ok.mod.kin J (kx.ty _ _ I.kIn hP) nf hs hf (wpAny_call (codeAny_mono (F.run X.A.in1 X.stack s H ⟨[.ref a, u], []⟩ [.ref a, u] [.ref a, y] _ E hr1 I.env0.in1 (hb s [.ref a, u] I.kIn hl) (.cons rfl (.cons ry .nil)) hq) fun res s' hres => ?_))
  match res, hres with
  | .error er, hres => exact hx pins σ H s er s' I hres
  | .ok .next, hres => exact hres.elim
  | .ok .brk, hres => exact hres.elim
  | .ok .cont, hres => exact hres.elim
  | .ok (.ret z0), hres =>
    obtain ⟨z, H', I', rz, b, rfl, q⟩ := I.after hres
    cases (show z0 = Value.bool b from rz)
    exact ⟨b, rfl, .bl (!b), H', I', rfl, q⟩
theorem op_neC (T : NeT X.K C) (c : Cm X.prog X.w X.K X.mg X.base CX k C "__eq__" qual st ps sp) (b : Bd "__eq__" qual st ps) (hx : Passes CX X E) (hr : Room j X.A) (hk : k + 1 ≤ j) : OpR X (compareOp .NotEq) (rNeO X.K C sp E) := by
  obtain ⟨f, fd, F, M, hc, G⟩ := c.ex
  exact op_neO T G M.at_ M.fn (F.bindsN b) hx (hr.mono hk)
end
end MM
namespace MM
open PySem PySem.Spec PyProof.Rows L2
theorem hu65 {k : Nat} {A : Around} (r : Room k A) : A.units + 65 < cLine := by
  have := r.un
  omega
section
variable {X : Cx}
/-- sum(t) of a tuple of whole numbers -/
def rSumT (K : PySem.W.Frag) : List V → Hp → VK → Prop := fun vs H Q => ∃ (a : Addr) (ns : List Int), vs = [V.ref a] ∧ SqT K H a (ns.map V.int) ∧ Q (.int ns.sum) H
theorem cr_sumT (hc : X.calm = true) : CallR X (.builtin "sum") (rSumT X.K) := by
  intro pins s σ H vs us Q I r h
  obtain ⟨a, ns, rfl, hs, q⟩ := h
  obtain ⟨its, rv, hl, _⟩ := I.tuple hs
  rw [Vals.ref1 r]
  have hi := rv.ints
  obtain ⟨xs, hx⟩ := hi.allInts.items
  have hn : numsOf its.toArray.toList = ns := by rw [show its.toArray.toList = its from rfl, hi.numsOf]
  have hl : s.heap.IsTuple a its.toArray := hl
  rw [hx] at hl hn
  rw [nums_intItems] at hn
  refine PySem.W.ktm_sumG (I.ok.hd hc) hl fun h' tk t' hk => ⟨.int _, H, I.kept hk, ⟨_, rfl⟩, ?_⟩
  rw [preSum_eq, List.take_of_length_le (by simp), hn]
  exact q
end
/-! ### data of rows of whole numbers -/
def tupD (ns : List Int) : PyData := .tuple (ns.map PyData.int)
theorem dp_tup {K : PySem.W.Frag} {H : Hp} {a : Addr} {ns : List Int} (h : H a = some (.tup (ns.map V.int))) : Dp K H (.ref a) (tupD ns) := .tup (SqT.of h) (dps_ints ns)
theorem lay_tups : ∀ zs : List (List Int), PyData.canLayAll0 (zs.map tupD) = true
  | [] => rfl
  | z :: zs => by
    rw [List.map_cons, PyData.canLayAll0, lay_tups zs, tupD, PyData.canLay0, lay_ints]
    rfl
theorem dep_tups : ∀ zs : List (List Int), PyData.depthAll (zs.map tupD) ≤ 3
  | [] => by simp [PyData.depthAll]
  | z :: zs => by
    have h := dep_tups zs
    have h2 := dep_ints z
    simp only [List.map_cons, PyData.depthAll, tupD, PyData.depth]

    omega
theorem sh_tups (zs : List (List Int)) : SeqAt.shaped (.list (zs.map tupD)) = true := by
  have h := dep_tups zs
  show (PyData.canLay0 (.list (zs.map tupD)) && decide (PyData.depth (.list (zs.map tupD)) ≤ 64)) = true
  rw [Bool.and_eq_true]
  refine ⟨by simp only [PyData.canLay0]; exact lay_tups zs, decide_eq_true ?_⟩
  simp only [PyData.depth]
  omega
theorem sh_tup (ns : List Int) : SeqAt.shaped (tupD ns) = true := by
  have h := dep_ints ns
  show (PyData.canLay0 (tupD ns) && decide (PyData.depth (tupD ns) ≤ 64)) = true
  rw [Bool.and_eq_true]
  refine ⟨by simp only [tupD, PyData.canLay0]; exact lay_ints ns, decide_eq_true ?_⟩
  simp only [tupD, PyData.depth]
  omega
theorem eqv_tup (ns : List Int) : PyData.eqv (tupD ns) (tupD ns) = true := SeqAt.eqv_refl _ (by simp only [tupD, PyData.canLay0]; exact lay_ints ns)
/-- a list whose things are the rows zs -/
def Rows (H : Hp) (us : List V) (zs : List (List Int)) : Prop := us.length = zs.length ∧ ∀ (j : Nat) (u : V), us[j]? = some u → ∃ (q : Addr) (z : List Int), u = .ref q ∧ zs[j]? = some z ∧ H q = some (.tup (z.map V.int))
theorem Rows.same {H H1 : Hp} {us : List V} {zs : List (List Int)} (h : Rows H us zs) (s : Same H H1) : Rows H1 us zs := ⟨h.1, fun j u hu => by
  obtain ⟨q, z, e1, e2, e3⟩ := h.2 j u hu
  exact ⟨q, z, e1, e2, s _ _ e3⟩⟩
theorem Rows.dps {K : PySem.W.Frag} {H : Hp} : ∀ {us : List V} {zs : List (List Int)}, Rows H us zs → DpAll K H us (zs.map tupD)
  | [], [], _ => .nil
  | [], _ :: _, h => by have := h.1; simp at this
  | _ :: _, [], h => by have := h.1; simp at this
  | u :: us, z :: zs, h => by
    obtain ⟨q, z', rfl, e2, e3⟩ := h.2 0 u rfl
    cases e2
    refine .cons (dp_tup e3) (Rows.dps ⟨by have := h.1; simpa using this, fun j v hv => h.2 (j + 1) v (by simpa using hv)⟩)
theorem Rows.dp {K : PySem.W.Frag} {H : Hp} {a : Addr} {us : List V} {zs : List (List Int)} (h : Rows H us zs) (e : H a = some (.lst us)) : Dp K H (.ref a) (.list (zs.map tupD)) := .lst (SqL.of e) h.dps
theorem any_row {zs : List (List Int)} {z : List Int} (h : z ∈ zs) : ((zs.map tupD).any fun d => PyData.eqv d (tupD z)) = true := List.any_eq_true.mpr ⟨tupD z, List.mem_map.mpr ⟨z, h, rfl⟩, eqv_tup z⟩
end MM
namespace MM
/-! ### stretches of months, as whole numbers -/
/-- so many whole months lie, from a part of a day on -/
def rowF (a b p : Int) (n : Nat) : Int := (p + n * a) / b
theorem same_div {a b p q : Int} (hb : 0 < b) (n : Nat) (h0 : 0 ≤ q) (h1 : q ≤ p) (h2 : p < b) (hno : ¬ (q < (-(n : Int) * a) % b ∧ (-(n : Int) * a) % b ≤ p)) : rowF a b q n = rowF a b p n := by
  unfold rowF
  have e1 := Int.mul_ediv_add_emod (p + n * a) b
  have e2 := Int.emod_nonneg (p + n * a) (Int.ne_of_gt hb)
  have e3 := Int.emod_lt_of_pos (p + n * a) hb
  have en : -(n : Int) * a = -((n : Int) * a) := Int.neg_mul _ _
  rw [en] at hno
  generalize (n : Int) * a = z at *
  generalize hc : (p + z) / b = c at *
  refine Int.le_antisymm (by rw [← hc]; exact Int.ediv_le_ediv hb (by omega)) ?_
  refine Int.le_ediv_of_mul_le hb ?_
  rw [Int.mul_comm]
  apply Int.not_lt.mp
  intro hlt
  apply hno
  have et : (-z) % b = b * c - z := by
    have : -z = (b * c - z) + b * (-c) := by rw [Int.mul_neg]; omega
    rw [this, Int.add_mul_emod_self_left]
    exact Int.emod_eq_of_lt (by omega) (by omega)
  rw [et]
  omega
theorem max_le {p : Int} : ∀ L : List Int, (∃ t ∈ L, t ≤ p) → ∃ t ∈ L, t ≤ p ∧ ∀ u ∈ L, u ≤ p → u ≤ t
  | [], h => by
    obtain ⟨t, ht, _⟩ := h
    cases ht
  | x :: L, h => by
    by_cases hL : ∃ t ∈ L, t ≤ p
    · obtain ⟨t, ht, htp, hm⟩ := max_le L hL
      by_cases hx : x ≤ p ∧ t < x
      · refine ⟨x, List.mem_cons_self, hx.1, fun u hu hup => ?_⟩
        rcases List.mem_cons.mp hu with rfl | hu
        · exact Int.le_refl _
        · have := hm u hu hup
          omega
      · refine ⟨t, List.mem_cons_of_mem _ ht, htp, fun u hu hup => ?_⟩
        rcases List.mem_cons.mp hu with rfl | hu
        · omega
        · exact hm u hu hup
    · obtain ⟨t, ht, htp⟩ := h
      rcases List.mem_cons.mp ht with rfl | ht
      · refine ⟨t, List.mem_cons_self, htp, fun u hu hup => ?_⟩
        rcases List.mem_cons.mp hu with rfl | hu
        · exact Int.le_refl _
        · exact absurd ⟨u, hu, hup⟩ hL
      · exact absurd ⟨t, ht, htp⟩ hL
/-- the parts at which stretches of n months begin to be other ones -/
def parts (a b : Int) (n : Nat) : List Int := (List.range (min (n + 1) b.toNat)).map fun (i : Nat) => (-(i : Int) * a) % b
theorem parts_mem {a b : Int} (hb : 0 < b) {n i : Nat} (hi : i ≤ n) : (-(i : Int) * a) % b ∈ parts a b n := by
  refine List.mem_map.mpr ⟨i % b.toNat, List.mem_range.mpr ?_, ?_⟩
  · have h1 : i % b.toNat < b.toNat := Nat.mod_lt _ (by omega)
    have h2 : i % b.toNat ≤ i := Nat.mod_le _ _
    omega
  · have e : (i : Int) = ((i % b.toNat : Nat) : Int) + b * ((i / b.toNat : Nat) : Int) := by
      have h := Nat.mod_add_div i b.toNat
      have hbt : ((b.toNat : Nat) : Int) = b := by omega
      have h' : ((i % b.toNat + b.toNat * (i / b.toNat) : Nat) : Int) = (i : Int) := by rw [h]
      rw [← h', Int.natCast_add, Int.natCast_mul, hbt]
    have e2 : -(i : Int) * a = -((i % b.toNat : Nat) : Int) * a + b * (-((i / b.toNat : Nat) : Int) * a) := by
      rw [e]
      generalize ((i % b.toNat : Nat) : Int) = u
      generalize ((i / b.toNat : Nat) : Int) = v
      grind
    rw [e2, Int.add_mul_emod_self_left]
theorem parts_bd {a b : Int} (hb : 0 < b) {n : Nat} {t : Int} (ht : t ∈ parts a b n) : 0 ≤ t ∧ t < b := by
  obtain ⟨i, _, rfl⟩ := List.mem_map.mp ht
  exact ⟨Int.emod_nonneg _ (Int.ne_of_gt hb), Int.emod_lt_of_pos _ hb⟩
/-- each stretch is one that begins at one of the parts -/
theorem part_of {a b : Int} (hb : 0 < b) (n : Nat) {p : Int} (h0 : 0 ≤ p) (h1 : p < b) : ∃ t ∈ parts a b n, ∀ i : Nat, i ≤ n → rowF a b t i = rowF a b p i := by
  have z0 : (0 : Int) ∈ parts a b n := by
    have h := parts_mem (a := a) hb (n := n) (Nat.zero_le n)
    simpa using h
  obtain ⟨t, ht, htp, hm⟩ := max_le (p := p) (parts a b n) ⟨0, z0, h0⟩
  refine ⟨t, ht, fun i hi => same_div hb i (parts_bd hb ht).1 htp h1 fun ⟨k1, k2⟩ => ?_⟩
  have := hm _ (parts_mem hb hi) k2
  omega
theorem row_zero {a b p : Int} (h0 : 0 ≤ p) (h1 : p < b) : rowF a b p 0 = 0 := by
  unfold rowF
  rw [show p + ((0 : Nat) : Int) * a = p by simp]
  exact Int.ediv_eq_zero_of_lt h0 h1
theorem row_two {a b p : Int} (hb : 0 < b) (h0 : 0 ≤ p) (h1 : p < b) (n : Nat) : (n * a) / b ≤ rowF a b p n ∧ rowF a b p n ≤ (n * a) / b + 1 := by
  unfold rowF
  refine ⟨Int.ediv_le_ediv hb (by omega), ?_⟩
  have e1 := Int.mul_ediv_add_emod ((n : Int) * a) b
  have e3 := Int.emod_lt_of_pos ((n : Int) * a) hb
  refine Int.le_of_lt_add_one (Int.ediv_lt_of_lt_mul hb ?_)
  generalize (n : Int) * a / b = c at *
  have : (c + 1 + 1) * b = b * c + b + b := by grind
  rw [this]
  omega
/-- the part of a day at which moon k comes, in parts by the month's bottom -/
def prt (m o : Rat) (k : Int) : Int := ((o + k * m - ((stF m o k : Int) : Rat)) * (m.den : Rat)).floor
theorem den_posR (m : Rat) : (0 : Rat) < (m.den : Rat) := by
  have := m.den_pos
  exact_mod_cast this
theorem frac_bd (x : Rat) : 0 ≤ x - (x.floor : Rat) ∧ x - (x.floor : Rat) < 1 := by
  have h1 : (x.floor : Rat) ≤ x := Rat.floor_le x
  have h2 : x < (x.floor : Rat) + 1 := by rw [← cast_add1]; exact Rat.lt_floor_add_one x
  constructor <;> grind
theorem prt_bd (m o : Rat) (k : Int) : 0 ≤ prt m o k ∧ prt m o k < (m.den : Int) := by
  unfold prt stF
  obtain ⟨h1, h2⟩ := frac_bd (o + k * m)
  have hd := den_posR m
  generalize o + k * m - ((o + k * m).floor : Rat) = f at *
  constructor
  · refine Rat.le_floor_iff.mpr ?_
    show ((0 : Int) : Rat) ≤ f * (m.den : Rat)
    have := Rat.mul_nonneg h1 (Rat.le_of_lt hd)
    simpa using this
  · refine Rat.floor_lt_iff.mpr ?_
    show f * (m.den : Rat) < (((m.den : Nat) : Int) : Rat)
    have : f * (m.den : Rat) < 1 * (m.den : Rat) := Rat.mul_lt_mul_of_pos_right h2 hd
    rw [Rat.one_mul] at this
    exact this
theorem mul_den (m : Rat) : m * (m.den : Rat) = (m.num : Rat) := by
  have hd := den_posR m
  have h : (m.num : Rat) / (m.den : Rat) = m := by
    have e := Rat.num_divInt_den m
    rw [Rat.divInt_eq_div] at e
    exact e
  generalize (m.num : Rat) = a at *
  generalize (m.den : Rat) = b at *
  grind
theorem rr1 (o k n m b S c p : Rat) (h1 : (o + k * m - S) * b < p + 1) (h2 : p + n * (m * b) + 1 ≤ b * c + b) : (o + (k + n) * m) * b < (S + c + 1) * b := by
  have e1 : (o + (k + n) * m) * b = (o + k * m - S) * b + S * b + n * (m * b) := by grind
  have e2 : (S + c + 1) * b = S * b + b * c + b := by grind
  rw [e1, e2]
  generalize (o + k * m - S) * b = u at *
  generalize n * (m * b) = v at *
  generalize S * b = x at *
  generalize b * c = y at *
  grind
theorem rr2 (o k n m b S c p : Rat) (h1 : p ≤ (o + k * m - S) * b) (h2 : b * c ≤ p + n * (m * b)) : (S + c) * b ≤ (o + (k + n) * m) * b := by
  have e1 : (o + (k + n) * m) * b = (o + k * m - S) * b + S * b + n * (m * b) := by grind
  have e2 : (S + c) * b = S * b + b * c := by grind
  rw [e1, e2]
  generalize (o + k * m - S) * b = u at *
  generalize n * (m * b) = v at *
  generalize S * b = x at *
  generalize b * c = y at *
  grind
/-- the days of n months from month k on, by the part at which they begin -/
theorem st_row (m o : Rat) (k : Int) (n : Nat) : stF m o (k + n) - stF m o k = rowF m.num m.den (prt m o k) n := by
  have hd := den_posR m
  have hdI := den_pos m
  obtain ⟨f1, f2⟩ := frac_bd (o + k * m)
  have key : stF m o (k + n) = stF m o k + rowF m.num m.den (prt m o k) n := by
    have hfl : (prt m o k : Rat) ≤ (o + k * m - ((stF m o k : Int) : Rat)) * (m.den : Rat) := Rat.floor_le _
    have hfu : (o + k * m - ((stF m o k : Int) : Rat)) * (m.den : Rat) < ((prt m o k + 1 : Int) : Rat) := Rat.lt_floor_add_one _
    have e1 := Int.mul_ediv_add_emod (prt m o k + n * m.num) m.den
    have e2 := Int.emod_nonneg (prt m o k + n * m.num) (Int.ne_of_gt hdI)
    have e3 := Int.emod_lt_of_pos (prt m o k + n * m.num) hdI
    have hmd := mul_den m
    unfold rowF
    generalize hc : (prt m o k + (n : Int) * m.num) / (m.den : Int) = c at *
    have l1 : (m.den : Int) * c ≤ prt m o k + n * m.num := by omega
    have l2 : prt m o k + n * m.num + 1 ≤ (m.den : Int) * c + m.den := by omega
    have r1 : (m.den : Rat) * (c : Rat) ≤ (prt m o k : Rat) + (n : Rat) * (m.num : Rat) := by exact_mod_cast l1
    have r2 : (prt m o k : Rat) + (n : Rat) * (m.num : Rat) + 1 ≤ (m.den : Rat) * (c : Rat) + (m.den : Rat) := by exact_mod_cast l2
    have hfu' : (o + k * m - ((stF m o k : Int) : Rat)) * (m.den : Rat) < (prt m o k : Rat) + 1 := by rw [← cast_add1]; exact hfu
    have hcast : ((k + n : Int) : Rat) = (k : Rat) + (n : Rat) := by exact_mod_cast rfl
    refine Int.le_antisymm ?_ ?_
    · refine floor_le_iff.mpr ?_
      rw [hcast]
      have e4 : ((stF m o k + c + 1 : Int) : Rat) = ((stF m o k : Int) : Rat) + (c : Rat) + 1 := by exact_mod_cast rfl
      rw [e4]
      rw [← hmd] at r2
      exact Rat.lt_of_mul_lt_mul_right (rr1 _ _ _ _ _ _ _ _ hfu' r2) (Rat.le_of_lt hd)
    · refine Rat.le_floor_iff.mpr ?_
      rw [hcast]
      have e4 : ((stF m o k + c : Int) : Rat) = ((stF m o k : Int) : Rat) + (c : Rat) := by exact_mod_cast rfl
      rw [e4]
      rw [← hmd] at r1
      exact Rat.le_of_mul_le_mul_right (rr2 _ _ _ _ _ _ _ _ hfl r1) hd
  omega
end MM
namespace MM
open PySem PySem.Spec PyProof.Rows L2
/-! ### calls of a def with defaults, which never raises -/
/-- how f(.., k = v, ..) binds where f has defaults -/
structure Kdn (x : Str) (st : Stmt) (dn n : Nat) (ks ps : List Str) (g : {α : Type} → List α → List α → List α → List α) : Prop where
  bind : ∀ (T : Addr) (kV doc pm : Value) (an : Option Addr) (cdv ct : Value) (us its ws : List Value), us.length = n → its.length = dn → ws.length = ks.length →
    ∃ k, bindArgs (PySem.W.fnOf x x (defArgs st) (defBody st) (defScope st) (.ref T) kV doc pm an cdv ct) ⟨us, ks.zip ws⟩ = seqItems? (.ref T) >>= k ∧ k (some its.toArray) = pure (ps.zip (g us its ws))
  rel : ∀ {vs ds zs : List V} {us its ws : List Value}, Vals vs us → Vals ds its → Vals zs ws → Vals (g vs ds zs) (g us its ws)
section
variable {X : Cx} {CX : CXT} {k j n d : Nat} {f : Addr} {fd : FuncData} {ps ks : List Str} {sp : Sp} {dvs : List V} {x : Str} {st : Stmt} {p pos : Pos} {e : Expr} {es : List Expr} {kws : List Keyword} {t tk : TA} {E : XK}
/-- f(e, ..): n values, the defaults from the d-th on -/
theorem pe_caD (c : Ca X.prog X.w X.K X.mg X.base CX k x st dvs ps sp) (b : Bd1 x x st ps n d dvs.length) (hd : dvs ≠ []) (hn : n + (dvs.length - d) = ps.length) (hr : Room j X.A) (hk : k ≤ j) (hx : Passes CX X E) (hg : Gl X x) (ha : PA X (e :: es) t)
    (hdb : (x == ("__debug__" : Str)) = false := by decide) (he : starEach (e :: es) X.env = (false, eval e X.env) :: starEach es X.env := by rfl) (hpl : (backTo pos (starEach es X.env)).any (·.1) = false := by rfl) :
    PE X (.Call (.Name x p) (e :: es) [] pos) (tCall sp (dvs.drop d) E t) := by
  obtain ⟨f, fd, F, hm, G⟩ := c.ex
  obtain ⟨ds, r, bb⟩ := F.binds1 n d hd hn b
  exact pe_call G (hr.mono hk) hg hm F.kp bb r hx ha hdb he hpl
theorem run_fnkP {pins : List (Addr × Obj)} {σ : L2.St} {H : Hp} {s : Shared} {Q : VK} {us ws : List Value} {vs zs : List V} {g : List Value → List Value → List Value} {gV : List V → List V → List V} (F : FnOk X.prog X.w X.K X.mg X.base CX k f fd ps sp) (hr : Room k X.A) (hb : KBn X.K fd ps n ks g gV) (hx : Passes CX X E)
    (I : Inv X pins σ H s) (r : Vals vs us) (rz : Vals zs ws) (l1 : vs.length = n) (l2 : zs.length = ks.length) (h : sp (gV vs zs) H Q E) : wpAny (model X.prog X.w) X.A (call (.ref f) us (ks.zip ws)) (EP X pins σ Q) X.xe s := by
  have r2 := hb.rel r rz
  refine wpAny_call (codeAny_mono (F.run X.A X.stack s H ⟨us, ks.zip ws⟩ (g us ws) (gV vs zs) Q _ hr I.env0 (hb.to s us ws I.kIn (r.length.symm.trans l1) (rz.length.symm.trans l2)) r2 h) fun r s' hq => ?_)
  match r, hq with
  | .error e, hq => exact hx pins σ H s e s' I hq
  | .ok (.ret u), hq => exact I.after hq
  | .ok .next, hq => exact False.elim hq
  | .ok .brk, hq => exact False.elim hq
  | .ok .cont, hq => exact False.elim hq
/-- f(e, .., k = v, ..) -/
theorem pe_caDk {g : {α : Type} → List α → List α → List α → List α} (c : Ca X.prog X.w X.K X.mg X.base CX k x st dvs ps sp) (b : Kdn x st dvs.length n ks ps g) (hd : dvs ≠ []) (hr : Room j X.A) (hk : k ≤ j) (hx : Passes CX X E) (hg : Gl X x) (ha : PA X (e :: es) t) (hkw : PK X kws tk)
    (hall : (backToKw pos (keywordEach kws X.env)).all (·.1.isSome) = true := by rfl) (hks : (backToKw pos (keywordEach kws X.env)).filterMap (·.1) = ks := by rfl) (hdb : (x == ("__debug__" : Str)) = false := by decide)
    (he : starEach (e :: es) X.env = (false, eval e X.env) :: starEach es X.env := by rfl) (hpl : ((backTo pos (starEach (e :: es) X.env)).any (·.1) || (backToKw pos (keywordEach kws X.env)).any (·.1.isNone)) = false := by rfl) :
    PE X (.Call (.Name x p) (e :: es) kws pos) (fun σ H Q => t σ H fun vs H1 => tk σ H1 fun zs H2 => vs.length = n ∧ zs.length = ks.length ∧ sp (g vs dvs zs) H2 Q E) := by
  obtain ⟨f, fd, F, hm, G⟩ := c.ex
  obtain ⟨its, hb⟩ := F.kbindsD n ks g hd b.rel b.bind
  refine ⟨fun pins s σ H Q I h => ?_⟩
  refine wpAny_Call_Name_kw (ld_glob I hg hm ?_ hdb)
  refine PySem.W.callWith_KW (h₀ := X.base) I.ok.mod.kin F.kp hall (thn (ha.run pos pins s σ H _ I h) fun us s1 ⟨vs, H1, I1, r, q⟩ => ?_) hpl he
  refine thn (hkw.run pos pins s1 σ H1 _ I1 q) fun ws s2 ⟨zs, H2, I2, rz, l1, l2, q2⟩ => ⟨I2.kIn, ?_⟩
  rw [hks]
  exact run_fnkP G (hr.mono hk) hb hx I2 r rz l1 l2 q2
/-- f(k = v, ..) -/
theorem pe_caDk0 {g : {α : Type} → List α → List α → List α → List α} (c : Ca X.prog X.w X.K X.mg X.base CX k x st dvs ps sp) (b : Kdn x st dvs.length 0 ks ps g) (hd : dvs ≠ []) (hr : Room j X.A) (hk : k ≤ j) (hx : Passes CX X E) (hg : Gl X x) (hkw : PK X kws tk)
    (hall : (backToKw pos (keywordEach kws X.env)).all (·.1.isSome) = true := by rfl) (hks : (backToKw pos (keywordEach kws X.env)).filterMap (·.1) = ks := by rfl) (hdb : (x == ("__debug__" : Str)) = false := by decide)
    (hpl : ((backTo pos (starEach [] X.env)).any (·.1) || (backToKw pos (keywordEach kws X.env)).any (·.1.isNone)) = false := by rfl) :
    PE X (.Call (.Name x p) [] kws pos) (fun σ H Q => tk σ H fun zs H2 => zs.length = ks.length ∧ sp (g [] dvs zs) H2 Q E) := by
  obtain ⟨f, fd, F, hm, G⟩ := c.ex
  obtain ⟨its, hb⟩ := F.kbindsD 0 ks g hd b.rel b.bind
  refine ⟨fun pins s σ H Q I h => ?_⟩
  refine wpAny_Call_Name_kw (ld_glob I hg hm ?_ hdb)
  refine PySem.W.callWith_KW0 (h₀ := X.base) I.ok.mod.kin F.kp hall ?_ hpl
  refine thn (hkw.run pos pins s σ H _ I h) fun ws s2 ⟨zs, H2, I2, rz, l2, q2⟩ => ⟨I2.kIn, ?_⟩
  rw [hks]
  exact run_fnkP (us := []) (vs := []) G (hr.mono hk) hb hx I2 .nil rz rfl l2 q2
end
end MM
namespace MM
/-! ### rounds: when months and years come together -/
theorem den_mul (x : Rat) : (x.den : Rat) * x = (x.num : Rat) := by
  have h := Rat.num_divInt_den x
  rw [Rat.divInt_eq_div] at h
  have hd : ((x.den : Int) : Rat) ≠ 0 := by
    have := x.den_nz
    intro z
    exact this (by exact_mod_cast z)
  rw [Rat.intCast_natCast] at h hd
  grind
def lcI (a b : Int) : Int := a / (Int.gcd a b : Int) * b
theorem gcd_div_gcd {a b : Int} (ha : 0 < a) : Int.gcd (b / (Int.gcd a b : Int)) (a / (Int.gcd a b : Int)) = 1 := by
  have hg : 0 < Int.gcd a b := Int.gcd_pos_of_ne_zero_left b (by omega)
  have := Int.gcd_ediv_gcd_ediv_gcd (i := a) (j := b) hg
  rw [Int.gcd_comm]
  exact this
theorem lc_facts {a b : Int} (ha : 0 < a) (hb : 0 < b) : 0 < lcI a b ∧ lcI a b % a = 0 ∧ lcI a b % b = 0 ∧ lcI a b / a = b / (Int.gcd a b : Int) ∧ lcI a b / b = a / (Int.gcd a b : Int) ∧ 0 < b / (Int.gcd a b : Int) ∧ 0 < a / (Int.gcd a b : Int) := by
  have hg : 0 < Int.gcd a b := Int.gcd_pos_of_ne_zero_left b (by omega)
  obtain ⟨x, hx⟩ := Int.gcd_dvd_left a b
  obtain ⟨z, hz⟩ := Int.gcd_dvd_right a b
  unfold lcI
  generalize hG : (Int.gcd a b : Int) = G at *
  have hG0 : 0 < G := by omega
  have e1 : a / G = x := by rw [hx, Int.mul_ediv_cancel_left _ (by omega)]
  have e2 : b / G = z := by rw [hz, Int.mul_ediv_cancel_left _ (by omega)]
  have x0 : 0 < x := by
    apply Int.not_le.mp
    intro h
    have := Int.mul_le_mul_of_nonneg_left h (Int.le_of_lt hG0)
    omega
  have z0 : 0 < z := by
    apply Int.not_le.mp
    intro h
    have := Int.mul_le_mul_of_nonneg_left h (Int.le_of_lt hG0)
    omega
  rw [e1, e2]
  have e3 : x * b = a * z := by rw [hx, hz]; ac_rfl
  refine ⟨Int.mul_pos x0 hb, ?_, ?_, ?_, ?_, z0, x0⟩
  · rw [e3]
    exact Int.mul_emod_right _ _
  · exact Int.mul_emod_left _ _
  · rw [e3, Int.mul_ediv_cancel_left _ (by omega)]
  · rw [Int.mul_ediv_cancel _ (by omega)]
def wrD (m y : Rat) : Int := lcI m.num y.num
def wrM (m y : Rat) : Int := wrD m y / m.num * m.den
def wrY (m y : Rat) : Int := wrD m y / y.num * y.den
theorem div_back {a d : Int} (h : d % a = 0) : d / a * a = d := Int.ediv_mul_cancel (Int.dvd_of_emod_eq_zero h)
theorem wr_eqM {m y : Rat} (hm : 0 < m) (hy : 0 < y) : wrD m y * m.den = wrM m y * m.num := by
  have f := lc_facts (num_pos hm) (num_pos hy)
  have := div_back (show wrD m y % m.num = 0 from f.2.1)
  unfold wrM
  rw [Int.mul_right_comm, this]
theorem wr_eqY {m y : Rat} (hm : 0 < m) (hy : 0 < y) : wrD m y * y.den = wrY m y * y.num := by
  have f := lc_facts (num_pos hm) (num_pos hy)
  have := div_back (show wrD m y % y.num = 0 from f.2.2.1)
  unfold wrY
  rw [Int.mul_right_comm, this]
theorem den_ne (x : Rat) : ((x.den : Int) : Rat) ≠ 0 := by
  have := x.den_nz
  intro z
  exact this (by exact_mod_cast z)
theorem of_den {x : Rat} {D M : Int} (h : D * x.den = M * x.num) : (M : Rat) * x = (D : Rat) := by
  have h1 : ((D * x.den : Int) : Rat) = ((M * x.num : Int) : Rat) := by rw [h]
  rw [Rat.intCast_mul, Rat.intCast_mul] at h1
  have h2 := den_mul x
  have h3 := den_ne x
  rw [Rat.intCast_natCast] at h1 h3
  grind
theorem fl_int (x : Rat) (n : Int) : (x + n).floor = x.floor + n := by
  have h1 : ∀ i : Int, (x + n).floor ≤ i ↔ x.floor + n ≤ i := fun i => by
    rw [floor_le_iff]
    have h2 : x.floor + n ≤ i ↔ x.floor ≤ i - n := by omega
    rw [h2, floor_le_iff]
    have e1 : ((i + 1 : Int) : Rat) = (i : Rat) + 1 := cast_add1 i
    have e2 : ((i - n + 1 : Int) : Rat) = (i : Rat) - n + 1 := by rw [cast_add1, Rat.intCast_sub]
    rw [e1, e2]
    grind
  have a := (h1 ((x + n).floor)).mp (Int.le_refl _)
  have b := (h1 (x.floor + n)).mpr (Int.le_refl _)
  omega
theorem st_shift {m o : Rat} {M D : Int} (h : (M : Rat) * m = D) (k t : Int) : stF m o (k + t * M) = stF m o k + t * D := by
  unfold stF
  rw [← fl_int]
  congr 1
  rw [Rat.intCast_add, Rat.intCast_mul, Rat.intCast_mul, ← h]
  grind
theorem ma_shift {m o : Rat} {M D : Int} (hm : 0 < m) (h : (M : Rat) * m = D) (d t : Int) : maF m o (d + t * D) = maF m o d + t * M := by
  refine ma_of hm ?_ ?_
  · rw [st_shift h]
    have := st_ma (o := o) hm d
    omega
  · rw [Int.add_right_comm, st_shift h]
    have := ma_st (o := o) hm d
    omega
theorem md_shift {y k : Rat} {Y D : Int} (h : (Y : Rat) * y = D) (j t : Int) : mdF y k (j + 12 * (t * Y)) = mdF y k j + t * D := by
  unfold mdF
  rw [← fl_int]
  congr 1
  have e : ((12 : Int) : Rat) = 12 := rfl
  rw [Rat.intCast_add, Rat.intCast_mul, Rat.intCast_mul, Rat.intCast_mul, ← h, e]
  grind
theorem j_shift {y k : Rat} {Y D : Int} (hy : 0 < y / 12) (h : (Y : Rat) * y = D) (d t : Int) : jF y k (d + t * D) = jF y k d + 12 * (t * Y) := by
  have key : ∀ j : Int, j < jF y k (d + t * D) ↔ j < jF y k d + 12 * (t * Y) := fun j => by
    rw [← md_lt hy]
    have e : mdF y k j = mdF y k (j - 12 * (t * Y)) + t * D := by
      rw [← md_shift h]
      congr 1
      omega
    rw [e]
    have e2 : j < jF y k d + 12 * (t * Y) ↔ j - 12 * (t * Y) < jF y k d := by omega
    rw [e2, ← md_lt hy]
    omega
  have a := key (jF y k (d + t * D))
  have b := key (jF y k d + 12 * (t * Y))
  omega
end MM
namespace MM
open PySem PySem.Spec PyProof.Rows L2
section
variable {J : It} {n : Nat} {G : Hp → Prop} {Y : Nat → Hp → V → Hp → Prop}
/-- a comprehension with a test, whose i-th thing is the whole number f i, and there where B i -/
theorem lc_filt (w : Walk J n G Y) (hY : ∀ i H x H', Y i H x H' → Same H H') {g : TG} {tt : TT} {te : TE} {vs : List Nat} {σ : L2.St} {H : Hp} {D : Addr} {Qd : Hp → Prop} (nD : H D = none) (hn : n < sizeLine) (f : Nat → Int) (B : Nat → Bool) (hG : ∀ H', Same H H' → G H')
    (hs : ∀ i x H1 H2 (R : V → Hp → Prop) (N : Hp → Prop), i < n → Same H H1 → Y i H1 x H2 → (B i = true → ∀ H3, Same H2 H3 → R (.int (f i)) H3) → (B i = false → ∀ H3, Same H2 H3 → N H3) → g x (wipe σ vs) H2 fun σ2 H3 => wipe σ2 vs = wipe σ vs ∧ tt σ2 H3 fun b H4 => if b = true then te σ2 H4 R else N H4)
    (hd : ∀ H', H' D = some (.lst ((((List.range n).filter B).map f).map V.int)) → Same H H' → Qd H') :
    ∃ W : Nat → Nat → Hp → Prop, (∃ m, W 0 m (L2.upd H D (.lst []))) ∧ ∀ i m H, W i m H →
      (J.stop i H ∧ Qd H) ∨ (J.go i H ∧ ∃ Nx : Hp → Prop, (∀ H', Nx H' → ∃ m', m' < m ∧ W (i + 1) m' H') ∧ ∀ x H', J.yld i H x H' → g x (wipe σ vs) H' fun σ2 H2 => wipe σ2 vs = wipe σ vs ∧ tt σ2 H2 fun b H3 =>
        if b = true then te σ2 H3 fun y H4 => ∃ acc, H4 D = some (.lst acc) ∧ acc.length < sizeLine ∧ Nx (L2.upd H4 D (.lst (acc ++ [y]))) else Nx H3) := by
  refine lc_it w (fun i H' => H' D = some (.lst ((((List.range i).filter B).map f).map V.int)) ∧ Same H H') ⟨upd_same, upd_keep nD (Same.refl H)⟩ (fun i H' _ ⟨_, s⟩ => hG H' s) ?_ (fun H' ⟨e, s⟩ => hd H' e s)
  rintro i x H1 H2 hi ⟨e, s⟩ y
  have s2 := hY _ _ _ _ y
  have el : ((((List.range i).filter B).map f).map V.int).length < sizeLine := by
    rw [List.length_map, List.length_map]
    have := List.length_filter_le B (List.range i)
    rw [List.length_range] at this
    omega
  refine hs i x H1 H2 _ _ hi s y (fun hB H3 s3 => ?_) (fun hB H3 s3 => ?_)
  · refine ⟨_, s3 _ _ (s2 _ _ e), el, ?_, upd_keep nD (s.trans (s2.trans s3))⟩
    rw [upd_same, List.range_succ, List.filter_append, List.map_append, List.map_append]
    simp [hB]
  · refine ⟨?_, s.trans (s2.trans s3)⟩
    rw [s3 _ _ (s2 _ _ e), List.range_succ, List.filter_append]
    simp [hB]
end
/-! ### first days of years -/
def fdF (m y o k : Rat) (a : Int) : Int := stF m o (maF m o (mdF y k (12 * a)))
theorem int_le_floor {i : Int} {x : Rat} : i ≤ x.floor ↔ (i : Rat) ≤ x := by
  have h := floor_le_iff (q := x) (i := i - 1)
  rw [show i - 1 + 1 = i by omega] at h
  constructor
  · intro a
    apply Rat.not_lt.mp
    intro z
    have := h.mpr z
    omega
  · intro a
    apply Int.not_lt.mp
    intro z
    have := h.mp (by omega)
    grind
theorem fl_mono {x z : Rat} (h : x ≤ z) : x.floor ≤ z.floor := by
  rw [int_le_floor]
  have := int_le_floor (i := x.floor) (x := x) |>.mp (Int.le_refl _)
  grind
theorem st_w {m y o : Rat} (f : Fit m y) (i : Int) : stF m o (i + 1) ≤ stF m o i + m.ceil := by
  unfold stF
  rw [← fl_int]
  refine fl_mono ?_
  have h : m ≤ (m.ceil : Rat) := by
    apply Rat.not_lt.mp
    intro z
    have := lt_ceil_iff (q := m) (i := m.ceil) |>.mpr z
    omega
  rw [cast_add1]
  grind
theorem md_w {m y k : Rat} (f : Fit m y) (j : Int) : mdF y k j + m.ceil ≤ mdF y k (j + 1) := by
  unfold mdF
  rw [← fl_int]
  refine fl_mono ?_
  have h := f.between
  rw [cast_add1]
  grind
theorem md_mono {y k : Rat} (hy : 0 < y / 12) {i j : Int} (h : i ≤ j) : mdF y k i ≤ mdF y k j := by
  unfold mdF
  refine fl_mono ?_
  have h1 : (i : Rat) ≤ (j : Rat) := by exact_mod_cast h
  have h2 := Rat.mul_le_mul_of_nonneg_right h1 (Rat.le_of_lt hy)
  grind
/-- in a month falls one mark at most -/
theorem one_mark {m y o k : Rat} (f : Fit m y) {i j : Int} (h1 : stF m o i ≤ mdF y k j) (h2 : mdF y k j < stF m o (i + 1)) : jF y k (stF m o i) = j := by
  have hy := f.ypos
  have a : ¬ j < jF y k (stF m o i) := fun z => by
    have := (md_lt hy).mpr z
    omega
  apply Int.le_antisymm (by omega)
  apply Int.not_lt.mp
  intro z
  have b := md_ge (y := y) (k := k) hy (stF m o i)
  have c := md_w (k := k) f (jF y k (stF m o i))
  have d := md_mono (k := k) hy (show jF y k (stF m o i) + 1 ≤ j by omega)
  have e := st_w (o := o) f i
  omega
theorem ma_st' {m o : Rat} (h1 : 1 ≤ m) (i : Int) : maF m o (stF m o i) = i := by
  have := st_step (o := o) h1 i
  exact ma_of (by grind) (Int.le_refl _) (by omega)
theorem first_jF {m y o k : Rat} (f : Fit m y) (a : Int) : jF y k (stF m o (maF m o (mdF y k (12 * a)))) = 12 * a := one_mark f (st_ma f.pos _) (ma_st f.pos _)
/-- about which year begins on a day -/
theorem first_near {m y o k : Rat} (f : Fit m y) (a : Int) : (((fdF m y o k a - k.floor : Int) : Rat) / y).floor ≤ a ∧ a ≤ (((fdF m y o k a - k.floor : Int) : Rat) / y).floor + 1 := by
  have hp := f.pos
  have hy := f.ypos'
  have y12 : 12 ≤ y := by
    have h1 := f.one
    have h2 := f.between
    have h3 : (1 : Rat) ≤ (m.ceil : Rat) := by
      have : ((1 : Int) : Rat) ≤ (m.ceil : Rat) := by
        have : (1 : Int) ≤ m.ceil := by
          apply Int.not_lt.mp
          intro z
          have hm : m ≤ (m.ceil : Rat) := by
            apply Rat.not_lt.mp
            intro z
            have := lt_ceil_iff (q := m) (i := m.ceil) |>.mpr z
            omega
          have h0 : (m.ceil : Rat) ≤ ((0 : Int) : Rat) := by exact_mod_cast (show m.ceil ≤ 0 by omega)
          have e0 : ((0 : Int) : Rat) = 0 := rfl
          grind
        exact_mod_cast this
      exact this
    grind
  have s1 := st_ma (o := o) hp (mdF y k (12 * a))
  have s2 := ma_st (o := o) hp (mdF y k (12 * a))
  have s3 := st_w (o := o) f (maF m o (mdF y k (12 * a)))
  have bt := f.between
  have kf := int_le_floor (i := k.floor) (x := k) |>.mp (Int.le_refl _)
  have kl := floor_le_iff (q := k) (i := k.floor) |>.mp (Int.le_refl _)
  rw [cast_add1] at kl
  have md1 := int_le_floor (i := mdF y k (12 * a)) (x := k + ((12 * a : Int) : Rat) * (y / 12)) |>.mp (Int.le_refl _)
  have md2 := floor_le_iff (q := k + ((12 * a : Int) : Rat) * (y / 12)) (i := mdF y k (12 * a)) |>.mp (Int.le_refl _)
  rw [cast_add1] at md2
  have e12 : ((12 * a : Int) : Rat) * (y / 12) = (a : Rat) * y := by
    rw [Rat.intCast_mul]
    have : ((12 : Int) : Rat) = 12 := rfl
    rw [this]
    grind
  rw [e12] at md1 md2
  have c1 : ((fdF m y o k a : Int) : Rat) ≤ (mdF y k (12 * a) : Rat) := by exact_mod_cast s1
  have c2 : (mdF y k (12 * a) : Rat) + 1 ≤ (fdF m y o k a : Rat) + (m.ceil : Rat) := by
    have h := Int.lt_of_lt_of_le s2 s3
    have h2 : mdF y k (12 * a) + 1 ≤ fdF m y o k a + m.ceil := h
    have h3 : ((mdF y k (12 * a) + 1 : Int) : Rat) ≤ ((fdF m y o k a + m.ceil : Int) : Rat) := by exact_mod_cast h2
    rw [Rat.intCast_add, Rat.intCast_add] at h3
    exact h3
  have cs : ((fdF m y o k a - k.floor : Int) : Rat) = (fdF m y o k a : Rat) - (k.floor : Rat) := Rat.intCast_sub _ _
  rw [cs]
  generalize (fdF m y o k a : Rat) = A at *
  generalize (k.floor : Rat) = F at *
  generalize (mdF y k (12 * a) : Rat) = Md at *
  generalize (m.ceil : Rat) = Wc at *
  have u1 : A - F < (a : Rat) * y + 1 := by grind
  have u2 : (a : Rat) * y - y / 12 ≤ A - F + 1 := by grind
  constructor
  · rw [floor_le_iff, cast_add1]
    apply (Rat.div_lt_iff hy).mpr
    grind
  · have key : (a - 1 : Int) ≤ ((A - F) / y).floor := by
      rw [int_le_floor, Rat.intCast_sub]
      have : ((1 : Int) : Rat) = 1 := rfl
      rw [this]
      apply Rat.not_lt.mp
      intro z
      have z2 := (Rat.div_lt_iff hy).mp z
      grind
    omega
end MM
namespace MM
open PySem PySem.Spec PyProof.Rows L2
/-! ### figures -/
def dg (d : Nat) : Nat := if d < 10 then 48 + d else 87 + d
/-- the figures, the last one first -/
def lsd (b n : Nat) : List Nat := if h : b < 2 ∨ n < b then [n] else (n % b) :: lsd b (n / b)
termination_by n
decreasing_by exact Nat.div_lt_self (by omega) (by omega)
theorem lsd_lt {b n : Nat} (h : n < b) : lsd b n = [n] := by
  rw [lsd, dif_pos (.inr h)]
theorem lsd_ge {b n : Nat} (hb : 2 ≤ b) (h : b ≤ n) : lsd b n = (n % b) :: lsd b (n / b) := by
  rw [lsd, dif_neg (by omega)]
theorem lsd_ne (b n : Nat) : lsd b n ≠ [] := by
  rw [lsd]
  split <;> simp
theorem lsd_small {b : Nat} (hb : 2 ≤ b) : ∀ (n : Nat), ∀ d ∈ lsd b n, d < b := fun n => by
  induction n using Nat.strongRecOn with
  | _ n ih =>
    intro d hd
    by_cases h : n < b
    · rw [lsd_lt h] at hd
      rw [List.mem_singleton.mp hd]
      exact h
    · rw [lsd_ge hb (by omega)] at hd
      rcases List.mem_cons.mp hd with rfl | hd
      · exact Nat.mod_lt _ (by omega)
      · exact ih (n / b) (Nat.div_lt_self (by omega) (by omega)) d hd
theorem lsd_len {b : Nat} (hb : 2 ≤ b) : ∀ (e n : Nat), n < 2 ^ e → 0 < e → (lsd b n).length ≤ e := fun e => by
  induction e with
  | zero => intro n h h0; omega
  | succ e ih =>
    intro n h h0
    by_cases hn : n < b
    · rw [lsd_lt hn]
      simp
    · rw [lsd_ge hb (by omega), List.length_cons]
      have h1 : n / b ≤ n / 2 := Nat.div_le_div_left hb (by decide)
      have h2 : n / 2 < 2 ^ e := by rw [Nat.pow_succ] at h; omega
      by_cases he : 0 < e
      · have := ih (n / b) (by omega) he
        omega
      · have e0 : e = 0 := by omega
        subst e0
        have : n / b = 0 := by omega
        rw [this, lsd_lt (by omega)]
        simp at h2 ⊢
        have hz : n / b = 0 := by omega
        have := (Nat.div_eq_zero_iff).mp hz
        omega
theorem lsd_val {b : Nat} (hb : 2 ≤ b) : ∀ n : Nat, (lsd b n).foldr (fun d a => a * b + d) 0 = n := fun n => by
  induction n using Nat.strongRecOn with
  | _ n ih =>
    by_cases h : n < b
    · rw [lsd_lt h]
      simp
    · rw [lsd_ge hb (by omega), List.foldr_cons, ih (n / b) (Nat.div_lt_self (by omega) (by omega))]
      have := Nat.div_add_mod n b
      rw [Nat.mul_comm] at this
      exact this
def sg (d : Nat) : Str := ⟨#[dg d]⟩
def txt (ds : List Nat) : Str := ⟨(ds.map dg).toArray⟩
/-- a whole number by a base -/
def numT (b : Nat) (i : Int) : Str := if i < 0 then ("-" : Str) ++ txt (lsd b i.natAbs).reverse else txt (lsd b i.natAbs).reverse
theorem str_ext {x y : Str} (h : x.cps.toList = y.cps.toList) : x = y := by
  cases x
  cases y
  congr
  exact Array.toList_inj.mp h
theorem app_cps (x y : Str) : (x ++ y).cps.toList = x.cps.toList ++ y.cps.toList := by
  show (x.cps ++ y.cps).toList = _
  simp
theorem txt_cps (ds : List Nat) : (txt ds).cps.toList = ds.map dg := rfl
theorem txt_len (ds : List Nat) : (txt ds).length = ds.length := by
  show ((ds.map dg).toArray).size = _
  simp
theorem dash_cps : ("-" : Str).cps.toList = [45] := by decide +kernel
theorem sg_txt (d : Nat) (ds : List Nat) : sg d ++ txt ds = txt (d :: ds) := str_ext (by
  rw [app_cps]
  rfl)
theorem nil_txt : ("" : Str) = txt [] := str_ext (by decide +kernel)
theorem dg_ne {d : Nat} (h : d < 16) : dg d ≠ 45 := by
  unfold dg
  split <;> omega
def FIG : Str := "0123456789abcdef"
theorem fig_len : FIG.length = 16 := by decide +kernel
theorem fig_at {d : Nat} (h : d < 16) : atI FIG.cps.toList (d : Int) = some (dg d) := by
  have : ∀ d : Fin 16, atI FIG.cps.toList ((d.val : Nat) : Int) = some (dg d.val) := by decide +kernel
  exact this ⟨d, h⟩
theorem fig_find {d : Nat} (h : d < 16) : Txt.find FIG (sg d) = (d : Int) := by
  have : ∀ d : Fin 16, Txt.find FIG (sg d.val) = ((d.val : Nat) : Int) := by decide +kernel
  exact this ⟨d, h⟩
theorem glued_nil : ∀ (ps : List Str) (acc : Array Nat), (ps.foldl (fun acc p => acc ++ ("" : Str).cps ++ p.cps) acc).toList = acc.toList ++ (ps.map fun p => p.cps.toList).flatten
  | [], acc => by simp
  | p :: ps, acc => by
    rw [List.foldl_cons, glued_nil ps]
    have e : ("" : Str).cps = #[] := by decide +kernel
    rw [e]
    simp
theorem join_nil (ps : List Str) : (Txt.join ("" : Str) ps).cps.toList = (ps.map fun p => p.cps.toList).flatten := by
  show (((ps.drop 1).foldl (fun acc p => acc ++ ("" : Str).cps ++ p.cps) (ps.headD Str.empty).cps)).toList = _
  cases ps with
  | nil => rfl
  | cons p ps =>
    show ((ps.foldl (fun acc p => acc ++ ("" : Str).cps ++ p.cps) p.cps)).toList = _
    rw [glued_nil]
    simp
theorem flat_sg : ∀ ds : List Nat, ((ds.map sg).map fun p => p.cps.toList).flatten = ds.map dg
  | [] => rfl
  | d :: ds => by
    rw [List.map_cons, List.map_cons, List.flatten_cons, flat_sg ds]
    rfl
theorem join_sg (ds : List Nat) : Txt.join ("" : Str) ((ds.map sg).reverse) = txt ds.reverse := str_ext (by
  rw [join_nil, ← List.map_reverse, flat_sg]
  rfl)
theorem join_dash (ds : List Nat) : Txt.join ("" : Str) ((ds.map sg ++ [("-" : Str)]).reverse) = ("-" : Str) ++ txt ds.reverse := str_ext (by
  rw [join_nil, List.reverse_append, ← List.map_reverse, List.map_append, List.flatten_append, flat_sg, app_cps]
  rfl)
theorem sub_iff (x y : Str) : Builtin.Str.subAt x y 0 = true ↔ x.cps.toList.take y.length = y.cps.toList := by
  unfold Builtin.Str.subAt
  rw [beq_iff_eq, ← Array.toList_inj]
  simp
theorem dash_len : ("-" : Str).length = 1 := by decide +kernel
theorem not_dash {ds : List Nat} (h0 : ds ≠ []) (h : ∀ d ∈ ds, d < 16) : Builtin.Str.subAt (txt ds) ("-" : Str) 0 = false := by
  cases hb : Builtin.Str.subAt (txt ds) ("-" : Str) 0 with
  | false => rfl
  | true =>
    have := (sub_iff _ _).mp hb
    rw [dash_len, dash_cps, txt_cps] at this
    cases ds with
    | nil => exact absurd rfl h0
    | cons d ds =>
      have e : dg d = 45 := by simpa using this
      exact absurd e (dg_ne (h d (by simp)))
theorem is_dash (ds : List Nat) : Builtin.Str.subAt (("-" : Str) ++ txt ds) ("-" : Str) 0 = true := by
  rw [sub_iff, dash_len, app_cps, dash_cps]
  rfl
theorem dash_txt_len (ds : List Nat) : (("-" : Str) ++ txt ds).length = ds.length + 1 := by
  show (("-" : Str).cps ++ (txt ds).cps).size = _
  rw [Array.size_append]
  show ("-" : Str).length + (txt ds).length = _
  rw [dash_len, txt_len]
  omega
theorem rp_txt {ds : List Nat} (h0 : ds ≠ []) (h : ∀ d ∈ ds, d < 16) : Txt.removeprefix (txt ds) ("-" : Str) = txt ds := by
  unfold Txt.removeprefix
  rw [not_dash h0 h]
  rfl
theorem rp_dash (ds : List Nat) : Txt.removeprefix (("-" : Str) ++ txt ds) ("-" : Str) = txt ds := by
  unfold Txt.removeprefix
  rw [is_dash, dash_len, dash_txt_len]
  show (if (ds.length + 1 - 1 == (("-" : Str) ++ txt ds).length) = true then _ else _) = _
  rw [dash_txt_len, if_neg (by simp)]
  refine str_ext ?_
  show ((("-" : Str) ++ txt ds).cps.extract 1 (ds.length + 1)).toList = _
  have e : (("-" : Str) ++ txt ds).cps.toList = 45 :: ds.map dg := by rw [app_cps, dash_cps]; rfl
  rw [Array.toList_extract, e, txt_cps]
  simp
  exact List.take_of_length_le (by simp)
theorem sw_txt {ds : List Nat} (h0 : ds ≠ []) (h : ∀ d ∈ ds, d < 16) : Txt.startswith (txt ds) ("-" : Str) = false := by
  unfold Txt.startswith
  rw [not_dash h0 h, Bool.and_false]
theorem sw_dash (ds : List Nat) : Txt.startswith (("-" : Str) ++ txt ds) ("-" : Str) = true := by
  unfold Txt.startswith
  rw [is_dash, dash_txt_len, dash_len]
  simp
/-! ### a text once or not at all -/
theorem op_mulS {X : Cx} : OpR X (binaryOp .Mult) (fun x y H Q => ∃ (z : Str) (b : Bool), x = .str z ∧ y = .int (if b = true then 1 else 0) ∧ Q (.str (if b = true then z else Str.empty)) H) := by
  intro pins s σ H x y v u Q I rx ry h
  obtain ⟨z, b, rfl, rfl, q⟩ := h
  obtain ⟨t, rfl⟩ := rx
  obtain ⟨t', rfl⟩ := ry
  cases b with
  | false => exact P.mul_str_none (by decide) (by decide) ⟨.str Str.empty, H, I.tok _, ⟨_, rfl⟩, q⟩
  | true =>
    refine P.mul_str (by decide) (fun _ e => by simp at e) (fun _ e => by simp at e) ?_
    rw [if_neg (by decide), if_pos (by simp)]
    exact ⟨.str z, H, I, ⟨_, rfl⟩, q⟩
end MM
namespace MM
open PySem PySem.Spec PySem.Calls PyProof.Rows L2
/-! ### figures by ten are what str tells -/
theorem dg_char {d : Nat} (h : d < 10) : d.digitChar.toNat = dg d := by
  have : ∀ d : Fin 10, d.val.digitChar.toNat = dg d.val := by decide
  exact this ⟨d, h⟩
theorem digits_lsd : ∀ n : Nat, (Nat.toDigits 10 n).map Char.toNat = (lsd 10 n).reverse.map dg := fun n => by
  induction n using Nat.strongRecOn with
  | _ n ih =>
    by_cases h : n < 10
    · rw [Nat.toDigits_of_lt_base h, lsd_lt h]
      show [n.digitChar.toNat] = [dg n]
      rw [dg_char h]
    · rw [Nat.toDigits_of_base_le (by decide) (by omega), lsd_ge (by decide) (by omega), List.map_append, ih (n / 10) (by omega), List.reverse_cons, List.map_append]
      show _ ++ [(n % 10).digitChar.toNat] = _ ++ [dg (n % 10)]
      rw [dg_char (by omega)]
theorem of_cps (s : String) : (Str.ofString s).cps.toList = s.toList.map Char.toNat := by
  show (cpsOfBytes 0 0 s.toByteArray.data.toList).toArray.toList = _
  rw [cpsOfBytes_string]
theorem nat_txt (n : Nat) : Str.ofString n.repr = txt (lsd 10 n).reverse := str_ext (by
  rw [of_cps, txt_cps]
  unfold Nat.repr
  rw [String.toList_ofList]
  exact digits_lsd n)
theorem numT_str (i : Int) : Str.ofString (toString i) = numT 10 i := by
  cases i with
  | ofNat m =>
    show Str.ofString m.repr = _
    unfold numT
    rw [if_neg (show ¬ Int.ofNat m < 0 from Int.not_lt.mpr (Int.natCast_nonneg m)), nat_txt]
    rfl
  | negSucc m =>
    show Str.ofString ("-" ++ m.succ.repr) = _
    unfold numT
    rw [if_pos (by omega)]
    refine str_ext ?_
    rw [of_cps, String.toList_append, List.map_append, app_cps, dash_cps]
    have e : m.succ.repr.toList.map Char.toNat = (txt (lsd 10 m.succ).reverse).cps.toList := by rw [← nat_txt, of_cps]
    rw [e]
    rfl
/-! ### repr(x) of an instance with its own __repr__ -/
def rReprO (C : Addr) (sp : Sp) (E : XK) : List V → Hp → VK → Prop := fun xs H Q => ∃ (a dx : Addr) (fs : List (Str × V)), xs = [.ref a] ∧ H a = some (.ins C dx fs) ∧ sp [.ref a] H (fun v H' => ∃ x : Str, v = .str x ∧ Q (.str x) H') E
theorem call_reprO {X : Cx} {CX : CXT} {k : Nat} {C f : Addr} {fd : FuncData} {ps : List Str} {sp : Sp} {E : XK} (F : FnOk X.prog X.w X.K X.mg X.base CX k f fd ps sp) (hs : PySem.W.findIn X.K (.ref C) "__repr__" = some (some (.ref f))) (hf : PySem.W.isFn X.K (.ref f) = true) (hb : Binds X.K fd ps []) (hx : Passes CX X E) (hr : Room (k + 1) X.A) : CallR X (.builtin "repr") (rReprO C sp E) := by
  intro pins s σ H xs us Q I r h
  obtain ⟨a, dx, fs, rfl, ha, hq⟩ := h
  obtain ⟨u, rfl, r1⟩ := vals1 r
  cases (show u = Value.ref a from r1)
  obtain ⟨mA, J, _⟩ := ins_get I.hok ha
  obtain ⟨od, J, _⟩ := J.look
  obtain ⟨m, fr⟩ := I.fr
  have hr1 : Room k X.A.in1 := hr.in1
  have hl : ([Value.ref a] ++ []).length = ps.length := (show ([V.ref a] : List V).length = _ from F.len _ _ _ _ hq)
  refine PySem.W.repr_K hr1.units0 fr I.ok.mod.kin J hs hf (wpAny_call (codeAny_mono (F.run X.A.in1 X.stack s H ⟨[.ref a], []⟩ [.ref a] [.ref a] _ E hr1 I.env0.in1 (hb s [.ref a] I.kIn hl) (.cons rfl .nil) hq) fun res s' hres => ?_))
  match res, hres with
  | .error er, hres => exact hx pins σ H s er s' I hres
  | .ok .next, hres => exact hres.elim
  | .ok .brk, hres => exact hres.elim
  | .ok .cont, hres => exact hres.elim
  | .ok (.ret u), hres =>
    obtain ⟨z, H', I', rz, x, rfl, q⟩ := I.after hres
    obtain ⟨t, rfl⟩ := rz
    exact ⟨.str x, H', I', ⟨t, rfl⟩, q⟩
end MM
namespace MM
open PySem PySem.Spec PySem.Calls PyProof.Rows L2
/-! ### x in [..] where a comparison runs code of its own -/
section
variable {prog : Program} {w : World} {A : Around} {R : Result → Shared → Prop}
theorem in_loopG (l : Addr) (x : Value) (N : Nat) (B : Nat → Bool) (Iv : Nat → Shared → Prop)
    (hl : ∀ i s, Iv i s → ∃ (its : Array Value) (n : Nat), s.heap.get? l = some { cls := .type "list", data := .seq its n } ∧ its.size = N ∧ ∀ h : i < its.size, wpAny (model prog w) A.in1 (eqBool its[i] x) (fun r s' => r = B i ∧ Iv (i + 1) s') (fun e s' => R (.error e) s') s)
    (fT : ∀ i s, i < N → B i = true → Iv (i + 1) s → R (.ok (.ret (.bool true))) s) (fF : (∀ j, j < N → B j = false) → ∀ s, Iv N s → R (.ok (.ret (.bool false))) s) (k : Nat) :
    ∀ i : Nat, N - i = k → i ≤ N → (∀ j, j < i → B j = false) → ∀ s, Iv i s →
      wpAny (model prog w) A.in1 (Builtin.«list.__contains__.loop» ⟨[.ref l, x, rawInt i], []⟩) (GQ.FinOf prog w A R) (fun e s' => R (.error e) s') s := by
  induction k with
  | zero =>
    intro i hk hi hno s h
    obtain ⟨its, n, h1, hs, _⟩ := hl _ _ h
    have ei : i = N := by omega
    subst ei
    have hR := fF hno s h
    obtain ⟨hp, g, d, tk, os⟩ := s
    wp_walk using wpAny_loadPart' h1
    have e1 : its[((i : Nat) : Int).toNat]? = none := by simp; omega
    rw [e1]
    wp_walk
    exact hR
  | succ k ih =>
    intro i hk hi hno s h
    obtain ⟨its, n, h1, hs, turn⟩ := hl _ _ h
    have hlt : i < its.size := by omega
    have ht := turn hlt
    obtain ⟨hp, g, d, tk, os⟩ := s
    wp_walk using wpAny_loadPart' h1
    have e1 : its[((i : Nat) : Int).toNat]? = some its[i] := by simp [hlt]
    have hc : ((i : Int) + 1) = ((i + 1 : Nat) : Int) := by omega
    rw [e1]
    refine wpAny_bind (wpAny_mono ht (fun r s2 h2 => ?_) fun _ _ z => z)
    obtain ⟨hr, h2⟩ := h2
    cases hb : B i with
    | true =>
      rw [hb] at hr
      subst hr
      have hR := fT i s2 (by omega) hb h2
      obtain ⟨hp2, g2, d2, tk2, os2⟩ := s2
      wp_walk
      exact hR
    | false =>
      rw [hb] at hr
      subst hr
      have hrec := ih (i + 1) (by omega) (by omega) (fun j hj => by
        by_cases e : j = i
        · subst e
          exact hb
        · exact hno j (by omega)) s2 h2
      obtain ⟨hp2, g2, d2, tk2, os2⟩ := s2
      wp_walk
      rw [hc]
      exact ⟨plainId_quiet PySem.MeetsSeq.plain_contains_loop _, codeAny_builtin PySem.MeetsSeq.entry_contains_loop (by
        rw [Around.under_plainId PySem.MeetsSeq.plain_contains_loop _]
        exact hrec)⟩
theorem in_listG {E : Value → Shared → Prop} {s : Shared} {Q : Value → Shared → Prop} (l : Addr) (x : Value) (N : Nat) (B : Nat → Bool) (Iv : Nat → Shared → Prop)
    (hl : ∀ i s, Iv i s → ∃ (its : Array Value) (n : Nat), s.heap.get? l = some { cls := .type "list", data := .seq its n } ∧ its.size = N ∧ ∀ h : i < its.size, wpAny (model prog w) A.in1 (eqBool its[i] x) (fun r s' => r = B i ∧ Iv (i + 1) s') E s)
    (fT : ∀ i s, i < N → B i = true → Iv (i + 1) s → Q (.bool true) s) (fF : (∀ j, j < N → B j = false) → ∀ s, Iv N s → Q (.bool false) s) (h : Iv 0 s) : wpAny (model prog w) A (compareOp .In x (.ref l)) Q E s := by
  obtain ⟨its, n, h1, _, _⟩ := hl _ _ h
  show wpAny _ A (do return .bool (← contains (.ref l) x)) Q E s
  refine wpAny_bind (wpAny_contains_slot ⟨_, h1, rfl⟩ F.slot_list_contains (wpAny_mono (GQ.call_here (Q := fun v s' => ∃ b, v = .bool b ∧ Q (.bool b) s') F.slot_list_contains ⟨_, h1, rfl⟩ F.entry_list_contains (F.args_list_contains_2 _ _) ?_) (fun v s' hv => ?_) fun _ _ e => e))
  · have go := in_loopG (prog := prog) (w := w) (A := A) (R := wants (fun v s' => ∃ b, v = .bool b ∧ Q (.bool b) s') E) l x N B Iv hl (fun i s hi hb q => ⟨true, rfl, fT i s hi hb q⟩) (fun hno s q => ⟨false, rfl, fF hno s q⟩) (N - 0) 0 rfl (Nat.zero_le _) (fun j hj => absurd hj (Nat.not_lt_zero j)) s h
    obtain ⟨hp, g, d, tk, os⟩ := s
    wp_walk
    exact ⟨plainId_quiet PySem.MeetsSeq.plain_contains_loop _, codeAny_builtin PySem.MeetsSeq.entry_contains_loop (by
      rw [Around.under_plainId PySem.MeetsSeq.plain_contains_loop _]
      exact go)⟩
  · obtain ⟨b, rfl, hq⟩ := hv
    exact wpAny_truthy_bool (wpAny_pure hq)
end
/-- == inside a builtin, with either answer: it may run code, and the heap may grow -/
def EqB (X : Cx) (n : Nat) (D : V → V → Hp → Bool → Prop) : Prop :=
  ∀ (A : Around) (pins : List (Addr × Obj)) (s : Shared) (σ : L2.St) (H : Hp) (x y : V) (u v : Value) (b : Bool), L2.Sub X n A → Inv X pins σ H s → RelV x u → RelV y v → D x y H b →
    wpAny (model X.prog X.w) A (eqBool u v) (fun r s' => r = b ∧ ∃ H', Inv X pins σ H' s' ∧ Ext H H') X.xe s
/-- x in [..]: B i tells whether the i-th thing is == x -/
def rInG (D : V → V → Hp → Bool → Prop) : R2 := fun x y H Q => ∃ (p : Addr) (xs : List V) (B : Nat → Bool), y = .ref p ∧ H p = some (.lst xs) ∧ (∀ i z, xs[i]? = some z → ∀ H', Ext H H' → D z x H' (B i)) ∧ ∀ H', Ext H H' → Q (.bl ((List.range xs.length).any B)) H'
theorem op_inG {X : Cx} {n : Nat} {D : V → V → Hp → Bool → Prop} (h : EqB X n D) (hr : Room (n + 1) X.A) : OpR X (compareOp .In) (rInG D) := by
  intro pins s σ H x y v u Q I rx ry hq
  obtain ⟨p, xs, B, rfl, hp, hD, q⟩ := hq
  cases (show u = Value.ref p from ry)
  have sb : L2.Sub X (n + 1) X.A := ⟨hr, rfl⟩
  refine in_listG (A := X.A) p v xs.length B (fun _ s' => ∃ H', Inv X pins σ H' s' ∧ Ext H H') ?_ ?_ ?_ ⟨H, I, Ext.rfl'⟩
  · rintro i s' ⟨H', I', e⟩
    obtain ⟨z, its, k, r, ek⟩ := I'.hok p _ (e _ _ hp)
    refine ⟨its.toArray, k, ek, by rw [List.size_toArray, ← r.length], fun h1 => ?_⟩
    have hi : i < its.length := by simpa using h1
    have hx : i < xs.length := by rw [r.length]; exact hi
    obtain ⟨w, hw, rw'⟩ := r.get (List.getElem?_eq_getElem hx)
    have ew : its.toArray[i] = w := by
      rw [List.getElem?_eq_getElem hi] at hw
      simpa using Option.some.inj hw
    rw [ew]
    refine wpAny_mono (h X.A.in1 pins s' σ H' _ x w v (B i) sb.in1 I' rw' rx (hD i _ (List.getElem?_eq_getElem hx) H' e)) (fun c s2 z2 => ?_) fun _ _ y => y
    obtain ⟨hc, H2, I2, e2⟩ := z2
    exact ⟨hc, H2, I2, e.trans e2⟩
  · rintro i s' hi hb ⟨H', I', e⟩
    refine ⟨.bl true, H', I', rfl, ?_⟩
    have z := q H' e
    have ea : (List.range xs.length).any B = true := List.any_eq_true.mpr ⟨i, List.mem_range.mpr hi, hb⟩
    rw [ea] at z
    exact z
  · rintro hno s' ⟨H', I', e⟩
    refine ⟨.bl false, H', I', rfl, ?_⟩
    have z := q H' e
    have ea : (List.range xs.length).any B = false := by
      rw [List.any_eq_false]
      intro j hj
      rw [hno j (List.mem_range.mp hj)]
      decide
    rw [ea] at z
    exact z
end MM
namespace MM
open PySem PySem.Spec PySem.Calls PyProof.Rows L2
open AutoSeq1 (wpAny_loadPart')
/-! ### plain things == an instance: they decline, the instance's own __eq__ is asked -/
section
theorem int_dec_b (b : Bool) (l C dx : Addr) : Meets (Builtin.«int.__eq__» ⟨[.bool b, .ref l], []⟩) (fun _ R s => s.heap.get? l = some (PySem.W.instObj C dx) ∧ R (.ok (.ret .notImplemented)) s) :=
  .of_wp fun prog w A R s h => by obtain ⟨hp, g, d, tk, os⟩ := s; obtain ⟨hl, h⟩ := h; wp_walk using wpAny_loadPart' hl, wpAny_load hl; exact ⟨_, rfl, h⟩
theorem int_dec_i (b : Int) (u : Tok) (l C dx : Addr) : Meets (Builtin.«int.__eq__» ⟨[.int b u, .ref l], []⟩) (fun _ R s => s.heap.get? l = some (PySem.W.instObj C dx) ∧ R (.ok (.ret .notImplemented)) s) :=
  .of_wp fun prog w A R s h => by obtain ⟨hp, g, d, tk, os⟩ := s; obtain ⟨hl, h⟩ := h; wp_walk using wpAny_loadPart' hl, wpAny_load hl; exact ⟨_, rfl, h⟩
theorem str_dec_s (b : Str) (u : Tok) (l C dx : Addr) : Meets (Builtin.«str.__eq__» ⟨[.str b u, .ref l], []⟩) (fun _ R s => s.heap.get? l = some (PySem.W.instObj C dx) ∧ R (.ok (.ret .notImplemented)) s) :=
  .of_wp fun prog w A R s h => by obtain ⟨hp, g, d, tk, os⟩ := s; obtain ⟨hl, h⟩ := h; wp_walk using wpAny_loadPart' hl, wpAny_load hl; exact ⟨_, rfl, h⟩
end
section
variable {prog : Program} {w : World} {A : Around} {E : Value → Shared → Prop} {s : Shared} {K : PySem.W.Frag} {x C L f dx : Addr} {h₀ : Heap} {m : Str → Option Value} {od : Option Obj} {a : Value} {T : String}
/-- richCompare a x where a is of a built-in type and declines -/
theorem rc_back {Q : Value → Shared → Prop} (hu : A.units < cLine) (F : Fr h₀ L s.heap m) (X₀ : K.In h₀) (I : PySem.W.InstAt s.heap x (PySem.W.instObj C dx) C od) (ha : s.TypeIs a T) (hsub : PySem.W.subIn K (.ref C) (.type T) = some false)
    (one : wpAny (model prog w) A (tryCompare a "__eq__" (.ref x)) (fun r s' => r = none ∧ s' = s) E s)
    (hs : PySem.W.findIn K (.ref C) "__eq__" = some (some (.ref f))) (hf : PySem.W.isFn K (.ref f) = true)
    (h : wpAny (model prog w) A (call (.ref f) [.ref x, a]) (PySem.W.CmpBack Q) E s) : wpAny (model prog w) A (richCompare .Eq a (.ref x)) Q E s := by
  have X := X₀.keeps F.keep
  have two : wpAny (model prog w) A (tryCompare (.ref x) "__eq__" a) (fun r s' => ∃ v, r = some v ∧ Q v s') E s := by
    unfold tryCompare
    refine wpAny_bind (PySem.W.ifBound_K X I hs hf (wpAny_mono h (fun v s' hv => ?_) fun _ _ e => e))
    cases v <;> first | exact hv.elim | exact wpAny_pure ⟨_, rfl, hv⟩
  simp only [richCompare, cmpInfo, ha.oneThing_none]
  refine wpAny_holding (wpAny_bind (wpAny_cRoomFor hu ?_))
  refine wpAny_bind (wpAny_typeOf ha (wpAny_bind (I.type.here ?_)))
  have hne : (Value.type T != Value.ref C) = true := rfl
  simp only [hne, if_true]
  refine wpAny_bind ((PySem.W.looks_subIn X hsub).here ?_)
  simp only [Bool.false_eq_true, if_false, Bool.not_false, if_true]
  refine wpAny_bind (m := tryCompare a _ (.ref x)) (wpAny_mono one (fun r s1 z => ?_) fun _ _ e => e)
  obtain ⟨z1, z2⟩ := z
  subst z1
  subst z2
  refine wpAny_bind (m := tryCompare (.ref x) _ a) (wpAny_mono two (fun r s2 z => ?_) fun _ _ e => e)
  obtain ⟨v, rfl, hq⟩ := z
  exact wpAny_pure hq
end

/-! ### == inside a builtin by an own __eq__, either way about -/
/-- what is of a built-in type and declines beside an instance -/
inductive Pl (K : PySem.W.Frag) (H : Hp) : V → String → Prop where
  | non : Pl K H .non "NoneType"
  | bl (b : Bool) : Pl K H (.bl b) "bool"
  | int (i : Int) : Pl K H (.int i) "int"
  | str (x : Str) : Pl K H (.str x) "str"
  | tup {a : Addr} {xs : List V} (h : H a = some (.tup xs)) : Pl K H (.ref a) "tuple"
  | lst {a : Addr} {xs : List V} (h : H a = some (.lst xs)) : Pl K H (.ref a) "list"
section
variable {prog : Program} {w : World} {A : Around} {E : Value → Shared → Prop} {s : Shared} {K : PySem.W.Frag} {x l C dx : Addr} {od : Option Obj}
theorem tup_dec {items : Array Value} {Q : Option Value → Shared → Prop} (X : K.In s.heap) (I : PySem.W.InstAt s.heap x (PySem.W.instObj C dx) C od) (hl : s.heap.IsTuple l items) (hsub : PySem.W.subIn K (.ref C) (.type "tuple") = some false) (q : Q none s) :
    wpAny (model prog w) A (tryCompare (.ref l) "__eq__" (.ref x)) Q E s := by
  obtain ⟨⟨cls, dd, data, sl⟩, ho, hc, n, hd⟩ := id hl
  simp only at hc hd
  subst hc hd
  refine wpAny_tryCompare_declines ⟨_, ho, rfl⟩ PySem.F.slot_tuple_eq (GQ.call_here PySem.F.slot_tuple_eq ⟨_, ho, rfl⟩ PySem.F.entry_tuple_eq (PySem.F.args_tuple_eq_2 _ _) ?_)
  have L : PySem.W.Looks (model prog w) s.heap (isInstance (.ref x) (.type "tuple")) false := I.type.andThen (PySem.W.looks_subIn X hsub)
  obtain ⟨hp, g, d, tk, os⟩ := s
  wp_walk using wpAny_loadPart' ho, L.here
  exact ⟨rfl, q⟩
theorem lst_dec {items : Array Value} {n : Nat} {Q : Option Value → Shared → Prop} (X : K.In s.heap) (I : PySem.W.InstAt s.heap x (PySem.W.instObj C dx) C od) (ho : s.heap.get? l = some { cls := .type "list", data := .seq items n }) (hsub : PySem.W.subIn K (.ref C) (.type "list") = some false) (q : Q none s) :
    wpAny (model prog w) A (tryCompare (.ref l) "__eq__" (.ref x)) Q E s := by
  refine wpAny_tryCompare_declines ⟨_, ho, rfl⟩ PySem.F.slot_list_eq (GQ.call_here PySem.F.slot_list_eq ⟨_, ho, rfl⟩ PySem.F.entry_list_eq (PySem.F.args_list_eq_2 _ _) ?_)
  have L : PySem.W.Looks (model prog w) s.heap (isInstance (.ref x) (.type "list")) false := I.type.andThen (PySem.W.looks_subIn X hsub)
  obtain ⟨hp, g, d, tk, os⟩ := s
  wp_walk using wpAny_loadPart' ho, L.here
  exact ⟨rfl, q⟩
end
theorem pl_dec {X : Cx} {pins : List (Addr × Obj)} {σ : L2.St} {H : Hp} {s : Shared} {A : Around} {z : V} {u : Value} {T : String} {x C dx : Addr} {od : Option Obj} {E : Value → Shared → Prop} (I : Inv X pins σ H s) (p : Pl X.K H z T) (r : RelV z u) (J : PySem.W.InstAt s.heap x (PySem.W.instObj C dx) C od)
    (hsub : PySem.W.subIn X.K (.ref C) (.type T) = some false) : s.TypeIs u T ∧ wpAny (model X.prog X.w) A (tryCompare u "__eq__" (.ref x)) (fun r s' => r = none ∧ s' = s) E s := by
  cases p with
  | non =>
    cases (show u = Value.none from r)
    exact ⟨rfl, wpAny_tryCompare_declines rfl PySem.F.slot_NoneType_eq (call_gives PySem.F.slot_NoneType_eq rfl PySem.F.entry_NoneType_eq (PySem.F.args_NoneType_eq_2 _ _) (SeqAt.NoneType___eq___none_ref_0 x) ⟨rfl, rfl, rfl⟩)⟩
  | bl b =>
    cases (show u = Value.bool b from r)
    exact ⟨rfl, wpAny_tryCompare_declines rfl PySem.F.slot_bool_eq (call_meets PySem.F.slot_bool_eq rfl PySem.F.entry_int_eq (PySem.F.args_int_eq_2 _ _) (int_dec_b b x C dx) ⟨J.at_, rfl, rfl, rfl⟩)⟩
  | int i =>
    obtain ⟨t, rfl⟩ := r
    exact ⟨typeIs_int s i t, wpAny_tryCompare_declines (typeIs_int s i t) PySem.F.slot_int_eq (call_meets PySem.F.slot_int_eq (typeIs_int s i t) PySem.F.entry_int_eq (PySem.F.args_int_eq_2 _ _) (int_dec_i i t x C dx) ⟨J.at_, rfl, rfl, rfl⟩)⟩
  | str y =>
    obtain ⟨t, rfl⟩ := r
    exact ⟨typeIs_str s y t, wpAny_tryCompare_declines (typeIs_str s y t) PySem.F.slot_str_eq (call_meets PySem.F.slot_str_eq (typeIs_str s y t) PySem.F.entry_str_eq (PySem.F.args_str_eq_2 _ _) (str_dec_s y t x C dx) ⟨J.at_, rfl, rfl, rfl⟩)⟩
  | tup h =>
    rename_i a xs
    cases (show u = Value.ref a from r)
    obtain ⟨its, r2, e, z⟩ := I.tuple (SqT.of h)
    refine ⟨?_, tup_dec I.kIn J e hsub ⟨rfl, rfl⟩⟩
    obtain ⟨o, ho, hc, n, hd⟩ := e
    exact ⟨o, ho, hc⟩
  | lst h =>
    rename_i a xs
    cases (show u = Value.ref a from r)
    obtain ⟨z, its, k, r2, e⟩ := I.hok a _ h
    exact ⟨⟨_, e, rfl⟩, lst_dec I.kIn J e hsub ⟨rfl, rfl⟩⟩
def DOwn (K : PySem.W.Frag) (C : Addr) (sp : Sp) (E : XK) : V → V → Hp → Bool → Prop := fun z x H b =>
  (∃ (a dx : Addr) (fs : List (Str × V)), z = .ref a ∧ H a = some (.ins C dx fs) ∧ ((x = .ref a ∧ b = true) ∨ (x ≠ .ref a ∧ ∃ t, TyX K H x t ∧ PySem.W.notFirst K C t = true ∧ sp [z, x] H (fun v H' => v = .bl b ∧ Ext H H') E))) ∨
  (∃ (a dx : Addr) (fs : List (Str × V)) (T : String), x = .ref a ∧ H a = some (.ins C dx fs) ∧ Pl K H z T ∧ PySem.W.subIn K (.ref C) (.type T) = some false ∧ sp [x, z] H (fun v H' => v = .bl b ∧ Ext H H') E)
theorem rel_ne {x : V} {v : Value} {a : Addr} (r : RelV x v) (h : x ≠ .ref a) : (Value.ref a == v) = false ∧ (v == Value.ref a) = false := by
  constructor
  · rw [beq_eq_false_iff_ne]
    intro z
    subst z
    apply h
    cases x <;> first | (cases r; rfl) | (obtain ⟨_, z⟩ := r; cases z) | (cases r)
  · rw [beq_eq_false_iff_ne]
    intro z
    subst z
    apply h
    cases x <;> first | (cases r; rfl) | (obtain ⟨_, z⟩ := r; cases z) | (cases r)
theorem env_sub {X : Cx} {n : Nat} {A : Around} {pins : List (Addr × Obj)} {σ : L2.St} {H : Hp} {s : Shared} (sb : L2.Sub X n A) (I : Inv X pins σ H s) : Env0 X.prog X.w X.K X.mg X.base A X.stack s H := by
  have e := I.env0
  exact ⟨by rw [sb.fr]; exact e.frames, e.mod, e.bs, e.bsz, e.funs, e.frf, e.hok, e.bare⟩
theorem eqB_own {X : Cx} {n : Nat} {CX : CXT} {C f : Addr} {fd : FuncData} {ps : List Str} {sp : Sp} {E : XK} (F : FnOk X.prog X.w X.K X.mg X.base CX n f fd ps sp)
    (hs : PySem.W.findIn X.K (.ref C) "__eq__" = some (some (.ref f))) (hf : PySem.W.isFn X.K (.ref f) = true) (hb : Binds X.K fd ps []) (hx : Passes CX X E) : EqB X n (DOwn X.K C sp E) := by
  intro A pins s σ H x y u v b sb I rx ry d
  have e0 := env_sub sb I
  obtain ⟨m, hF⟩ := I.fr
  -- the call of the own __eq__
  have run : ∀ (p q : V) (p' q' : Value), RelV p p' → RelV q q' → sp [p, q] H (fun v H' => v = .bl b ∧ Ext H H') E →
      wpAny (model X.prog X.w) A (call (.ref f) [p', q']) (PySem.W.CmpBack (fun v s' => v = .bool b ∧ ∃ H', Inv X pins σ H' s' ∧ Ext H H')) X.xe s := by
    intro p q p' q' rp rq hsp
    have hl := F.len _ _ _ _ hsp
    refine wpAny_call (codeAny_mono (F.run A X.stack s H ⟨[p', q'], []⟩ [p', q'] [p, q] _ E sb.room e0 (by
      have := hb s [p', q'] I.kIn (by simpa using hl)
      simpa using this) (.cons rp (.cons rq .nil)) hsp) fun r s' hq => ?_)
    cases r with
    | error e => exact hx pins σ H s e s' I hq
    | ok fl =>
      cases fl with
      | ret w =>
        obtain ⟨z, H', I', rz, ez, ex⟩ := I.after hq
        subst ez
        cases (show w = Value.bool b from rz)
        exact ⟨rfl, H', I', ex⟩
      | next => exact False.elim hq
      | brk => exact False.elim hq
      | cont => exact False.elim hq
  rcases d with ⟨a, dx, fs, rfl, ha, hh⟩ | ⟨a, dx, fs, T, rfl, ha, pl, hsub, hsp⟩
  · cases (show u = Value.ref a from rx)
    rcases hh with ⟨rfl, rfl⟩ | ⟨hne, t, ty, nf, hsp⟩
    · cases (show v = Value.ref a from ry)
      exact SeqAt.EqAt.same (A := A) (s := s) (.ref a) X.prog X.w X.xe _ ⟨rfl, H, I, Ext.rfl'⟩
    · obtain ⟨mA, J, _⟩ := ins_get I.hok ha
      obtain ⟨od, J, _⟩ := J.look
      obtain ⟨P, kx, hP, _⟩ := kit_of I ry ty
      unfold eqBool
      refine wpAny_holding ?_
      rw [(rel_ne ry hne).1]
      simp only [Bool.false_eq_true, if_false]
      refine wpAny_bind (PySem.W.cmp_K (op := .Eq) sb.room.units0 hF I.ok.mod.kin J (kx.ty _ _ I.kIn hP) nf hs hf (wpAny_mono (run (.ref a) y (.ref a) v rfl ry hsp) (fun w s' hw => ?_) fun _ _ z => z))
      cases w with
      | bool c =>
        obtain ⟨hc, q⟩ := (show Value.bool c = .bool b ∧ _ from hw)
        exact wpAny_truthy_bool ⟨Value.bool.inj hc, q⟩
      | notImplemented => exact hw.elim
      | _ =>
        obtain ⟨hc, q⟩ := hw
        cases hc
  · cases (show v = Value.ref a from ry)
    obtain ⟨mA, J, _⟩ := ins_get I.hok ha
    obtain ⟨od, J, _⟩ := J.look
    obtain ⟨ht, dec⟩ := pl_dec (A := A) (E := X.xe) I pl rx J hsub
    have hne : x ≠ .ref a := by
      rintro rfl
      cases pl with
      | tup h =>
        obtain ⟨its, r2, e, z⟩ := I.tuple (SqT.of h)
        obtain ⟨o, ho, hc, _⟩ := e
        rw [J.at_] at ho
        cases ho
        cases hc
      | lst h =>
        rw [ha] at h
        cases h
    unfold eqBool
    refine wpAny_holding ?_
    rw [(rel_ne rx hne).2]
    simp only [Bool.false_eq_true, if_false]
    have go : wpAny (model X.prog X.w) A (richCompare .Eq u (.ref a)) (fun w s' => wpAny (model X.prog X.w) A (truthOfDropped w) (fun r s' => r = b ∧ ∃ H', Inv X pins σ H' s' ∧ Ext H H') X.xe s') X.xe s := by
      refine rc_back sb.room.units0 hF I.ok.mod.kin J ht hsub dec hs hf (wpAny_mono (run (.ref a) x (.ref a) u rfl rx hsp) (fun w s' hw => ?_) fun _ _ z => z)
      cases w with
      | bool c =>
        obtain ⟨hc, q⟩ := (show Value.bool c = .bool b ∧ _ from hw)
        exact wpAny_truthy_bool ⟨Value.bool.inj hc, q⟩
      | notImplemented => exact hw.elim
      | _ =>
        obtain ⟨hc, q⟩ := hw
        cases hc
    cases u <;> exact wpAny_bind go
theorem op_inO {X : Cx} {CX : CXT} {k j : Nat} {C : Addr} {qual : Str} {st : Stmt} {ps : List Str} {sp : Sp} {E : XK} (c : Cm X.prog X.w X.K X.mg X.base CX k C "__eq__" qual st ps sp) (b : Bd "__eq__" qual st ps) (hx : Passes CX X E) (hr : Room j X.A) (hk : k + 1 ≤ j) :
    OpR X (compareOp .In) (rInG (DOwn X.K C sp E)) := by
  obtain ⟨f, fd, F, M, hc, G⟩ := c.ex
  exact op_inG (eqB_own G M.1 M.2 (F.bindsN b) hx) (hr.mono hk)
/-- the built-in types come of no class of the text -/
theorem sub_T {K : PySem.W.Frag} {C : Addr} {T : String} (ms : List String) (e : fastBuiltinMro T = some (ms.map Value.type)) : PySem.W.subIn K (.type T) (.ref C) = some false := by
  show (fastBuiltinMro T).map (·.contains (.ref C)) = some false
  rw [e]
  show some ((ms.map Value.type).contains (.ref C)) = some false
  congr 1
  rw [List.contains_eq_any_beq]
  rw [List.any_eq_false]
  intro x hx
  obtain ⟨m, _, rfl⟩ := List.mem_map.mp hx
  simp
theorem sub_ty {K : PySem.W.Frag} {C : Addr} {H : Hp} {z : V} {T : String} (p : Pl K H z T) : PySem.W.subIn K (.type T) (.ref C) = some false := by
  cases p with
  | non => exact sub_T ["NoneType", "object"] (by decide +kernel)
  | bl b => exact sub_T ["bool", "int", "object"] (by decide +kernel)
  | int i => exact sub_T ["int", "object"] (by decide +kernel)
  | str x => exact sub_T ["str", "object"] (by decide +kernel)
  | tup h => exact sub_T ["tuple", "object"] (by decide +kernel)
  | lst h => exact sub_T ["list", "object"] (by decide +kernel)
theorem Pl.tyx {K : PySem.W.Frag} {H : Hp} {z : V} {T : String} (p : Pl K H z T) : TyX K H z (.type T) := by
  cases p with
  | non => exact .base .non
  | bl b => exact .base (.bl b)
  | int i => exact .base (.int i)
  | str x => exact .base (.str x)
  | tup e => exact .base (.tup e)
  | lst e => exact .base (.lst e)
theorem Pl.first {K : PySem.W.Frag} {C : Addr} {H : Hp} {z : V} {T : String} (p : Pl K H z T) : PySem.W.notFirst K C (.type T) = true := by
  unfold PySem.W.notFirst
  rw [sub_ty p]
  simp
end MM
namespace MM
open PySem PySem.Spec PySem.Calls PyProof.Rows L2
/-! ### truths as texts -/
def blS (b : Bool) : Str := if b then "True" else "False"
section
variable {prog : Program} {w : World} {A : Around} {E : Value → Shared → Prop} {s : Shared}
open Builtin Builtin.Str in
theorem strOf_bool {b : Bool} {Q : Value → Shared → Prop} (h : Q (.str (blS b) s.toks) { s with toks := s.toks + 1 }) : wpAny (model prog w) A (PySem.Builtin.Str.strOf (.bool b)) Q E s := by
  unfold PySem.Builtin.Str.strOf
  rw [show isExactStr (.bool b) = false from rfl]
  simp only [cRoomFor, show [Value.bool b].any Value.onHeap = false from rfl, Bool.false_eq_true, if_false, pure_bind]
  refine wpAny_bind (m := callSpecial? _ (PySem.Str.ofString "__str__")) (wpAny_callSpecial?_slot (name := PySem.Str.ofString "__str__") (PySem.typeIs_bool s b) PySem.F.slot_bool_str (call_object_str_gives (PySem.typeIs_bool s b) PySem.F.slot_bool_str PySem.F.slot_bool_repr PySem.F.entry_bool_repr (PySem.F.args_bool_repr_1 _) (gives_bool_repr b) ?_ rfl (by cases b <;> decide)))
  exact wpAny_pure h
theorem str_of_bool {b : Bool} {Q : Value → Shared → Prop} (h : Q (.str (blS b) s.toks) { s with toks := s.toks + 1 }) : wpAny (model prog w) A (call (.type "str") [.bool b]) Q E s := by
  refine callType_codes (T := "str") (Bi := Builtin.«object.__init__») (Q₁ := fun r s₁ => ∃ y u, r = .str y u ∧ Q r s₁) PySem.F.called_str (PySem.F.typeCall_str_1 _) PySem.F.entry_object_init ?_ ?_
  · refine codeAny_of_tree ?_
    show wpAny _ A.in1.in1 (do checkBuiltinCall "str.__new__" ⟨[.type "str", .bool b], []⟩; again (.builtin "str.__new__" ⟨[.type "str", .bool b], []⟩)) _ _ s
    refine wpAny_bind (wpAny_of_eq (PySem.F.newCall_str_1 _) (wpAny_pure ⟨plainId_quiet (by decide +kernel) _, codeAny_builtin PySem.F.entry_str_new ?_⟩))
    rw [Around.under_plainId (by decide +kernel) _]
    rw [str_new_tree]
    refine wpAny_bind (wpAny_pure ?_)
    refine wpAny_bind (wpAny_of_eq isSubtype_str_str ?_)
    exact wpAny_bind (strOf_bool (wpAny_pure ⟨_, _, rfl, h⟩))
  · rintro obj s₁ ⟨y, u, rfl, hq⟩
    exact ⟨typeIs_str _ _ _, PySem.F.args_object_init_2 _ _, object_init_meets PySem.F.called_str.init.lookup PySem.F.called_str.made (by decide) prog w A.in1 _ s₁ ⟨typeIs_str _ _ _, rfl, hq⟩⟩
end
section
variable {X : Cx}
theorem call_str_bool : CallR X (.type "str") (fun xs H Q => ∃ b, xs = [.bl b] ∧ Q (.str (blS b)) H) := by
  intro pins s σ H xs us Q I r h
  obtain ⟨b, rfl, q⟩ := h
  obtain ⟨u, rfl, r1⟩ := vals1 r
  cases (show u = Value.bool b from r1)
  exact str_of_bool ⟨.str _, H, I.tok _, ⟨_, rfl⟩, q⟩
/-- str of a whole number or a truth -/
theorem call_strIB : CallR X (.type "str") (fun xs H Q => (∃ i : Int, xs = [.int i] ∧ i.natAbs.log2 < 1920 ∧ Q (.str (toString i)) H) ∨ ∃ b, xs = [.bl b] ∧ Q (.str (blS b)) H) := CallR.or call_str_int call_str_bool
/-- {x} of a truth -/
def tFmtB (te : TE) : TE := fun σ H Q => te σ H fun x H1 => ∃ b : Bool, x = .bl b ∧ Q (.str (blS b)) H1
theorem pe_fmtB {e : Expr} {te : TE} {pos : Pos} (he : PE X e te) : PE X (.FormattedValue e (-1) none pos) (tFmtB te) := by
  refine ⟨fun pins s σ H Q I h => ?_⟩
  refine wpAny_FormattedValue_plain (thn (he.run pins s σ H _ I h) fun v s1 hv => ?_)
  obtain ⟨x, H1, I1, r1, b, rfl, q⟩ := hv
  cases (show v = Value.bool b from r1)
  exact wpAny_formatField_bool ⟨.str (blS b), H1, I1.tok _, ⟨_, rfl⟩, q⟩
end
/-- str(x) of a whole number, a truth, or an instance with its own __str__ -/
@[irreducible] def rSA (C : Addr) (sp : Sp) (E : XK) : List V → Hp → VK → Prop := fun xs H Q => ((∃ i : Int, xs = [.int i] ∧ i.natAbs.log2 < 1920 ∧ Q (.str (toString i)) H) ∨ ∃ b, xs = [.bl b] ∧ Q (.str (blS b)) H) ∨ rStrO C sp E xs H Q
theorem sa_int {C : Addr} {sp : Sp} {E : XK} {H : Hp} {Q : VK} {i : Int} (h : i.natAbs.log2 < 1920) (q : Q (.str (toString i)) H) : rSA C sp E [.int i] H Q := by
  unfold rSA
  exact .inl (.inl ⟨i, rfl, h, q⟩)
theorem sa_bl {C : Addr} {sp : Sp} {E : XK} {H : Hp} {Q : VK} {b : Bool} (q : Q (.str (blS b)) H) : rSA C sp E [.bl b] H Q := by
  unfold rSA
  exact .inl (.inr ⟨b, rfl, q⟩)
theorem sa_own {C : Addr} {sp : Sp} {E : XK} {H : Hp} {Q : VK} {a dx : Addr} {fs : List (Str × V)} (e : H a = some (.ins C dx fs)) (q : sp [.ref a] H (fun v H' => ∃ x : Str, v = .str x ∧ Q (.str x) H') E) : rSA C sp E [.ref a] H Q := by
  unfold rSA
  exact .inr ⟨a, dx, fs, rfl, e, q⟩
theorem call_str_SA {X : Cx} {CX : CXT} {k : Nat} {C : Addr} {qual : Str} {st : Stmt} {ps : List Str} {sp : Sp} {E : XK} (c : Cm X.prog X.w X.K X.mg X.base CX k C "__str__" qual st ps sp) (b : Bd "__str__" qual st ps) (hr : Room (k + 2) X.A) (hx : Passes CX X E) :
    CallR X (.type "str") (rSA C sp E) := by
  obtain ⟨f, fd, F, M, hc, G⟩ := c.ex
  unfold rSA
  exact CallR.or call_strIB (call_strO G M.1 M.2 (F.bindsN b) hx hr)
theorem call_reprC {X : Cx} {CX : CXT} {k : Nat} {C : Addr} {qual : Str} {st : Stmt} {ps : List Str} {sp : Sp} {E : XK} (c : Cm X.prog X.w X.K X.mg X.base CX k C "__repr__" qual st ps sp) (b : Bd "__repr__" qual st ps) (hr : Room (k + 1) X.A) (hx : Passes CX X E) :
    CallR X (.builtin "repr") (rReprO C sp E) := by
  obtain ⟨f, fd, F, M, hc, G⟩ := c.ex
  exact call_reprO G M.1 M.2 (F.bindsN b) hx hr
theorem ln (xs : List V) (h : Nat.ble xs.length 1000 = true := by rfl) : xs.length ≤ sizeLine := Nat.le_trans (Nat.le_of_ble_eq_true h) (by decide)
end MM
namespace MM
open PySem PySem.Spec PySem.Calls PyProof.Rows L2
open AutoSeq1 (wpAny_loadPart')
open GQ (FinOf call_here)
/-! ### tuples of instances, != -/
section
variable {prog : Program} {w : World} {A : Around} {R : Result → Shared → Prop}
theorem tup_ne (l b : Addr) (xs ys : Array Value) (n m : Nat) (dd de : Option Addr) (sl sm : Array (Option Value)) (hz : xs.size = ys.size) (Iv : Nat → Shared → Prop)
    (turn : ∀ i (h1 : i < xs.size) (h2 : i < ys.size) s, Iv i s → wpAny (model prog w) A.in1 (eqBool xs[i] ys[i]) (fun r s' => r = true ∧ Iv (i + 1) s') (fun e s' => R (.error e) s') s)
    (fin : ∀ s, Iv xs.size s → R (.ok (.ret (.bool false))) s) {s : Shared} (ha : s.heap.get? l = some { cls := .type "tuple", dict := dd, data := .seq xs n, slots := sl }) (hb : s.heap.get? b = some { cls := .type "tuple", dict := de, data := .seq ys m, slots := sm }) (h : Iv 0 s) :
    wpAny (model prog w) A.in1 (Builtin.«tuple.__ne__» ⟨[.ref l, .ref b], []⟩) (FinOf prog w A R) (fun e s' => R (.error e) s') s := by
  have f2 := AutoSeq1.sub_tuple_tuple
  have hZ : (xs.toList.zip ys.toList).length = xs.size := by simp [hz]
  have h0 := h
  obtain ⟨hp, g, d, tk, os⟩ := s
  wp_walk using wpAny_loadPart' ha, wpAny_loadPart' hb, wpAny_forIn_list _ (fun rest b s' => b.1 = none ∧ ∃ i, rest = (xs.toList.zip ys.toList).drop i ∧ i ≤ xs.size ∧ Iv i s') _
  case turn =>
    rintro ⟨y, x⟩ rest b s' ⟨hb', i, hq, hi, hI⟩
    have hlt : i < (xs.toList.zip ys.toList).length := by
      by_cases h' : i < (xs.toList.zip ys.toList).length
      · exact h'
      · rw [List.drop_of_length_le (by omega)] at hq
        cases hq
    have h1 : i < xs.size := hZ ▸ hlt
    have h2 : i < ys.size := hz ▸ h1
    rw [List.drop_eq_getElem_cons hlt] at hq
    injection hq with hyx hrest
    have hy : y = xs[i] := by have := congrArg Prod.fst hyx; simpa using this
    have hx : x = ys[i] := by have := congrArg Prod.snd hyx; simpa using this
    subst hy hx
    refine wpAny_bind (wpAny_mono (turn i h1 h2 s' hI) (fun r s2 q2 => ?_) fun _ _ x => x)
    obtain ⟨hr, q2⟩ := q2
    subst hr
    wp_walk
    exact ⟨rfl, i + 1, hrest, h1, q2⟩
  case fin =>
    rintro ⟨b1, b2⟩ s' ⟨hb', i, hq, hi, hI⟩
    simp only at hb'
    subst hb'
    have hge : xs.size ≤ i := by
      by_cases h' : i < (xs.toList.zip ys.toList).length
      · rw [List.drop_eq_getElem_cons h'] at hq
        cases hq
      · omega
    have hi' : i = xs.size := by omega
    have hR : R (.ok (.ret (.bool false))) s' := fin s' (hi' ▸ hI)
    wp_walk
    simpa [Builtin.Tuple.tupleCompareSizes, hz] using hR
  case h =>
    exact ⟨rfl, 0, rfl, Nat.zero_le _, h0⟩
theorem rc_tup_ne {E : Value → Shared → Prop} {s : Shared} {l b : Addr} {xs ys : Array Value} {Q : Value → Shared → Prop} (hz : xs.size = ys.size) (hu : A.units < cLine) (Iv : Nat → Shared → Prop) (hl : s.heap.IsTuple l xs) (hb : s.heap.IsTuple b ys)
    (turn : ∀ i (h1 : i < xs.size) (h2 : i < ys.size) s, Iv i s → wpAny (model prog w) A.in1 (eqBool xs[i] ys[i]) (fun r s' => r = true ∧ Iv (i + 1) s') E s)
    (fin : ∀ s, Iv xs.size s → Q (.bool false) s) (h : Iv 0 s) : wpAny (model prog w) A (richCompare .NotEq (.ref l) (.ref b)) Q E s := by
  obtain ⟨⟨cls, dd, data, sl⟩, ho, hc, n, hd⟩ := id hl
  obtain ⟨⟨cls2, dd2, data2, sl2⟩, ho2, hc2, n2, hd2⟩ := id hb
  simp only at hc hd hc2 hd2
  subst hc hd hc2 hd2
  refine wpAny_richCompare_same_room (op := .NotEq) ⟨_, ho, rfl⟩ ⟨_, ho2, rfl⟩ PySem.F.slot_tuple_ne (call_here PySem.F.slot_tuple_ne ⟨_, ho, rfl⟩ PySem.F.entry_tuple_ne (PySem.F.args_tuple_ne_2 _ _) ?_) hu
  exact tup_ne (R := wants (fun v s' => v ≠ .notImplemented ∧ Q v s') E) l b xs ys n n2 dd dd2 sl sl2 hz Iv turn (fun s' q => ⟨(fun x => nomatch x), fin s' q⟩) ho ho2 h
end
/-- tuples whose things are equal one by one -/
def rNeG (D : Eqv) : R2 := fun x y H Q => D x y H ∧ ∀ H', Ext H H' → Q (.bl false) H'
theorem op_neTG {X : Cx} {n : Nat} {D : Eqv} (hD : Mon D) (h : EqG X n D) (hr : Room (n + 1) X.A) : OpR X (compareOp .NotEq) (rNeG (DTup X.K D)) := by
  intro pins s σ H x y v u Q I rx ry hq
  obtain ⟨⟨a, b, xs, ys, rfl, rfl, ha, hb, p⟩, q⟩ := hq
  cases (show v = Value.ref a from rx)
  cases (show u = Value.ref b from ry)
  have sb : L2.Sub X (n + 1) X.A := ⟨hr, rfl⟩
  obtain ⟨its, r, e, z⟩ := I.tuple ha
  obtain ⟨its2, r2, e2, z2⟩ := I.tuple hb
  have hz : its.toArray.size = its2.toArray.size := by rw [List.size_toArray, List.size_toArray, ← r.length, ← r2.length]; exact p.1
  show wpAny (model X.prog X.w) X.A (richCompare .NotEq (.ref a) (.ref b)) (EP X pins σ Q) X.xe s
  refine rc_tup_ne hz sb.room.units0 (fun _ s' => LoopI X pins σ H s') e e2 (fun i h1 h2 s' q => turnG hD h sb p r r2 i h1 h2 s' q) (fun s' q' => ?_) ⟨H, I, Ext.rfl'⟩
  obtain ⟨H', I', e'⟩ := q'
  exact ⟨.bl false, H', I', rfl, q H' e'⟩
/-- equal things of a class by its own __eq__ -/
theorem eqG_own {X : Cx} {CX : CXT} {k : Nat} {C : Addr} {qual : Str} {st : Stmt} {ps : List Str} {sp : Sp} {E : XK} {D : Eqv} (c : Cm X.prog X.w X.K X.mg X.base CX k C "__eq__" qual st ps sp) (b : Bd "__eq__" qual st ps) (hx : Passes CX X E) (hd : ∀ x y H, D x y H → DOwn X.K C sp E x y H true) : EqG X k D := by
  obtain ⟨f, fd, F, M, hc, G⟩ := c.ex
  intro A pins s σ H x y u v sb I rx ry d
  exact eqB_own G M.1 M.2 (F.bindsN b) hx A pins s σ H x y u v true sb I rx ry (hd x y H d)
end MM
namespace MM
open PySem PySem.Spec PySem.Calls PyProof.Rows L2
open AutoSeq1 (wpAny_loadPart')
open GQ (FinOf call_here)
/-! ### tuples of instances, ==, with either answer -/
section
variable {prog : Program} {w : World} {A : Around} {R : Result → Shared → Prop}
theorem tup_eqB (l b : Addr) (xs ys : Array Value) (n m : Nat) (dd de : Option Addr) (sl sm : Array (Option Value)) (hz : xs.size = ys.size) (B : Nat → Bool) (Iv : Nat → Shared → Prop)
    (turn : ∀ i (h1 : i < xs.size) (h2 : i < ys.size) s, Iv i s → wpAny (model prog w) A.in1 (eqBool xs[i] ys[i]) (fun r s' => r = B i ∧ Iv (i + 1) s') (fun e s' => R (.error e) s') s)
    (finF : ∀ i s, i < xs.size → B i = false → Iv (i + 1) s → R (.ok (.ret (.bool false))) s) (fin : (∀ i, i < xs.size → B i = true) → ∀ s, Iv xs.size s → R (.ok (.ret (.bool true))) s) {s : Shared} (ha : s.heap.get? l = some { cls := .type "tuple", dict := dd, data := .seq xs n, slots := sl }) (hb : s.heap.get? b = some { cls := .type "tuple", dict := de, data := .seq ys m, slots := sm }) (h : Iv 0 s) :
    wpAny (model prog w) A.in1 (Builtin.«tuple.__eq__» ⟨[.ref l, .ref b], []⟩) (FinOf prog w A R) (fun e s' => R (.error e) s') s := by
  have f2 := AutoSeq1.sub_tuple_tuple
  have hZ : (xs.toList.zip ys.toList).length = xs.size := by simp [hz]
  have h0 := h
  obtain ⟨hp, g, d, tk, os⟩ := s
  wp_walk using wpAny_loadPart' ha, wpAny_loadPart' hb, wpAny_forIn_list _ (fun rest b s' => (b.1 = none ∧ ∃ i, rest = (xs.toList.zip ys.toList).drop i ∧ i ≤ xs.size ∧ (∀ j, j < i → B j = true) ∧ Iv i s')) _
  case turn =>
    rintro ⟨y, x⟩ rest b s' ⟨hb', i, hq, hi, hall, hI⟩
    have hlt : i < (xs.toList.zip ys.toList).length := by
      by_cases h' : i < (xs.toList.zip ys.toList).length
      · exact h'
      · rw [List.drop_of_length_le (by omega)] at hq
        cases hq
    have h1 : i < xs.size := hZ ▸ hlt
    have h2 : i < ys.size := hz ▸ h1
    rw [List.drop_eq_getElem_cons hlt] at hq
    injection hq with hyx hrest
    have hy : y = xs[i] := by have := congrArg Prod.fst hyx; simpa using this
    have hx : x = ys[i] := by have := congrArg Prod.snd hyx; simpa using this
    subst hy hx
    refine wpAny_bind (wpAny_mono (turn i h1 h2 s' hI) (fun r s2 q2 => ?_) fun _ _ x => x)
    obtain ⟨hr, q2⟩ := q2
    cases hB : B i with
    | true =>
      rw [hB] at hr
      subst hr
      wp_walk
      refine ⟨rfl, i + 1, hrest, h1, fun j hj => ?_, q2⟩
      by_cases e : j = i
      · subst e
        exact hB
      · exact hall j (by omega)
    | false =>
      rw [hB] at hr
      subst hr
      have q3 := finF i s2 h1 hB q2
      wp_walk
      exact q3
  case fin =>
    rintro ⟨b1, b2⟩ s' ⟨hb', i, hq, hi, hall, hI⟩
    simp only at hb'
    subst hb'
    have hge : xs.size ≤ i := by
      by_cases h' : i < (xs.toList.zip ys.toList).length
      · rw [List.drop_eq_getElem_cons h'] at hq
        cases hq
      · omega
    have hi' : i = xs.size := by omega
    have hR : R (.ok (.ret (.bool true))) s' := fin (fun j hj => hall j (by omega)) s' (hi' ▸ hI)
    wp_walk
    simpa [Builtin.Tuple.tupleCompareSizes, hz] using hR
  case h =>
    exact ⟨rfl, 0, rfl, Nat.zero_le _, fun j hj => absurd hj (Nat.not_lt_zero j), h0⟩
end

/-- x == y, tuples whose i-th things are == just where B i -/
def rEqTB (K : PySem.W.Frag) (D : V → V → Hp → Bool → Prop) : R2 := fun x y H Q => ∃ (a b : Addr) (xs ys : List V) (B : Nat → Bool), x = .ref a ∧ y = .ref b ∧ SqT K H a xs ∧ SqT K H b ys ∧ xs.length = ys.length ∧ (∀ i p q, xs[i]? = some p → ys[i]? = some q → ∀ H', Ext H H' → D p q H' (B i)) ∧ ∀ H', Ext H H' → Q (.bl ((List.range xs.length).all B)) H'
theorem get_arr {xs : List V} {its : List Value} (r : Vals xs its) {i : Nat} (h1 : i < its.toArray.size) : ∃ x, xs[i]? = some x ∧ RelV x its.toArray[i] := by
  have hi : i < its.length := by simpa using h1
  have hx : i < xs.length := by rw [r.length]; exact hi
  obtain ⟨w, hw, rw'⟩ := r.get (List.getElem?_eq_getElem hx)
  refine ⟨_, List.getElem?_eq_getElem hx, ?_⟩
  have ew : its.toArray[i] = w := by
    rw [List.getElem?_eq_getElem hi] at hw
    simpa using Option.some.inj hw
  rw [ew]
  exact rw'
theorem op_eqTB {X : Cx} {n : Nat} {D : V → V → Hp → Bool → Prop} (h : EqB X n D) (hr : Room (n + 1) X.A) : OpR X (compareOp .Eq) (rEqTB X.K D) := by
  intro pins s σ H x y v u Q I rx ry hq
  obtain ⟨a, b, xs, ys, B, rfl, rfl, ha, hb, hlen, hD, q⟩ := hq
  cases (show v = Value.ref a from rx)
  cases (show u = Value.ref b from ry)
  have sb : L2.Sub X (n + 1) X.A := ⟨hr, rfl⟩
  obtain ⟨its, r, e, z⟩ := I.tuple ha
  obtain ⟨its2, r2, e2, z2⟩ := I.tuple hb
  have hz : its.toArray.size = its2.toArray.size := by rw [List.size_toArray, List.size_toArray, ← r.length, ← r2.length]; exact hlen
  have hzx : its.toArray.size = xs.length := by rw [List.size_toArray, ← r.length]
  obtain ⟨⟨cls, dd, data, sl⟩, ho, hc, m1, hd⟩ := id e
  obtain ⟨⟨cls2, dd2, data2, sl2⟩, ho2, hc2, m2, hd2⟩ := id e2
  simp only at hc hd hc2 hd2
  subst hc hd hc2 hd2
  show wpAny (model X.prog X.w) X.A (richCompare .Eq (.ref a) (.ref b)) (EP X pins σ Q) X.xe s
  refine wpAny_richCompare_same_room (op := .Eq) ⟨_, ho, rfl⟩ ⟨_, ho2, rfl⟩ PySem.F.slot_tuple_eq (call_here PySem.F.slot_tuple_eq ⟨_, ho, rfl⟩ PySem.F.entry_tuple_eq (PySem.F.args_tuple_eq_2 _ _) ?_) sb.room.units0
  refine tup_eqB (R := wants (fun v s' => v ≠ .notImplemented ∧ EP X pins σ Q v s') X.xe) a b its.toArray its2.toArray m1 m2 dd dd2 sl sl2 hz B (fun _ s' => LoopI X pins σ H s') ?_ ?_ ?_ ho ho2 ⟨H, I, Ext.rfl'⟩
  · intro i h1 h2 s' hl
    obtain ⟨H', I', x'⟩ := hl
    obtain ⟨p, hp, rp⟩ := get_arr r h1
    obtain ⟨p2, hp2, rp2⟩ := get_arr r2 h2
    refine wpAny_mono (h X.A.in1 pins s' σ H' _ _ _ _ (B i) sb.in1 I' rp rp2 (hD i p p2 hp hp2 H' x')) (fun c s2 z2 => ?_) fun _ _ y => y
    obtain ⟨hc, H2, I2, x2⟩ := z2
    exact ⟨hc, H2, I2, x'.trans x2⟩
  · rintro i s' hi hB ⟨H', I', x'⟩
    refine ⟨(fun z => nomatch z), .bl false, H', I', rfl, ?_⟩
    have z := q H' x'
    have ea : (List.range xs.length).all B = false := by
      rw [List.all_eq_false]
      exact ⟨i, List.mem_range.mpr (by omega), by rw [hB]; decide⟩
    rw [ea] at z
    exact z
  · rintro hall s' ⟨H', I', x'⟩
    refine ⟨(fun z => nomatch z), .bl true, H', I', rfl, ?_⟩
    have z := q H' x'
    have ea : (List.range xs.length).all B = true := by
      rw [List.all_eq_true]
      intro j hj
      exact hall j (by have := List.mem_range.mp hj; omega)
    rw [ea] at z
    exact z
/-! ### x not in [..] by an own __eq__ -/
section
variable {prog : Program} {w : World} {A : Around}
theorem notin_listG {E : Value → Shared → Prop} {s : Shared} {Q : Value → Shared → Prop} (l : Addr) (x : Value) (N : Nat) (B : Nat → Bool) (Iv : Nat → Shared → Prop)
    (hl : ∀ i s, Iv i s → ∃ (its : Array Value) (n : Nat), s.heap.get? l = some { cls := .type "list", data := .seq its n } ∧ its.size = N ∧ ∀ h : i < its.size, wpAny (model prog w) A.in1 (eqBool its[i] x) (fun r s' => r = B i ∧ Iv (i + 1) s') E s)
    (fT : ∀ i s, i < N → B i = true → Iv (i + 1) s → Q (.bool false) s) (fF : (∀ j, j < N → B j = false) → ∀ s, Iv N s → Q (.bool true) s) (h : Iv 0 s) : wpAny (model prog w) A (compareOp .NotIn x (.ref l)) Q E s := by
  obtain ⟨its, n, h1, _, _⟩ := hl _ _ h
  show wpAny _ A (do return .bool (!(← contains (.ref l) x))) Q E s
  refine wpAny_bind (wpAny_contains_slot ⟨_, h1, rfl⟩ PySem.F.slot_list_contains (wpAny_mono (call_here (Q := fun v s' => ∃ b, v = .bool b ∧ Q (.bool (!b)) s') PySem.F.slot_list_contains ⟨_, h1, rfl⟩ PySem.F.entry_list_contains (PySem.F.args_list_contains_2 _ _) ?_) (fun v s' hv => ?_) fun _ _ e => e))
  · have go := in_loopG (prog := prog) (w := w) (A := A) (R := wants (fun v s' => ∃ b, v = .bool b ∧ Q (.bool (!b)) s') E) l x N B Iv hl (fun i s hi hb q => ⟨true, rfl, fT i s hi hb q⟩) (fun hno s q => ⟨false, rfl, fF hno s q⟩) (N - 0) 0 rfl (Nat.zero_le _) (fun j hj => absurd hj (Nat.not_lt_zero j)) s h
    obtain ⟨hp, g, d, tk, os⟩ := s
    wp_walk
    exact ⟨plainId_quiet PySem.MeetsSeq.plain_contains_loop _, codeAny_builtin PySem.MeetsSeq.entry_contains_loop (by
      rw [Around.under_plainId PySem.MeetsSeq.plain_contains_loop _]
      exact go)⟩
  · obtain ⟨b, rfl, hq⟩ := hv
    exact wpAny_truthy_bool (wpAny_pure hq)
/-! ### [..].count(x) by an own __eq__ -/
theorem count_loopG {R : Result → Shared → Prop} (l : Addr) (x : Value) (N : Nat) (B : Nat → Bool) (Iv : Nat → Shared → Prop)
    (hl : ∀ i s, Iv i s → ∃ (its : Array Value) (n : Nat), s.heap.get? l = some { cls := .type "list", data := .seq its n } ∧ its.size = N ∧ ∀ h : i < its.size, wpAny (model prog w) A.in1 (eqBool its[i] x) (fun r s' => r = B i ∧ Iv (i + 1) s') (fun e s' => R (.error e) s') s)
    (fin : ∀ s t k, Iv N s → R (.ok (.ret (.int (((List.range N).countP B : Nat) : Int) t))) { s with toks := k }) (k : Nat) :
    ∀ i : Nat, N - i = k → i ≤ N → ∀ s, Iv i s →
      wpAny (model prog w) A.in1 (Builtin.«list.count.loop» ⟨[.ref l, x, rawInt i, rawInt ((((List.range i).countP B : Nat)) : Int)], []⟩) (FinOf prog w A R) (fun e s' => R (.error e) s') s := by
  induction k with
  | zero =>
    intro i hk hi s h
    obtain ⟨its, n, h1, hs, _⟩ := hl _ _ h
    have ei : i = N := by omega
    subst ei
    have hR := fin s
    obtain ⟨hp, g, d, tk, os⟩ := s
    wp_walk using wpAny_loadPart' h1
    have e1 : its[((i : Nat) : Int).toNat]? = none := by simp; omega
    rw [e1]
    wp_walk
    exact hR _ _ h
  | succ k ih =>
    intro i hk hi s h
    obtain ⟨its, n, h1, hs, turn⟩ := hl _ _ h
    have hlt : i < its.size := by omega
    have ht := turn hlt
    obtain ⟨hp, g, d, tk, os⟩ := s
    wp_walk using wpAny_loadPart' h1
    have e1 : its[((i : Nat) : Int).toNat]? = some its[i] := by simp [hlt]
    have hc : ((i : Int) + 1) = ((i + 1 : Nat) : Int) := by omega
    rw [e1]
    refine wpAny_bind (wpAny_mono ht (fun r s2 h2 => ?_) fun _ _ z => z)
    obtain ⟨hr, h2⟩ := h2
    subst hr
    have hrec := ih (i + 1) (by omega) (by omega) s2 h2
    have ec : (if B i = true then (((List.range i).countP B : Nat) : Int) + 1 else (((List.range i).countP B : Nat) : Int)) = (((List.range (i + 1)).countP B : Nat) : Int) := by
      rw [List.range_succ, List.countP_append]
      rw [show List.countP B [i] = if B i = true then 1 else 0 by rw [List.countP_cons]; simp]
      split <;> omega
    obtain ⟨hp2, g2, d2, tk2, os2⟩ := s2
    wp_walk
    rw [hc, ec]
    exact ⟨plainId_quiet PySem.MeetsSeq.plain_count_loop _, codeAny_builtin PySem.MeetsSeq.entry_count_loop (by
      rw [Around.under_plainId PySem.MeetsSeq.plain_count_loop _]
      exact hrec)⟩
end
def rNotInG (D : V → V → Hp → Bool → Prop) : R2 := fun x y H Q => ∃ (p : Addr) (xs : List V) (B : Nat → Bool), y = .ref p ∧ H p = some (.lst xs) ∧ (∀ i z, xs[i]? = some z → ∀ H', Ext H H' → D z x H' (B i)) ∧ ∀ H', Ext H H' → Q (.bl (!(List.range xs.length).any B)) H'
/-- the i-th thing of the list at p beside x, in whatever state came -/
theorem turn_lst {X : Cx} {n : Nat} {D : V → V → Hp → Bool → Prop} (h : EqB X n D) {A : Around} (sb : L2.Sub X n A) {pins : List (Addr × Obj)} {σ : L2.St} {H : Hp} {p : Addr} {xs : List V} {x : V} {v : Value} {B : Nat → Bool} (hp : H p = some (.lst xs)) (rx : RelV x v)
    (hD : ∀ i z, xs[i]? = some z → ∀ H', Ext H H' → D z x H' (B i)) : ∀ (i : Nat) (s' : Shared), LoopI X pins σ H s' → ∃ (its : Array Value) (k : Nat), s'.heap.get? p = some { cls := .type "list", data := .seq its k } ∧ its.size = xs.length ∧ ∀ h1 : i < its.size, wpAny (model X.prog X.w) A (eqBool its[i] v) (fun r s2 => r = B i ∧ LoopI X pins σ H s2) X.xe s' := by
  rintro i s' ⟨H', I', e⟩
  obtain ⟨z, its, k, r, ek⟩ := I'.hok p _ (e _ _ hp)
  refine ⟨its.toArray, k, ek, by rw [List.size_toArray, ← r.length], fun h1 => ?_⟩
  obtain ⟨y, hy, ry⟩ := get_arr r h1
  refine wpAny_mono (h A pins s' σ H' _ x _ v (B i) sb I' ry rx (hD i _ hy H' e)) (fun c s2 z2 => ?_) fun _ _ y => y
  obtain ⟨hc, H2, I2, e2⟩ := z2
  exact ⟨hc, H2, I2, e.trans e2⟩
theorem op_notInG {X : Cx} {n : Nat} {D : V → V → Hp → Bool → Prop} (h : EqB X n D) (hr : Room (n + 1) X.A) : OpR X (compareOp .NotIn) (rNotInG D) := by
  intro pins s σ H x y v u Q I rx ry hq
  obtain ⟨p, xs, B, rfl, hp, hD, q⟩ := hq
  cases (show u = Value.ref p from ry)
  have sb : L2.Sub X (n + 1) X.A := ⟨hr, rfl⟩
  refine notin_listG (A := X.A) p v xs.length B (fun _ s' => LoopI X pins σ H s') (fun i s' hl => turn_lst h sb.in1 hp rx hD i s' hl) ?_ ?_ ⟨H, I, Ext.rfl'⟩
  · rintro i s' hi hb ⟨H', I', e⟩
    refine ⟨.bl false, H', I', rfl, ?_⟩
    have z := q H' e
    have ea : (List.range xs.length).any B = true := List.any_eq_true.mpr ⟨i, List.mem_range.mpr hi, hb⟩
    rw [ea] at z
    exact z
  · rintro hno s' ⟨H', I', e⟩
    refine ⟨.bl true, H', I', rfl, ?_⟩
    have z := q H' e
    have ea : (List.range xs.length).any B = false := by
      rw [List.any_eq_false]
      intro j hj
      rw [hno j (List.mem_range.mp hj)]
      decide
    rw [ea] at z
    exact z
theorem op_notInO {X : Cx} {CX : CXT} {k j : Nat} {C : Addr} {qual : Str} {st : Stmt} {ps : List Str} {sp : Sp} {E : XK} (c : Cm X.prog X.w X.K X.mg X.base CX k C "__eq__" qual st ps sp) (b : Bd "__eq__" qual st ps) (hx : Passes CX X E) (hr : Room j X.A) (hk : k + 1 ≤ j) :
    OpR X (compareOp .NotIn) (rNotInG (DOwn X.K C sp E)) := by
  obtain ⟨f, fd, F, M, hc, G⟩ := c.ex
  exact op_notInG (eqB_own G M.1 M.2 (F.bindsN b) hx) (hr.mono hk)
/-- [..].count(x) -/
def rCountG (D : V → V → Hp → Bool → Prop) : V → List V → Hp → VK → Prop := fun y vs H Q => ∃ (p : Addr) (xs : List V) (x : V) (B : Nat → Bool), y = .ref p ∧ vs = [x] ∧ H p = some (.lst xs) ∧ (∀ i z, xs[i]? = some z → ∀ H', Ext H H' → D z x H' (B i)) ∧ ∀ H', Ext H H' → Q (.int (((List.range xs.length).countP B : Nat) : Int)) H'
theorem mt_countG {X : Cx} {n : Nat} {D : V → V → Hp → Bool → Prop} (h : EqB X n D) (hr : Room (n + 1) X.A) : MtR X "list.count" (rCountG D) := by
  intro pins s σ H y vs v us Q I ry rs hq
  obtain ⟨p, xs, x, B, rfl, rfl, hp, hD, q⟩ := hq
  cases (show v = Value.ref p from ry)
  obtain ⟨u, rfl, rx⟩ := vals1 rs
  have sb : L2.Sub X (n + 1) X.A := ⟨hr, rfl⟩
  obtain ⟨z, its, k, r, ek⟩ := I.hok p _ hp
  refine call_here PySem.F.slot_list_count ⟨_, ek, rfl⟩ PySem.F.entry_list_count (PySem.F.args_list_count_2 _ _) ?_
  have go := count_loopG (prog := X.prog) (w := X.w) (A := X.A) (R := wants (EP X pins σ Q) X.xe) p u xs.length B (fun _ s' => LoopI X pins σ H s') (fun i s' hl => turn_lst h sb.in1 hp rx hD i s' hl) (fun s' t k ⟨H', I', e⟩ => ⟨.int _, H', I'.tok _, ⟨t, rfl⟩, q H' e⟩) xs.length 0 rfl (Nat.zero_le _) s ⟨H, I, Ext.rfl'⟩
  obtain ⟨hp2, g, d, tk, os⟩ := s
  wp_walk
  exact ⟨plainId_quiet PySem.MeetsSeq.plain_count_loop _, codeAny_builtin PySem.MeetsSeq.entry_count_loop (by
    rw [Around.under_plainId PySem.MeetsSeq.plain_count_loop _]
    exact go)⟩
theorem mt_countO {X : Cx} {CX : CXT} {k j : Nat} {C : Addr} {qual : Str} {st : Stmt} {ps : List Str} {sp : Sp} {E : XK} (c : Cm X.prog X.w X.K X.mg X.base CX k C "__eq__" qual st ps sp) (b : Bd "__eq__" qual st ps) (hx : Passes CX X E) (hr : Room j X.A) (hk : k + 1 ≤ j) :
    MtR X "list.count" (rCountG (DOwn X.K C sp E)) := by
  obtain ⟨f, fd, F, M, hc, G⟩ := c.ex
  exact mt_countG (eqB_own G M.1 M.2 (F.bindsN b) hx) (hr.mono hk)
/-! ### {x} and {x!r} of instances with their own __str__ and __repr__ -/
def tFmtO (C : Addr) (sp : Sp) (E : XK) (te : TE) : TE := fun σ H Q => te σ H fun x H1 => ∃ (a dx : Addr) (fs : List (Str × V)), x = .ref a ∧ H1 a = some (.ins C dx fs) ∧ sp [.ref a] H1 (fun v H' => ∃ y : Str, v = .str y ∧ Q (.str y) H') E
section
variable {X : Cx} {CX : CXT} {k j : Nat} {C : Addr} {qual : Str} {st : Stmt} {ps : List Str} {sp : Sp} {E : XK} {e : Expr} {te : TE} {pos : Pos}
theorem run_own {A : Around} {n : Nat} {f : Addr} {fd : FuncData} {pins : List (Addr × Obj)} {σ : L2.St} {H : Hp} {s : Shared} {a : Addr} {Q : Str → Hp → Prop} {R : Value → Shared → Prop} (F : FnOk X.prog X.w X.K X.mg X.base CX n f fd ps sp) (hb : Binds X.K fd ps []) (hx : Passes CX X E) (sb : L2.Sub X n A) (I : Inv X pins σ H s)
    (hq : sp [.ref a] H (fun v H' => ∃ y : Str, v = .str y ∧ Q y H') E) (hR : ∀ y t s' H', Inv X pins σ H' s' → Q y H' → R (.str y t) s') : wpAny (model X.prog X.w) A (call (.ref f) [.ref a]) (PySem.W.StrBack R) X.xe s := by
  have hl : ([Value.ref a] ++ []).length = ps.length := (show ([V.ref a] : List V).length = _ from F.len _ _ _ _ hq)
  refine wpAny_call (codeAny_mono (F.run A X.stack s H ⟨[.ref a], []⟩ [.ref a] [.ref a] _ E sb.room (env_sub sb I) (hb s [.ref a] I.kIn hl) (.cons rfl .nil) hq) fun res s' hres => ?_)
  match res, hres with
  | .error er, hres => exact hx pins σ H s er s' I hres
  | .ok .next, hres => exact hres.elim
  | .ok .brk, hres => exact hres.elim
  | .ok .cont, hres => exact hres.elim
  | .ok (.ret u), hres =>
    obtain ⟨z, H', I', rz, y, rfl, q⟩ := I.after hres
    obtain ⟨t, rfl⟩ := rz
    exact hR y t s' H' I' q
theorem pe_fmtO (he : PE X e te) (c : Cm X.prog X.w X.K X.mg X.base CX k C "__str__" qual st ps sp) (b : Bd "__str__" qual st ps) (hfm : PySem.W.findIn X.K (.ref C) "__format__" = some (some (.builtin "object.__format__"))) (hm : PySem.W.mroIn X.K C (.type "object") = some true) (hr : Room j X.A) (hk : k + 1 ≤ j) (hx : Passes CX X E) :
    PE X (.FormattedValue e (-1) none pos) (tFmtO C sp E te) := by
  obtain ⟨f, fd, F, M, hc, G⟩ := c.ex
  have sb : L2.Sub X (k + 1) X.A := ⟨hr.mono hk, rfl⟩
  refine ⟨fun pins s σ H Q I h => ?_⟩
  refine wpAny_FormattedValue_plain (thn (he.run pins s σ H _ I h) fun v s1 hv => ?_)
  obtain ⟨x, H1, I1, r1, a, dx, fs, rfl, ea, q⟩ := hv
  cases (show v = Value.ref a from r1)
  obtain ⟨mA, J, _⟩ := ins_get I1.hok ea
  obtain ⟨od, J, _⟩ := J.look
  exact PySem.W.kfo_fieldS sb.in1.room.units0 I1.kIn J hfm hm M.1 M.2 (run_own G (F.bindsN b) hx sb.in1 (I1.tok _) q fun y t s' H' I' hq => ⟨.str y, H', I', ⟨t, rfl⟩, hq⟩)
theorem pe_fmtRO (he : PE X e te) (c : Cm X.prog X.w X.K X.mg X.base CX k C "__repr__" qual st ps sp) (b : Bd "__repr__" qual st ps) (hr : Room j X.A) (hk : k + 1 ≤ j) (hx : Passes CX X E) (hz : ∀ (a : Addr) H Q, sp [.ref a] H Q E → sp [.ref a] H (fun v H' => (∀ y, v = .str y → y.length ≤ sizeLine) ∧ Q v H') E) :
    PE X (.FormattedValue e 114 none pos) (tFmtO C sp E te) := by
  obtain ⟨f, fd, F, M, hc, G⟩ := c.ex
  have sb : L2.Sub X (k + 1) X.A := ⟨hr.mono hk, rfl⟩
  refine ⟨fun pins s σ H Q I h => ?_⟩
  refine wpAny_FormattedValue_repr (thn (he.run pins s σ H _ I h) fun v s1 hv => ?_)
  obtain ⟨x, H1, I1, r1, a, dx, fs, rfl, ea, q⟩ := hv
  cases (show v = Value.ref a from r1)
  obtain ⟨mA, J, _⟩ := ins_get I1.hok ea
  obtain ⟨od, J, _⟩ := J.look
  have q2 := hz _ _ _ q
  have sb0 : L2.Sub X k X.A := ⟨(hr.mono hk).mono (Nat.le_succ k), rfl⟩
  have go := run_own (Q := fun y H' => y.length ≤ sizeLine ∧ Q (.str y) H') (R := fun v s' => ∃ y t, v = .str y t ∧ y.length ≤ sizeLine ∧ ∃ H', Inv X pins σ H' s' ∧ Q (.str y) H') G (F.bindsN b) hx sb0 I1 (by
    have e : (fun v H' => (∀ y, v = V.str y → y.length ≤ sizeLine) ∧ ∃ y : Str, v = .str y ∧ Q (.str y) H') = fun v H' => ∃ y : Str, v = .str y ∧ (y.length ≤ sizeLine ∧ Q (.str y) H') := by
      funext v H'
      refine propext ⟨fun ⟨hl, y, e, hq⟩ => ⟨y, e, hl y e, hq⟩, fun ⟨y, e, hl, hq⟩ => ⟨fun z hz => ?_, y, e, hq⟩⟩
      rw [e] at hz
      cases hz
      exact hl
    rw [e] at q2
    exact q2) (fun y t s' H' I' hq => ⟨y, t, rfl, hq.1, H', I', hq.2⟩)
  unfold pyReprObj
  refine wpAny_bind (m := cRoomFor _ _) (wpAny_cRoomFor sb0.room.units0 ?_)
  refine wpAny_bind (wpAny_bind (J.type.here ((PySem.W.looks_findIn I1.kIn M.1).here ?_)))
  show wpAny _ _ (if (some (Value.ref f)).isNone = true then _ else _) _ _ _
  rw [if_neg (by simp)]
  refine wpAny_bind (m := callSpecialIfBound? (.ref a) (Str.ofString "__repr__") _) (PySem.W.ifBound_K I1.kIn J M.1 M.2 (wpAny_mono go (fun r s' hr => ?_) fun _ _ y => y))
  cases r <;> first | exact hr.elim | skip
  obtain ⟨y, t, e1, hl, H', I', hq⟩ := hr
  cases e1
  refine wpAny_bind (wpAny_isInstance (T := "str") (b := true) (typeIs_str _ _ _) isSubtype_str_str (wpAny_pure ?_))
  exact wpAny_formatField_str ⟨.str _, H', I', ⟨_, rfl⟩, hq⟩ ⟨.str _, H', I'.tok _, ⟨_, rfl⟩, hq⟩ hl
end
end MM
namespace MM
open PySem PySem.Spec PyProof.Rows L2
section
variable {J : It} {n : Nat} {G : Hp → Prop} {Y : Nat → Hp → V → Hp → Prop}
/-- a comprehension with a test, whose i-th thing is f i, and there where B i -/
theorem lc_fltV (w : Walk J n G Y) (hY : ∀ i H x H', Y i H x H' → Same H H') {g : TG} {tt : TT} {te : TE} {vs : List Nat} {σ : L2.St} {H : Hp} {D : Addr} {Qd : Hp → Prop} (nD : H D = none) (hn : n < sizeLine) (f : Nat → V) (B : Nat → Bool) (hG : ∀ H', Same H H' → G H')
    (hs : ∀ i x H1 H2 (R : V → Hp → Prop) (N : Hp → Prop), i < n → Same H H1 → Y i H1 x H2 → (B i = true → ∀ H3, Same H2 H3 → R (f i) H3) → (B i = false → ∀ H3, Same H2 H3 → N H3) → g x (wipe σ vs) H2 fun σ2 H3 => wipe σ2 vs = wipe σ vs ∧ tt σ2 H3 fun b H4 => if b = true then te σ2 H4 R else N H4)
    (hd : ∀ H', H' D = some (.lst (((List.range n).filter B).map f)) → Same H H' → Qd H') :
    ∃ W : Nat → Nat → Hp → Prop, (∃ m, W 0 m (L2.upd H D (.lst []))) ∧ ∀ i m H, W i m H →
      (J.stop i H ∧ Qd H) ∨ (J.go i H ∧ ∃ Nx : Hp → Prop, (∀ H', Nx H' → ∃ m', m' < m ∧ W (i + 1) m' H') ∧ ∀ x H', J.yld i H x H' → g x (wipe σ vs) H' fun σ2 H2 => wipe σ2 vs = wipe σ vs ∧ tt σ2 H2 fun b H3 =>
        if b = true then te σ2 H3 fun y H4 => ∃ acc, H4 D = some (.lst acc) ∧ acc.length < sizeLine ∧ Nx (L2.upd H4 D (.lst (acc ++ [y]))) else Nx H3) := by
  refine lc_it w (fun i H' => H' D = some (.lst (((List.range i).filter B).map f)) ∧ Same H H') ⟨upd_same, upd_keep nD (Same.refl H)⟩ (fun i H' _ ⟨_, s⟩ => hG H' s) ?_ (fun H' ⟨e, s⟩ => hd H' e s)
  rintro i x H1 H2 hi ⟨e, s⟩ y
  have s2 := hY _ _ _ _ y
  have el : (((List.range i).filter B).map f).length < sizeLine := by
    rw [List.length_map]
    have := List.length_filter_le B (List.range i)
    rw [List.length_range] at this
    omega
  refine hs i x H1 H2 _ _ hi s y (fun hB H3 s3 => ?_) (fun hB H3 s3 => ?_)
  · refine ⟨_, s3 _ _ (s2 _ _ e), el, ?_, upd_keep nD (s.trans (s2.trans s3))⟩
    rw [upd_same, List.range_succ, List.filter_append, List.map_append]
    simp [hB]
  · refine ⟨?_, s.trans (s2.trans s3)⟩
    rw [s3 _ _ (s2 _ _ e), List.range_succ, List.filter_append]
    simp [hB]
end
/-! ### sorted of pairs of a whole number and a truth -/
section
open SrtO Srt
variable {prog : Program} {w : World} {A : Around} {E : Value → Shared → Prop} {s : Shared}
/-- at v a pair of a whole number and a truth -/
def PrB (h : Heap) (v : Value) (x : Int) (b : Bool) : Prop := ∃ a o t n, v = .ref a ∧ h.get? a = some o ∧ o.cls = .type "tuple" ∧ o.data = .seq #[.int x t, .bool b] n
theorem PrB.keeps {h h' : Heap} {v : Value} {x : Int} {b : Bool} (p : PrB h v x b) (k : ∀ c o, h.get? c = some o → o.cls = .type "tuple" → h'.get? c = some o) : PrB h' v x b := by
  obtain ⟨a, o, t, n, rfl, e, c, d⟩ := p
  exact ⟨a, o, t, n, rfl, k a o e c, c, d⟩
theorem prb_firsts {h : Heap} : ∀ {vs : List Value}, (∀ v ∈ vs, ∃ x b, PrB h v x b) → ∃ fs : List Value, PySem.W.KatTups h vs fs ∧ fs.length = vs.length ∧ ∀ f ∈ fs, ∃ x t, f = Value.int x t
  | [], _ => ⟨[], .nil, rfl, fun _ z => absurd z List.not_mem_nil⟩
  | v :: vs, hp => by
    obtain ⟨fs, k, l, i⟩ := prb_firsts (vs := vs) fun u hu => hp u (List.mem_cons_of_mem _ hu)
    obtain ⟨x, b, a, o, t, n, rfl, ho, hc, hd⟩ := hp v List.mem_cons_self
    refine ⟨.int x t :: fs, .cons ho hc hd rfl k, congrArg Nat.succ l, fun f hf => ?_⟩
    rcases List.mem_cons.mp hf with rfl | hf
    · exact ⟨x, t, rfl⟩
    · exact i f hf
/-- the pair's key -/
def kB (p : Int × Bool) : Int × Int := (p.1, b2i p.2)
theorem prb_cmp {vs : List Value} {k : Value → Int × Bool} (hp : ∀ v ∈ vs, PrB s.heap v (k v).1 (k v).2) : Cmp prog w A s (tuples' true) (fun p => p.1 ∈ vs) (lt2 fun v u => lexB (kB (k v)) (kB (k u))) := by
  intro p q m1 m2
  obtain ⟨a, o, t, n, e, ho, hc, hd⟩ := hp _ m1
  obtain ⟨a', o', t', n', e', ho', hc', hd'⟩ := hp _ m2
  show wpAny (model prog w) A (keyLt' (tuples' true) p.1 q.1) (fun r s' => s' = s ∧ r = lexB (kB (k p.1)) (kB (k q.1))) (fun _ _ => False) s
  generalize (k p.1) = z at *
  generalize (k q.1) = z' at *
  obtain ⟨x, b⟩ := z
  obtain ⟨x', b'⟩ := z'
  rw [e, e']
  refine PySem.W.kat_lt ho hd ho' hd' (PySem.W.kat_cons (SeqAt.EqAt.int_int x t x' t' prog w _ _ (PySem.W.kat_go (fun e1 => ?_) (fun e1 => ?_))))
  · have ex : x = x' := by simpa using e1
    refine PySem.W.kat_yes (PySem.W.kat_cons (SeqAt.EqAt.bool_bool b b' prog w _ _ (PySem.W.kat_go (fun e2 => ?_) (fun e2 => ?_))))
    · have ey : b = b' := by simpa using e2
      refine PySem.W.kat_yes (PySem.W.kat_nil ⟨rfl, ?_⟩)
      show decide (2 < 2) = lexB (x, b2i b) (x', b2i b')
      rw [ex, ey]
      unfold lexB
      rw [if_pos rfl, decide_eq_false (Int.lt_irrefl _)]
      rfl
    · refine PySem.W.kat_no (PySem.W.kat_one _ _ (PyProof.Rows.lt_bool ?_))
      refine (show s = s ∧ decide (b2i b < b2i b') = lexB (x, b2i b) (x', b2i b') from ⟨rfl, ?_⟩)
      unfold lexB
      rw [if_pos ex]
  · have ex : ¬ x = x' := by simpa using e1
    refine PySem.W.kat_no (oneLt_int ⟨rfl, ?_⟩)
    show _ = lexB (x, b2i b) (x', b2i b')
    unfold lexB
    rw [if_neg ex]
theorem prb_sorted {l : Addr} {vs : List Value} {k : Value → Int × Bool} {Q : Value → Shared → Prop} (hl : s.heap.IsList l vs.toArray) (hz : vs.length ≤ sizeLine) (hp : ∀ v ∈ vs, PrB s.heap v (k v).1 (k v).2)
    (hs : Srtd (fun v u => lexB (kB (k v)) (kB (k u))) vs)
    (h : ∀ (h' : Heap) (d : Addr), (∀ b o, s.heap.get? b = some o → h'.get? b = some o) → s.heap.objs.size ≤ d → (∃ n, h'.get? d = some (seqObj "list" vs.toArray n)) → Q (.ref d) { s with heap := h' }) :
    wpAny (model prog w) A (call (.builtin "sorted") [.ref l]) Q E s := by
  have O : Swo fun v u => lexB (kB (k v)) (kB (k u)) := swo_lex fun v => kB (k v)
  refine sorted_ord O hl hz (fun h2 h₁ a ha kk => ?_) fun out so sb => ?_
  · intro h' keep
    have nt : ∀ o, h₁.get? a = some o → o.cls ≠ .type "tuple" := fun o e c => by
      rw [ha] at e
      cases e
      exact absurd (Value.type.inj c) (by decide)
    have hp' : ∀ v ∈ vs, PrB h' v (k v).1 (k v).2 := fun v hm => (hp v hm).keeps fun b o e c => keep b o (fun z => nt o (by rw [← z]; exact (kk b o e).2) c) (kk b o e).2
    obtain ⟨fs, f1, f2, f3⟩ := prb_firsts fun v hm => ⟨_, _, hp' v hm⟩
    refine ⟨tuples' true, fun Q E hq => ?_, prb_cmp hp'⟩
    refine PySem.W.kat_kind (T := .type "int") f1 (by omega) (fun f hm => ?_) (by rfl) ?_
    · obtain ⟨x, t, rfl⟩ := f3 f hm
      exact PySem.W.Looks.now
    · have e : (Value.type "int" != Value.type "tuple") = true := by first | rfl | decide +kernel
      rw [e]
      exact hq
  · obtain rfl : out = vs := stb_uniq O so hs sb
    exact h _ _ (fun b o e => sortedAll_old e) (Nat.le_succ _) (sortedAll_at s.heap out out.toArray)
end
/-- sorted(xs) of pairs that stand sorted already -/
def rSortedIB (K : PySem.W.Frag) : List V → Hp → VK → Prop := fun vs H Q => ∃ (a : Addr) (xs : List V) (k : V → Int × Bool), vs = [V.ref a] ∧ SqL K H a xs ∧ (∀ x ∈ xs, ∃ t, x = V.ref t ∧ H t = some (.tup [.int (k x).1, .bl (k x).2])) ∧
  xs.Pairwise (fun x y => SrtO.lexB (kB (k y)) (kB (k x)) = false) ∧ ∀ p, H p = none → Q (.ref p) (upd H p (.lst xs))
theorem cr_sortedIB {X : Cx} : CallR X (.builtin "sorted") (rSortedIB X.K) := by
  intro pins s σ H vs us Q I r h
  obtain ⟨a, xs, k, rfl, hs, hx, hp, q⟩ := h
  obtain ⟨its, rv, hl, hz⟩ := I.list hs
  obtain ⟨u, rfl, ru⟩ := vals1 r
  obtain rfl : u = Value.ref a := ru
  obtain ⟨e1, e2⟩ := refs_back rv fun x m => by
    obtain ⟨t, e, _⟩ := hx x m
    exact ⟨t, e⟩
  refine prb_sorted (k := fun u => k (backV u)) hl.isList (by rw [← rv.length]; exact hz) (fun v hv => ?_) ?_ fun h' d kp hd hn => ?_
  · obtain ⟨t, rfl⟩ := e2 v hv
    have hm : V.ref t ∈ xs := by rw [e1]; exact List.mem_map.mpr ⟨_, hv, rfl⟩
    obtain ⟨t', e, ht⟩ := hx _ hm
    cases e
    obtain ⟨_, its2, r2, o, ho, hc, n, hd⟩ := I.hok _ _ ht
    obtain ⟨u1, u2, rfl, ri, rj⟩ := vals2 r2
    obtain ⟨t1, rfl⟩ := ri
    cases (show u2 = Value.bool _ from rj)
    exact ⟨t, o, t1, n, rfl, ho, hc, hd⟩
  · rw [e1, List.pairwise_map] at hp
    exact hp
  · obtain ⟨n, hn⟩ := hn
    exact ⟨.ref d, upd H d (.lst xs), I.laid (t' := s.toks) kp hd ⟨hz, its, n, rv, hn⟩, rfl, q d (I.hok.fresh hd)⟩
end MM
namespace MM
open PySem PySem.Spec PySem.Calls PyProof.Rows L2
/-! ### len(x) of an instance with its own __len__ -/
section
variable {prog : Program} {w : World} {A : Around} {E : Value → Shared → Prop} {s : Shared} {K : PySem.W.Frag} {x C f : Addr} {ox : Obj} {od : Option Obj}
open PySem.Builtin in
theorem len_fn {Q : Value → Shared → Prop} (X : K.In s.heap) (I : PySem.W.InstAt s.heap x ox C od) (hs : PySem.W.findIn K (.ref C) "__len__" = some (some (.ref f))) (hf : PySem.W.isFn K (.ref f) = true)
    (hcall : wpAny (model prog w) A.in1 (call (.ref f) [.ref x]) (fun r s' => ∃ n u, r = .int n u ∧ 0 ≤ n ∧ n < 2 ^ 63 ∧ Q (.int n s'.toks) { s' with toks := s'.toks + 1 }) E s) :
    wpAny (model prog w) A (call (.builtin "len") [.ref x]) Q E s := by
  refine PySem.Calls.call_function_entry kind_len plain_len entry_len (args_len1 _) ?_
  unfold Builtin.«len»
  refine wpAny_bind (m := oneArg "len" _) (wpAny_pure ?_)
  refine wpAny_bind (m := callSpecial? (.ref x) (Str.ofString "__len__")) (PySem.W.special_fn X I hs (beq_iff_eq.mp hf) (wpAny_mono hcall (fun r s' hr => ?_) fun _ _ y => y))
  obtain ⟨n, u, rfl, h0, h1, hq⟩ := hr
  refine wpAny_bind (wpAny_holding (wpAny_pure ?_))
  refine wpAny_bind (wpAny_letGo ?_)
  show wpAny _ _ (if n < 0 then _ else _) _ _ _
  rw [if_neg (by omega)]
  show wpAny _ _ (if n ≥ 2 ^ 63 then _ else _) _ _ _
  rw [if_neg (by omega)]
  exact wpAny_bind (wpAny_mkInt (wpAny_pure ⟨_, rfl, hq⟩))
end
def rLenO (C : Addr) (sp : Sp) (E : XK) : List V → Hp → VK → Prop := fun xs H Q => ∃ (a dx : Addr) (fs : List (Str × V)), xs = [.ref a] ∧ H a = some (.ins C dx fs) ∧ sp [.ref a] H (fun v H' => ∃ n : Nat, v = .int n ∧ n < 2 ^ 60 ∧ Q (.int n) H') E
theorem call_lenO {X : Cx} {CX : CXT} {k : Nat} {C f : Addr} {fd : FuncData} {ps : List Str} {sp : Sp} {E : XK} (F : FnOk X.prog X.w X.K X.mg X.base CX k f fd ps sp) (hs : PySem.W.findIn X.K (.ref C) "__len__" = some (some (.ref f))) (hf : PySem.W.isFn X.K (.ref f) = true) (hb : Binds X.K fd ps []) (hx : Passes CX X E) (hr : Room (k + 1) X.A) : CallR X (.builtin "len") (rLenO C sp E) := by
  intro pins s σ H xs us Q I r h
  obtain ⟨a, dx, fs, rfl, ha, hq⟩ := h
  obtain ⟨u, rfl, r1⟩ := vals1 r
  cases (show u = Value.ref a from r1)
  obtain ⟨mA, J, _⟩ := ins_get I.hok ha
  obtain ⟨od, J, _⟩ := J.look
  have hr1 : Room k X.A.in1 := hr.in1
  have hl : ([Value.ref a] ++ []).length = ps.length := (show ([V.ref a] : List V).length = _ from F.len _ _ _ _ hq)
  refine len_fn I.kIn J hs hf (wpAny_call (codeAny_mono (F.run X.A.in1 X.stack s H ⟨[.ref a], []⟩ [.ref a] [.ref a] _ E hr1 I.env0.in1 (hb s [.ref a] I.kIn hl) (.cons rfl .nil) hq) fun res s' hres => ?_))
  match res, hres with
  | .error er, hres => exact hx pins σ H s er s' I hres
  | .ok .next, hres => exact hres.elim
  | .ok .brk, hres => exact hres.elim
  | .ok .cont, hres => exact hres.elim
  | .ok (.ret u), hres =>
    obtain ⟨z, H', I', rz, n, rfl, hn, q⟩ := I.after hres
    obtain ⟨t, rfl⟩ := rz
    refine ⟨(n : Int), t, rfl, by omega, by omega, .int n, H', I'.tok _, ⟨_, rfl⟩, q⟩
theorem call_lenC {X : Cx} {CX : CXT} {k : Nat} {C : Addr} {qual : Str} {st : Stmt} {ps : List Str} {sp : Sp} {E : XK} (c : Cm X.prog X.w X.K X.mg X.base CX k C "__len__" qual st ps sp) (b : Bd "__len__" qual st ps) (hr : Room (k + 1) X.A) (hx : Passes CX X E) :
    CallR X (.builtin "len") (rLenO C sp E) := by
  obtain ⟨f, fd, F, M, hc, G⟩ := c.ex
  exact call_lenO G M.1 M.2 (F.bindsN b) hx hr
/-! ### classes whose __init__ has no defaults -/
theorem di_mk0 {K : PySem.W.Frag} {mg : Str → Option Value} {x qual : Str} {st : Stmt} {f C : Addr} {oc kV doc pm cdv ct : Value} {od an : Option Addr} {osl : Array (Option Value)} (hC : mg x = some (.ref C)) (a : PySem.W.findIn K (.ref C) "__init__" = some (some (.ref f))) (i : PySem.W.isFn K (.ref f) = true)
    (l : K.lookup f = some ⟨oc, od, .func (PySem.W.fnOf "__init__" qual (defArgs st) (defBody st) (defScope st) .none kV doc pm an cdv ct), osl⟩) (c : PySem.W.codeIn K cdv qual = true) (k : PySem.W.keepIn K (.ref f) = true)
    (mk : PySem.W.makesIn K C = true) (kc : PySem.W.keepIn K (.ref C) = true) : Di K mg x C qual st [] :=
  ⟨f, _, ⟨⟨oc, od, .none, kV, doc, pm, an, cdv, ct, osl, rfl, l, c, .inl ⟨rfl, rfl⟩, .inl rfl⟩, k⟩, ⟨mk, a, i, kc⟩, hC⟩
section
variable {X : Cx} {CX : CXT} {k j n d : Nat} {C : Addr} {x m qual : Str} {st : Stmt} {sp : Sp} {ps ks : List Str} {E : XK} {p pos apos : Pos} {e o : Expr} {es : List Expr} {kws : List Keyword} {ta : TE} {t tk : TA}
/-- C(e, ..), all by place -/
theorem pe_ciN (c : Ci X.prog X.w X.K X.mg X.base CX k x C qual st [] ps sp) (b : Bd "__init__" qual st ps) (hr : Room j X.A) (hk : k + 1 ≤ j) (hx : Passes CX X E) (hg : Gl X x) (ha : PA X (e :: es) t)
    (hdb : (x == ("__debug__" : Str)) = false := by decide) (he : starEach (e :: es) X.env = (false, eval e X.env) :: starEach es X.env := by rfl) (hpl : (backTo pos (starEach es X.env)).any (·.1) = false := by rfl) :
    PE X (.Call (.Name x p) (e :: es) [] pos) (tMake C sp [] E t) := by
  obtain ⟨f, fd, F, M, hm, G⟩ := c.ex
  exact pe_make M G (hr.mono hk) hg hm (F.bindsN b) .nil hx ha hdb he hpl
/-- o.m() -/
theorem pe_cm0 {pl : Sem Bool} (c : Cm X.prog X.w X.K X.mg X.base CX k C m qual st ps sp) (b : Bd m qual st ps) (hr : Room j X.A) (hk : k ≤ j) (hx : Passes CX X E) (he : PE X o ta)
    (ht : eval (.Call (.Attribute o m apos) [] [] pos) X.env = (do
      let ov ← eval o X.env
      standAt apos.atName
      let (f, first) ← holding [ov] (getMethod ov m pl)
      callWith pos f first (backTo pos (starEach [] X.env)) (backToKw pos (keywordEach [] X.env))) := by rfl) :
    PE X (.Call (.Attribute o m apos) [] [] pos) (tMeth C m sp [] E ta tNil) := by
  obtain ⟨f, fd, F, M, hc, G⟩ := c.ex
  exact pe_meth0 (pl := pl) he hc M G (hr.mono hk) (F.bindsN b) .nil hx ht
/-- C(k = v, ..), all by keywords -/
theorem pe_ciNK {g : {α : Type} → List α → List α → List α} (c : Ci X.prog X.w X.K X.mg X.base CX k x C qual st [] ps sp) (b : Kbm "__init__" qual st 1 ks ps g) (hrel : ∀ {vs : List V} {us : List Value} {zs : List V} {ws : List Value}, Vals vs us → Vals zs ws → Vals (g vs zs) (g us ws)) (hr : Room j X.A) (hk : k + 1 ≤ j) (hx : Passes CX X E) (hg : Gl X x) (hkw : PK X kws tk)
    (hall : (backToKw pos (keywordEach kws X.env)).all (·.1.isSome) = true := by rfl) (hks : (backToKw pos (keywordEach kws X.env)).filterMap (·.1) = ks := by rfl) (hdb : (x == ("__debug__" : Str)) = false := by decide)
    (hpl : ((backTo pos (starEach [] X.env)).any (·.1) || (backToKw pos (keywordEach kws X.env)).any (·.1.isNone)) = false := by rfl) :
    PE X (.Call (.Name x p) [] kws pos) (tMakeK C 0 ks.length sp g E tNil tk) := by
  obtain ⟨f, fd, F, M, hm, G⟩ := c.ex
  obtain ⟨kV, doc, pm, an, cdv, ct, rfl⟩ := FunD.none F
  exact pe_makeK0 (g := g) (gV := g) M G (hr.mono hk) hg hm ⟨fun s us ws _ l1 l2 => .of_eq (b.bind kV doc pm an cdv ct us ws l1 l2), hrel⟩ hx hkw hall hks hdb hpl
end
end MM
namespace MM
open PySem PySem.Spec PyProof.Rows L2 LamX NdefX
/-! ### a lambda that is kept, its maker gone -/
/-- the object at f is the lambda of F's words (F.body is not looked at), its expression e -/
def LmO (f : Addr) (F : NF) (e : Expr) : HO := .ext fun h => ∃ pm ctv : Value, h.get? f = some (PySem.W.kla_obj "<lambda>" F.qual F.params e F.scope F.cl pm F.c ctv)
/-- the cell at c holds v -/
def CelO (c : Addr) (v : V) : HO := .ext fun h => ∃ u, RelV v u ∧ h.IsCell c (some u)
theorem lmO_at {P : Program} {w : World} {H : Hp} {h : Heap} {f : Addr} {F : NF} {e : Expr} (hok : HOk P w H h) (q : H f = some (LmO f F e)) : ∃ pm ctv : Value, h.get? f = some (PySem.W.kla_obj "<lambda>" F.qual F.params e F.scope F.cl pm F.c ctv) := by
  obtain ⟨z, _, _⟩ := hok f _ q
  exact z
theorem celO_at {P : Program} {w : World} {H : Hp} {h : Heap} {c : Addr} {v : V} (hok : HOk P w H h) (q : H c = some (CelO c v)) : ∃ u, RelV v u ∧ h.IsCell c (some u) := by
  obtain ⟨z, _, _⟩ := hok c _ q
  exact z
theorem celO_ok {P : Program} {w : World} {H : Hp} {h : Heap} {c : Addr} {v : V} {u : Value} (r : RelV v u) (i : h.IsCell c (some u)) : ObjOk P w H h c (CelO c v) := by
  obtain ⟨o, ho, hd⟩ := i
  exact ⟨⟨u, r, o, ho, hd⟩, ⟨o, ho⟩, fun h1 h2 ⟨u', r', o', ho', hd'⟩ k => ⟨u', r', o', k _ ho', hd'⟩⟩
theorem lmO_ok {P : Program} {w : World} {H : Hp} {h : Heap} {f : Addr} {F : NF} {e : Expr} {pm ctv : Value} (q : h.get? f = some (PySem.W.kla_obj "<lambda>" F.qual F.params e F.scope F.cl pm F.c ctv)) : ObjOk P w H h f (LmO f F e) :=
  ⟨⟨pm, ctv, q⟩, ⟨_, q⟩, fun h1 h2 ⟨p, t, z⟩ k => ⟨p, t, k _ z⟩⟩
/-- the promise of such a lambda: sp v0, v0 what its one captured cell holds; k the room -/
structure LOk (P : Program) (w : World) (K : PySem.W.Frag) (mg : Str → Option Value) (base : Heap) (CX : CXT) (k : Nat) (F : NF) (e : Expr) (cc : Addr) (ps : List Str) (sp : V → Sp) : Prop where
  run : ∀ (f : Addr) (v0 : V) (A : Around) (outer : List Env) (s : Shared) (H : Hp) (us : List Value) (vs : List V) (Q : VK) (E : XK), Room k A → Env0 P w K mg base A outer s H → H f = some (LmO f F e) → H F.c = some (CodeO F.c F.qual) →
    H cc = some (CelO cc v0) → Vals vs us → vs.length = ps.length → sp v0 vs (del H cc) (fun v H2 => Q v (L2.upd H2 cc (CelO cc v0))) E → codeAny (model P w) A (.call (.ref f) ⟨us, []⟩) (CR CX outer P w H s Q E) s
section
variable {P : Program} {w : World} {K : PySem.W.Frag} {mg : Str → Option Value} {base : Heap} {F : NF} {e : Expr} {cc : Addr} {N ps : List Str} {y : Str} {k : Nat}
theorem del_none {H : Hp} {a b : Addr} (h : H b = none) : del H a b = none := by
  unfold del
  split
  · rfl
  · exact h
theorem del_some {H : Hp} {a b : Addr} {o : HO} (h : del H a b = some o) : b ≠ a ∧ H b = some o := by
  unfold del at h
  split at h
  · cases h
  · rename_i n
    exact ⟨n, h⟩
theorem hok_del {H : Hp} {h : Heap} {c : Addr} {v : V} (q : H c = some (CelO c v)) (hok : HOk P w H h) : HOk P w (del H c) h := fun b u e => by
  obtain ⟨n, e⟩ := del_some e
  refine (hok b u e).stay (fun _ _ _ q => q) (fun d z => ?_) fun d xs z => ?_
  · rw [del_ne (ne_of z q (by intro z; cases z))]
    exact z
  · rw [del_ne (ne_of z q (by intro z; cases z))]
    exact z
theorem hok_put {H : Hp} {h : Heap} {c : Addr} {v : V} {u : Value} (n : H c = none) (r : RelV v u) (i : h.IsCell c (some u)) (hok : HOk P w H h) : HOk P w (L2.upd H c (CelO c v)) h := fun b o e => by
  by_cases hb : b = c
  · subst hb
    rw [upd_same] at e
    cases e
    exact celO_ok r i
  · rw [upd_ne hb] at e
    refine (hok b o e).stay (fun _ _ _ q => q) (fun d z => ?_) fun d xs z => ?_
    · rw [upd_ne (ne_of_none z n)]
      exact z
    · rw [upd_ne (ne_of_none z n)]
      exact z
/-- THE RULE: a kept lambda by its expression -/
theorem lok_of {sp : V → Sp} (S : NScope N ps [y] F.scope) (hcl : F.cl = [(y, cc)]) (hb : ∀ (pm ctv : Value) (us : List Value), us.length = ps.length → bindArgs (PySem.W.kla_fn "<lambda>" F.qual F.params e F.scope F.cl pm (.ref F.c) ctv) ⟨us, []⟩ = pure (ps.zip us))
    (hbody : ∀ (f : Addr) (v0 : V) (A : Around) (outer : List Env) (s : Shared) (H : Hp) (E : XK) (vs : List V) (Q : VK), Room k (A.deeper (envF F f s.heap.objs.size)) → vs.length = ps.length → sp v0 vs H Q E →
      ∃ te : TE, PE (ncx CX0 P w K mg base N F f A outer s H E) e te ∧ te (startF N vs [some v0]) H Q) : LOk P w K mg base CX0 (k + 1) F e cc ps sp := by
  refine ⟨fun f v0 A outer s H us vs Q E hr e0 hf hc hcc r hl hsp => ?_⟩
  obtain ⟨pm, ctv, ho⟩ := lmO_at e0.hok hf
  obtain ⟨u0, r0, ic⟩ := celO_at e0.hok hcc
  have lim : s.heap.NoLimit := e0.mod.nolimit.keeps fun b o e => (e0.bs b o e).1
  have e1 : Env0 P w K mg base A outer s (del H cc) := ⟨e0.frames, e0.mod, fun b o q => ⟨(e0.bs b o q).1, del_none (e0.bs b o q).2⟩, e0.bsz, e0.funs, fun b hb => del_none (e0.frf b hb), hok_del hcc e0.hok, e0.bare⟩
  have nfr : cc ∉ frs outer := fun hm => by
    have z := e0.frf cc hm
    rw [hcc] at z
    cases z
  have C : CellsAt F.cl [y] [some v0] s.heap (del H cc) := by
    rw [hcl]
    refine ⟨rfl, fun x c q => ?_, fun x z c q1 q2 => ?_, fun i x q => ?_⟩
    · have : c = cc := by
        simp only [List.lookup] at q
        split at q
        · exact (Option.some.inj q).symm
        · cases q
      subst this
      exact ⟨del_same, _, ic⟩
    · simp only [List.lookup] at q1 q2
      split at q1
      · rename_i h1
        split at q2
        · rename_i h2
          rw [beq_iff_eq] at h1 h2
          rw [h1, h2]
        · cases q2
      · cases q1
    · match i, q with
      | 0, q =>
        cases q
        refine ⟨cc, by simp [List.lookup], fun v ev => ?_⟩
        cases ev
        exact ⟨u0, r0, ic⟩
      | i + 1, q => simp at q
  have hu : us.length = ps.length := by rw [← r.length]; exact hl
  refine PySem.W.kla_callFunE hr.depth ho rfl S.co S.gen rfl (codeO_at e0.hok hc) ?_
  rw [hb pm ctv us hu]
  refine wpAny_pure (wpAny_newFunctionEnv S.nocell (fun ⟨n, _⟩ hy => S.par n (List.of_mem_zip hy).1) (fun h₁ hns hsb => ⟨lim.fresh _ hsb, ?_⟩) S.kind)
  show codeAny _ _ (.expr e (envF F f s.heap.objs.size)) _ _
  have kp : ∀ b o, s.heap.get? b = some o → h₁.get? b = some o := fun b o e => hsb.extBut b o (Nat.ne_of_lt (Heap.lt_size e)) (Heap.get?_push_of_some _ e)
  have I : Inv (ncx CX0 P w K mg base N F f A outer s (del H cc) E) [] (startF N vs [some v0]) (del H cc) { s with heap := h₁, toks := s.toks + (ps.zip us).length } := inv_startN S hr.hd e1 hl r C hns kp
  obtain ⟨te, hte, hq⟩ := hbody f v0 A outer s (del H cc) E vs (fun v H2 => Q v (L2.upd H2 cc (CelO cc v0))) (hr.deeper _) hl hsp
  refine PySem.W.kla_codeExpr (wpAny_mono (hte.run [] _ (startF N vs [some v0]) (del H cc) _ I hq) (fun v s' hq => ?_) fun e s' hq => ?_)
  · obtain ⟨w', H2, J, rv, q⟩ := hq
    have B : Un (frs outer) [] (del H cc) H2 s.heap s'.heap := J.base
    obtain ⟨oc, hoc, hdc⟩ := ic
    have n2 : H2 cc = none := B.free cc oc hoc del_same (by simp)
    have kc : s'.heap.get? cc = some oc := B.keep cc oc hoc del_same nfr (by simp)
    have ne : ∀ {b : Addr}, H b = none → b ≠ cc := fun {b} h z => by
      rw [z, hcc] at h
      cases h
    have nt : ∀ {b : Addr} {o : HO}, H b = some o → (∀ φ, o ≠ .ext φ) → b ≠ cc := fun {b o} h k z => by
      rw [z, hcc] at h
      exact k _ (Option.some.inj h).symm
    have dn : ∀ {b : Addr}, b ≠ cc → del H cc b = H b := fun {b} h => del_ne h
    refine ⟨w', L2.upd H2 cc (CelO cc v0), J.os, J.bare, ⟨fun b o h1 h2 => B.keep b o h1 ((dn (ne h2)).trans h2), fun b o h1 h2 => B.slot b o h1 ((dn (ne h2)).trans h2), fun b o h1 h2 h3 => ?_, B.there, fun b xs h => ?_, fun b o u h => ?_, fun b ps h => ?_⟩, hok_put n2 r0 ⟨oc, kc, hdc⟩ J.hok, rv, q⟩
    · rw [upd_ne (ne h2)]
      exact B.free b o h1 ((dn (ne h2)).trans h2) h3
    · have n := nt h (fun φ z => by cases z)
      rw [upd_ne n]
      exact B.tups b xs ((dn n).trans h)
    · have n := nt h (fun φ z => by cases z)
      rw [upd_ne n]
      exact B.frzs b o u ((dn n).trans h)
    · have n := nt h (fun φ z => by cases z)
      rw [upd_ne n]
      exact B.tbls b ps ((dn n).trans h)
  · have hq : wpAny (model P w) (A.deeper (envF F f s.heap.objs.size)) (leaving (envF F f s.heap.objs.size) e) (fun _ _ => False) (fun _ _ => False) s' := hq
    exact wpAny_mono hq (fun _ _ z => z.elim) fun _ _ z => z.elim
end
/-! ### a local that holds a lambda, or a def of the top -/
section
variable {X : Cx} {i j k : Nat} {x : Str} {t : TA} {e : Expr} {es : List Expr} {p pos : Pos}
/-- what a value does that is called with one thing: r x H Q -/
def Doe (P : Program) (w : World) (K : PySem.W.Frag) (mg : Str → Option Value) (base : Heap) (k : Nat) (f : Addr) (vs : List V) (H : Hp) (Q : VK) : Prop :=
  (∀ h, HOk P w H h → K.In h → PySem.W.FnAt f h) ∧ ∀ (A : Around) (outer : List Env) (s : Shared) (us : List Value), Room k A → Env0 P w K mg base A outer s H → Vals vs us → codeAny (model P w) A (.call (.ref f) ⟨us, []⟩) (CR CX0 outer P w H s Q E0) s
/-- x(e, ..), x a name that holds it -/
theorem pe_doe (hr : Room j X.A) (hk : k ≤ j) (hN : X.N[i]? = some x) (hv : Vis X.env.scope x) (ha : PA X (e :: es) t)
    (hd : (x == ("__debug__" : Str)) = false := by decide) (hcd : (x == ("__classdict__" : Str)) = false := by decide)
    (he : starEach (e :: es) X.env = (false, eval e X.env) :: starEach es X.env := by rfl) (hpl : (backTo pos (starEach es X.env)).any (·.1) = false := by rfl) :
    PE X (.Call (.Name x p) (e :: es) [] pos) (fun σ H Q => ∃ f, σ[i]? = some (some (.ref f)) ∧ (∀ h, HOk X.prog X.w H h → X.K.In h → PySem.W.FnAt f h) ∧ t σ H fun vs H1 => Doe X.prog X.w X.K X.mg X.base k f vs H1 Q) := by
  refine ⟨fun pins s σ H Q I h => ?_⟩
  obtain ⟨f, hs, hf, ht⟩ := h
  refine wpAny_Call_Name_kw (thn ((pe_var (pos := p) hN hv hd hcd).run pins s σ H (fun v H1 => v = .ref f ∧ H1 = H) I ⟨.ref f, hs, rfl, rfl⟩) fun u s1 ⟨v, H1, I1, r1, q1⟩ => ?_)
  obtain ⟨ev, eH⟩ := q1
  subst ev
  rw [eH] at I1
  obtain rfl : u = Value.ref f := r1
  refine PySem.W.callWith_F (first := []) (hf _ I1.hok I1.kIn) (thn (ha.run pos pins s1 σ H _ I1 ht) fun us s2 ⟨vs, H2, I2, r, h1, h2⟩ => ⟨h1 _ I2.hok I2.kIn, ?_⟩) he hpl
  show wpAny _ _ (call (.ref f) us) _ _ _
  refine wpAny_call (codeAny_mono (h2 X.A X.stack s2 us (hr.mono hk) I2.env0 r) fun r s' hq => ?_)
  cases r with
  | error e => exact hq.elim
  | ok fl =>
    cases fl with
    | ret u => exact I2.after hq
    | next => exact False.elim hq
    | brk => exact False.elim hq
    | cont => exact False.elim hq
end
section
variable {P : Program} {w : World} {K : PySem.W.Frag} {mg : Str → Option Value} {base : Heap} {F : NF} {e : Expr} {cc f : Addr} {ps : List Str} {k : Nat} {sp : V → Sp} {v0 : V}
/-- a kept lambda does what it promises -/
theorem doe_lam (L : LOk P w K mg base CX0 k F e cc ps sp) {H : Hp} (hf : H f = some (LmO f F e)) (hc : H F.c = some (CodeO F.c F.qual)) (hcc : H cc = some (CelO cc v0)) {vs : List V} {Q : VK} (hl : vs.length = ps.length) (h : sp v0 vs (del H cc) (fun v H2 => Q v (L2.upd H2 cc (CelO cc v0))) E0) : Doe P w K mg base k f vs H Q :=
  ⟨fun h hok _ => by
    obtain ⟨pm, ctv, ho⟩ := lmO_at hok hf
    exact ⟨_, _, _, _, ho⟩, fun A outer s us hr e0 r => L.run f v0 A outer s H us vs Q E0 hr e0 hf hc hcc r hl h⟩
/-- a def of the top does what it promises -/
theorem doe_def {x : Str} {st : Stmt} {ps : List Str} {sp : Sp} (c : Ca P w K mg base CX0 k x st [] ps sp) (b : Bd x x st ps) (hm : mg x = some (.ref f)) {H : Hp} {vs : List V} {Q : VK} (h : sp vs H Q E0) : Doe P w K mg base k f vs H Q := by
  obtain ⟨f', fd, Fd, hm', G⟩ := c.ex
  rw [hm] at hm'
  cases hm'
  obtain ⟨oc, od, dV, kV, doc, pm, an, cdv, ct, osl, rfl, lk, hcd, hD, hK⟩ := id Fd.ex
  refine ⟨fun h _ hin => ⟨_, _, _, _, hin _ _ lk⟩, fun A outer s us hr e0 r => ?_⟩
  have kin : K.In s.heap := e0.mod.kin.keeps fun b o e => (e0.bs b o e).1
  have hl : (us ++ ([] : List Value)).length = ps.length := by
    rw [List.append_nil, ← r.length]
    exact G.len _ _ _ _ h
  have q := G.run A outer s H ⟨us, []⟩ us vs Q E0 hr e0 (by
    have z := Fd.bindsN b s us kin hl
    rw [List.append_nil] at z
    exact z) r h
  exact q
end
/-! ### the lambda is made, and known from now on -/
section
variable {X : Cx} {pins : List (Addr × Obj)} {σ : L2.St} {H : Hp} {s : Shared}
abbrev lmF (qual : Str) (params : Arguments) (scope : Scope) (cl : List (Str × Addr)) (c' : Addr) : NF := ⟨"<lambda>", qual, params, [], scope, cl, c'⟩
theorem inv_lm {F : NF} {e : Expr} {pm ctv : Value} {t' : Nat} (I : Inv X pins σ H s) :
    Inv X pins σ (L2.upd H s.heap.objs.size (LmO s.heap.objs.size F e)) { s with heap := s.heap.push (PySem.W.kla_obj "<lambda>" F.qual F.params e F.scope F.cl pm F.c ctv), toks := t' } := by
  refine I.laid (a := s.heap.objs.size) (fun b u e => Heap.get?_push_of_some _ e) (Nat.le_refl _) ?_
  exact lmO_ok (pm := pm) (ctv := ctv) (Heap.get?_push_size _ rfl)
theorem lam_makeT {T : List (Addr × Str)} {c P : Addr} {params : Arguments} {body : Expr} {scope : Scope} {pos : Pos} {E : Value → Shared → Prop} {Q : Value → Shared → Prop} (I : Inv X pins σ H s) (TB : TabB X.base X.mg c P) (hcode : X.env.code = .ref c)
    (hm : (P, X.env.qual ++ "<lambda>") ∈ T) (hu : ∀ p ∈ T, p.1 = P → p.2 = X.env.qual ++ "<lambda>") (hT : Tabs T H) (hdef : defaultsOf params X.env = ([], [])) (hfree : ∀ y ∈ scope.names, y.2 = .free → ∃ c, X.env.cells.lookup y.1 = some c)
    (h : ∀ (f c' : Addr) (H1 : Hp) (s' : Shared), Inv X pins σ H1 s' → ExtN H H1 → (∀ b, H1 b = Option.none → H b = Option.none) → Tabs T H1 → H f = none →
      H1 f = some (LmO f (lmF (X.env.qual ++ "<lambda>") params scope (cloFrom X.env.cells scope.names []) c') body) → H1 c' = some (CodeO c' (X.env.qual ++ "<lambda>")) → Q (.ref f) s') :
    wpAny (model X.prog X.w) X.A (eval (.Lambda params body scope pos) X.env) Q E s := by
  obtain ⟨ps, hP, ht, ha⟩ := hT _ hm
  refine PySem.W.kla_eval hdef ?_
  have bP : s.heap.BuiltinsAt X.mg P := TB.bm.keeps I.bk
  have hP' : s.heap.get? P = some { cls := .none, data := .fields ps } := I.hok P _ hP
  cases hc : codeAmong pos ps.toList with
  | none =>
    refine PySem.W.kla_makeFunction (mg := X.mg) (c := c) (P := P) (ps := ps) (closure_ok hfree) I.ok.glob (I.mod.glob.keeps I.bk) hcode (TB.code.keeps I.bk) hP' ht hc TB.gP bP fun c' ctv h' tk hx hge hlt hrec htb => ?_
    obtain ⟨c2, oc, vs, t, e2, hoc, hd, hv⟩ := hrec
    cases e2
    have nC : H c' = none := I.hok.fresh hge
    have I1 := inv_table (t' := tk) (more := #[rawInt pos.line, rawInt pos.col, .ref c']) (h' := h') I hP (fun b o hb e => hx b o hb e) htb hge ⟨oc, vs, t, hoc, hd, hv⟩
    have hE : ExtN H (L2.upd (L2.upd H P (.tbl (ps ++ #[rawInt pos.line, rawInt pos.col, .ref c']))) c' (CodeO c' (X.env.qual ++ "<lambda>"))) := fun b o e n => by
      rw [upd_ne (ne_of_none e nC), upd_ne (fun z => n ps (Option.some.inj (e.symm.trans (by rw [z]; exact hP))))]
      exact e
    have eL : (ps ++ #[rawInt pos.line, rawInt pos.col, .ref c']).toList = ps.toList ++ [rawInt pos.line, rawInt pos.col, .ref c'] := by simp
    have T1 : Tabs T (L2.upd (L2.upd H P (.tbl (ps ++ #[rawInt pos.line, rawInt pos.col, .ref c']))) c' (CodeO c' (X.env.qual ++ "<lambda>"))) := fun p hp => by
      by_cases hb : p.1 = P
      · rw [hu p hp hb, hb]
        refine ⟨_, by rw [upd_ne (ne_of_none hP nC), upd_same], by rw [eL]; exact PySem.TriplesOk_snoc _ _ _ _ ht, fun p' cv hcv => ?_⟩
        rw [eL] at hcv
        rcases among_app _ ht hcv with z | z
        · obtain ⟨c0, e1, e2⟩ := ha p' cv z
          exact ⟨c0, e1, hE _ _ e2 codeO_ne⟩
        · exact ⟨c', z, upd_same⟩
      · obtain ⟨ps', a1, a2, a3⟩ := hT p hp
        refine ⟨ps', by rw [upd_ne (ne_of_none a1 nC), upd_ne hb]; exact a1, a2, fun p' cv hcv => ?_⟩
        obtain ⟨c0, e1, e2⟩ := a3 p' cv hcv
        exact ⟨c0, e1, hE _ _ e2 codeO_ne⟩
    have nF := I1.hok.fresh (Nat.le_refl _)
    have I2 := inv_lm (F := lmF (X.env.qual ++ "<lambda>") params scope (cloFrom X.env.cells scope.names []) c') (e := body) (t' := tk) (pm := (X.mg "__name__").getD .none) (ctv := ctv) I1
    refine h h'.objs.size c' _ _ I2 (fun b o e n => ?_) (fun b e => upd_none (upd_none (upd_none e))) (T1.ext fun b o e => ?_) (I.hok.fresh (Nat.le_trans hge (Nat.le_of_lt hlt))) upd_same ?_
    · have e1 := hE b o e n
      exact (upd_ne (ne_of_none e1 nF)).trans e1
    · exact (upd_ne (ne_of_none e nF)).trans e
    · exact (upd_ne (Nat.ne_of_lt hlt)).trans upd_same
  | some cv =>
    obtain ⟨c', e, hco⟩ := ha pos cv hc
    subst e
    refine PySem.W.kla_makeFunctionHit (mg := X.mg) (c := c) (P := P) (ps := ps) (closure_ok hfree) I.ok.glob (I.mod.glob.keeps I.bk) hcode (TB.code.keeps I.bk) hP' ht hc bP fun ctv h' tk hx hsz => ?_
    have I1 : Inv X pins σ H { s with heap := h', toks := tk } := I.kept hx
    have nF : H h'.objs.size = none := I1.hok.fresh (Nat.le_refl _)
    have I2 := inv_lm (F := lmF (X.env.qual ++ "<lambda>") params scope (cloFrom X.env.cells scope.names []) c') (e := body) (t' := tk) (pm := (X.mg "__name__").getD .none) (ctv := ctv) I1
    refine h h'.objs.size c' _ _ I2 (fun b o e n => ?_) (fun b e => upd_none e) (hT.ext fun b o e => ?_) nF upd_same ?_
    · exact (upd_ne (ne_of_none e nF)).trans e
    · exact (upd_ne (ne_of_none e nF)).trans e
    · exact (upd_ne (ne_of_none hco nF)).trans hco
end
/-! ### a def that is one return of a lambda -/
/-- such a def, its code object at c -/
structure DfC (K : PySem.W.Frag) (mg : Str → Option Value) (x : Str) (st : Stmt) (c : Addr) : Prop where
  ex : ∃ (f : Addr) (oc : Value) (od : Option Addr) (kV doc pm : Value) (an : Option Addr) (ct : Value) (osl : Array (Option Value)), K.lookup f = some ⟨oc, od, .func (PySem.W.fnOf x x (defArgs st) (defBody st) (defScope st) .none kV doc pm an (.ref c) ct), osl⟩ ∧
    PySem.W.codeIn K (.ref c) x = true ∧ KwdV K kV [] ∧ PySem.W.keepIn K (.ref f) = true ∧ mg x = some (.ref f)
abbrev lamQ (x : Str) : Str := (x ++ ".<locals>.") ++ "<lambda>"
def spMkL (T : List (Addr × Str)) (x y : Str) (lp : Arguments) (lb : Expr) (ls : Scope) : Sp := fun vs H Q _ => ∃ v0, vs = [v0] ∧ Tabs T H ∧ ∀ (f c' cc : Addr) (H' : Hp), ExtN H H' → (∀ b, H' b = none → H b = none) → Tabs T H' → H f = none → H cc = none →
  H' f = some (LmO f (lmF (lamQ x) lp ls [(y, cc)] c') lb) → H' c' = some (CodeO c' (lamQ x)) → H' cc = some (CelO cc v0) → Q (.ref f) H'
section
variable {P : Program} {w : World} {K : PySem.W.Frag} {mg : Str → Option Value} {base : Heap} {x y : Str} {st : Stmt} {c Pt : Addr} {T : List (Addr × Str)} {lp : Arguments} {lb : Expr} {ls : Scope} {lpos rpos : Pos} {k : Nat}
theorem ca_mkL (D : DfC K mg x st c) (S : FnScope [y] [y] (defScope st)) (hst : defBody st = [.Return (some (.Lambda lp lb ls lpos)) rpos]) (hy : (defScope st).names.lookup y = some .cell)
    (hclo : ∀ cells : List (Str × Addr), cloFrom cells ls.names [] = [(y, (cells.lookup y).getD 0)]) (hfr : ∀ z ∈ ls.names, z.2 = .free → z.1 = y) (hdef : ∀ env : Env, defaultsOf lp env = ([], [])) (TB : TabB base mg c Pt) (hm : (Pt, lamQ x) ∈ T) (hu : ∀ p ∈ T, p.1 = Pt → p.2 = lamQ x) :
    Ca P w K mg base CX0 (k + 1) x st [] [y] (spMkL T x y lp lb ls) := by
  obtain ⟨f0, oc, od, kV, doc, pm, an, ct, osl, lk, hcd, hkw, hkp, hmg⟩ := D.ex
  refine ⟨f0, _, ⟨⟨oc, od, .none, kV, doc, pm, an, .ref c, ct, osl, rfl, lk, hcd, .inl ⟨rfl, rfl⟩, hkw⟩, hkp⟩, hmg, ⟨fun vs H Q E h => ?_, fun A outer s H args us vs Q E hr e0 hb r hsp => ?_⟩⟩
  · obtain ⟨v0, rfl, _⟩ := h
    rfl
  obtain ⟨v0, rfl, hT, q⟩ := hsp
  have KX : K.In s.heap := e0.mod.kin.keeps fun b o e => (e0.bs b o e).1
  have lim : s.heap.NoLimit := e0.mod.nolimit.keeps fun b o e => (e0.bs b o e).1
  have hkind : ∀ z ∈ ([y] : List Str).zip us, (defScope st).names.lookup z.1 = some .local ∨ ((defScope st).names.lookup z.1 = some .cell ∧ ((cellsFrom (s.heap.objs.size + 1) (defScope st).names []).lookup z.1).isSome = true) := fun ⟨n, v⟩ hz => by
    rcases S.par n (List.of_mem_zip hz).1 with q | q
    · exact .inl q
    · exact .inr ⟨q, PySem.W.cellsFrom_some _ _ _ (.inl q)⟩
  refine codeAny_call_function hr.depth (KX _ _ lk) rfl S.co S.gen rfl (PySem.W.codeRec_of KX hcd) (hb _ _ _ _ ?_)
  refine wpAny_newFunctionEnv_cells S.kind hkind fun env he s1 xx => ?_
  subst he
  refine ⟨lim.keeps xx.toInCall.keep, codeAny_func ?_⟩
  have I : Inv (cxOf CX0 P w K mg base [y] x (defScope st) f0 (.ref c) A outer s H E) [] (L2.start [y] [v0]) H s1 := inv_start S hr.hd e0 rfl r xx
  rw [hst]
  have cell : ∃ cc, (cxOf CX0 P w K mg base [y] x (defScope st) f0 (.ref c) A outer s H E).env.cells.lookup y = some cc := I.ok.has y (.inl hy)
  obtain ⟨cc, hcc⟩ := cell
  refine wpAny_execs_cons (wpAny_Return_some (lam_makeT I TB rfl hm hu hT (hdef _) (fun z hz e => ⟨cc, by rw [hfr z hz e]; exact hcc⟩) fun f c' H1 s' I1 eN nN T1 nf hf hco => ?_))
  have nc1 : H1 cc = none := I1.freeC y cc hcc
  have ge : s.heap.objs.size ≤ cc := I1.ok.cab y cc rfl hcc
  obtain ⟨m, hn, hl⟩ := I1.loc
  obtain ⟨u, ru, lk2⟩ := hl 0 y v0 rfl rfl (.inr (.inl hy))
  have ic : s'.heap.IsCell cc (some u) := by
    rcases lk2 with ⟨z, _⟩ | ⟨_, a', ha', z⟩
    · have z : (defScope st).names.lookup y = some .local := z
      rw [hy] at z
      cases z
    · rw [hcc] at ha'
      cases ha'
      exact z
  have nc0 : H cc = none := nN cc nc1
  have B : Un (frs outer) [] H H1 s.heap s'.heap := I1.base
  refine ⟨.ref f, L2.upd H1 cc (CelO cc v0), I1.os, I1.bare, ⟨B.keep, B.slot, fun b o h1 h2 h3 => ?_, B.there, fun b xs h => ?_, fun b o u h => ?_, fun b ps h => ?_⟩, hok_put nc1 ru ic I1.hok, rfl, q f c' cc _ (fun b o e n => ?_) (fun b e => nN b (upd_none e)) (T1.ext fun b o e => ?_) nf nc0 ?_ ?_ upd_same⟩
  · have lt := Heap.lt_size h1
    rw [upd_ne (fun z => by rw [z] at lt; exact Nat.lt_irrefl _ (Nat.lt_of_lt_of_le lt ge))]
    exact B.free b o h1 h2 h3
  · have e := B.tups b xs h
    rw [upd_ne (ne_of_none e nc1)]
    exact e
  · have e := B.frzs b o u h
    rw [upd_ne (ne_of_none e nc1)]
    exact e
  · obtain ⟨more, e⟩ := B.tbls b ps h
    exact ⟨more, by rw [upd_ne (ne_of_none e nc1)]; exact e⟩
  · have e1 := eN b o e n
    rw [upd_ne (ne_of_none e1 nc1)]
    exact e1
  · rw [upd_ne (ne_of_none e nc1)]
    exact e
  · rw [upd_ne (ne_of_none hf nc1), hf]
    have z : cloFrom (cxOf CX0 P w K mg base [y] x (defScope st) f0 (.ref c) A outer s H E).env.cells ls.names [] = [(y, cc)] := by
      rw [hclo, hcc]
      rfl
    rw [z]
    rfl
  · rw [upd_ne (ne_of_none hco nc1)]
    exact hco
end
end MM
namespace MM
open PySem PySem.Spec PyProof.Rows L2
/-! ### d.setdefault(k, v); a def of the top as a value -/
section
variable {X : Cx}
theorem mt_setdefault : MtM X "dict.setdefault" rSetd := by
  intro pins s σ H x vs v us Q I rx rv h
  obtain ⟨a, kvs, k, w0, rfl, rfl, ea, hl, w1, w2⟩ := h
  cases rx
  cases rv with
  | cons ry rv =>
    cases rv with
    | cons rd rv =>
      cases rv
      obtain ⟨z, hd, vs0, rel, dd⟩ := dk_of I.hok ea
      have dd2 := dd
      obtain ⟨o, es, ep, eo, exd, hdat, _⟩ := dd2
      have hz : vs0.length ≤ sizeLine := by rw [← rel.length]; exact z
      refine call_meetsIn F.slot_dict_setdefault dd.typeIs F.entry_dict_setdefault (F.args_dict_setdefault_3 _ _ _) (kt_meets_setdefault (mixKind X.prog X.w) _ (kV_is ry) hd _) ⟨vs0, dd, hz, fun u hu => ?_, fun hn h' dd' hs => ?_⟩
      · have rr := rel.val k
        rw [hu] at rr
        cases hv : valV kvs k with
        | none => rw [hv] at rr; exact False.elim rr
        | some x =>
          rw [hv] at rr
          exact (⟨x, H, I.tok _, rr, w1 x hv⟩ : EP X pins σ Q u _)
      · have rr := rel.val k
        rw [hn] at rr
        cases hv : valV kvs k with
        | some x => rw [hv] at rr; exact False.elim rr
        | none =>
          have hl2 : (putK kvs k w0).length ≤ sizeLine := by have := length_putK kvs k w0; omega
          exact (⟨w0, _, d_write (t' := s.toks + 1) I (by rw [ea]; exact True.intro) hs (let ⟨q, _, _, hq, _⟩ := dd'; ⟨q, hq⟩) (dk_new hl2 hd (rel.put k rd) dd'), rd, w2 hv⟩ : EP X pins σ Q _ _)
/-- x, a def of the top -/
theorem pe_gdef {x : Str} {f : Addr} {p : Pos} (hg : Gl X x) (hm : X.mg x = some (.ref f)) (hdb : (x == ("__debug__" : Str)) = false := by decide) : PE X (.Name x p) (fun _ H Q => Q (.ref f) H) := by
  refine ⟨fun pins s σ H Q I h => ?_⟩
  exact ld_glob I hg hm (⟨.ref f, H, I, rfl, h⟩ : EP X pins σ Q _ _) hdb
end
end MM
namespace MM
open PySem PySem.Spec PySem.Calls PyProof.Rows L2 LamX
/-! ### the end of a law with tables of code objects -/
theorem tabs_nil {H : Hp} {p : Addr} {q : Str} (h : H p = some (.tbl #[])) : TabS H p q := by
  refine ⟨_, h, ?_, fun pos cv e => ?_⟩
  · trivial
  · cases e
theorem walk_T {l : PySem.W.OpenLaw} {q : Program} {loose : List Str} {XP : (Str → Option Value) → Heap → Prop} {YP : World → Heap → Prop} {d : DefRec} {K : Params → PySem.W.Frag} {k : Nat} {x : Str} {sp : World → List (Addr × Addr) → Sp} (xs : List Str)
    (hn : l.most = some 63) (hdf : d.params.defaults = []) (rm : Room k callerA)
    (hfd : ∀ y ∈ xs, ((recsOf q).find? fun e => e.name == y).isSome = true)
    (hY : ∀ (w : World) (h : Heap), YP w h → (K w.params).In h)
    (F : ∀ (w : World) (mg : Str → Option Value) (fa : Addr) (h : Heap), (K w.params).In h → h.Ns mainGlobals mg → mg d.name = some (.ref fa) →
      ∃ (cs : List (Addr × Addr)) (fd : FuncData), (∀ p ∈ cs, (∃ y ∈ xs, PySem.W.tabIn (K w.params) y = some p) ∧ (K w.params).lookup p.2 = none) ∧ (∀ (s : Shared) (u : Value), BindsTo s fd ⟨[u], []⟩ [(x, u)]) ∧
        ∀ base : Heap, (K w.params).In base → base.Ns mainGlobals mg → (∀ p ∈ cs, TabB base mg p.1 p.2) → FnOk l.prog w (K w.params) mg base CX0 k fa fd [x] (sp w cs))
    (want : ∀ (w : World) (cs : List (Addr × Addr)) (H : Hp) (a : Addr) (ns : List Int), ns.length ≤ 63 → (∀ p ∈ cs, H p.2 = some (.tbl #[])) → SqL (K w.params) H a (ns.map V.int) → sp w cs [.ref a] H (fun v _ => v = .bl true) fun _ _ _ => False) :
    PySem.W.WalkO q loose XP YP l.row.toRowW d [] (fun f vs => PySem.call f vs) := by
  refine Att.attach_call hn hdf fun w s0 s1 mg mb fa o pm cd doc a vs ns G Y ho hd hcd hmg hobj hints hlen hg => ?_
  have kin := hY w _ Y
  obtain ⟨cs, fd, hcs, hb, hF⟩ := F w mg fa _ kin G.T.g hmg
  have tb : ∀ p ∈ cs, PySem.W.CodeHd s1.heap p.1 p.2 ∧ s1.heap.get? p.2 = some (PySem.W.tabObj #[]) := fun p hp => by
    obtain ⟨⟨y, hy, ht⟩, _⟩ := hcs p hp
    obtain ⟨d', hd'⟩ := Option.isSome_iff_exists.mp (hfd y hy)
    exact PySem.W.tab_of G.T kin hd' ht
  exact law_callTs (CX := CX0) kin G.T.g G.T.b G.T.builtins G.T.nolimit hg (fun p hp => (tb p hp).2) (fun p hp => (hcs p hp).2) (fun p hp => (tb p hp).1) G.T.bmain hobj hints (Nat.le_trans hlen (by decide)) rm hF hb (fun H ht sq => want w cs H a ns hlen ht sq) fun _ _ _ z => z
theorem fin_ofT {P : Program} {w : World} {K : PySem.W.Frag} {mg : Str → Option Value} {st : Stmt} {k : Nat} {x : Str} {sp : Sp} {fa : Addr} {cs : List (Addr × Addr)} (hfa : mg "law" = some (.ref fa)) (D : Df K mg "law" st []) (b : Bd "law" "law" st [x])
    (h : ∀ base : Heap, (∀ p ∈ cs, TabB base mg p.1 p.2) → Ca P w K mg base CX0 k "law" st [] [x] sp) :
    ∃ fd : FuncData, (∀ (s : Shared) (u : Value), BindsTo s fd ⟨[u], []⟩ [(x, u)]) ∧ ∀ base : Heap, K.In base → base.Ns mainGlobals mg → (∀ p ∈ cs, TabB base mg p.1 p.2) → FnOk P w K mg base CX0 k fa fd [x] sp := by
  obtain ⟨f, fd, F, hm⟩ := D.ex
  have e := hfa.symm.trans hm
  cases e
  refine ⟨fd, fun s u => ?_, fun base _ _ tb => ?_⟩
  · obtain ⟨kV, doc, pm, an, cdv, ct, rfl⟩ := FunD.none F
    exact .of_eq (b kV doc pm an cdv ct [u] rfl)
  · obtain ⟨f', fd', F', hm', G⟩ := (h base tb).ex
    have e' := hm.symm.trans hm'
    cases e'
    have e2 := fund_inj F F'
    subst e2
    exact G
section
variable {K : PySem.W.Frag} {h : Heap} {mg : Str → Option Value} {x : Str} {st : Stmt} {f c : Addr} {oc kV doc pm ct : Value} {od an : Option Addr} {osl : Array (Option Value)}
/-- a def whose code object's place is told -/
theorem df_mkC (X : K.In h) (G : h.Ns mainGlobals mg) (a : PySem.W.nsIn K mainGlobals x = some (some (.ref f))) (l : K.lookup f = some ⟨oc, od, .func (PySem.W.fnOf x x (defArgs st) (defBody st) (defScope st) .none kV doc pm an (.ref c) ct), osl⟩)
    (cI : PySem.W.codeIn K (.ref c) x = true) (k : PySem.W.keepIn K (.ref f) = true) : DfC K mg x st c :=
  ⟨f, oc, od, kV, doc, pm, an, ct, osl, l, cI, .inl rfl, k, PySem.W.mg_of X G a⟩
end
end MM
namespace MM
open PySem PySem.Spec PyProof.Rows L2 LamX NdefX
/-! ### a kept lambda with two captured cells -/
section
variable {P : Program} {w : World} {K : PySem.W.Frag} {mg : Str → Option Value} {base : Heap}
theorem env0_del {A : Around} {outer : List Env} {s : Shared} {H : Hp} {c : Addr} {v : V} (e0 : Env0 P w K mg base A outer s H) (q : H c = some (CelO c v)) : Env0 P w K mg base A outer s (del H c) :=
  ⟨e0.frames, e0.mod, fun b o q => ⟨(e0.bs b o q).1, del_none (e0.bs b o q).2⟩, e0.bsz, e0.funs, fun b hb => del_none (e0.frf b hb), hok_del q e0.hok, e0.bare⟩
theorem un_put {fr : List Addr} {H H2 : Hp} {h h' : Heap} {c : Addr} {v : V} {oc : Obj} (B : Un fr [] (del H c) H2 h h') (hcc : H c = some (CelO c v)) (hoc : h.get? c = some oc) : H2 c = none ∧ Un fr [] H (L2.upd H2 c (CelO c v)) h h' := by
  have n2 : H2 c = none := B.free c oc hoc del_same (by simp)
  have ne : ∀ {b : Addr}, H b = none → b ≠ c := fun {b} h z => by
    rw [z, hcc] at h
    cases h
  have nt : ∀ {b : Addr} {o : HO}, H b = some o → (∀ φ, o ≠ .ext φ) → b ≠ c := fun {b o} h k z => by
    rw [z, hcc] at h
    exact k _ (Option.some.inj h).symm
  have dn : ∀ {b : Addr}, b ≠ c → del H c b = H b := fun {b} h => del_ne h
  refine ⟨n2, fun b o h1 h2 => B.keep b o h1 ((dn (ne h2)).trans h2), fun b o h1 h2 => B.slot b o h1 ((dn (ne h2)).trans h2), fun b o h1 h2 h3 => ?_, B.there, fun b xs h => ?_, fun b o u h => ?_, fun b ps h => ?_⟩
  · rw [upd_ne (ne h2)]
    exact B.free b o h1 ((dn (ne h2)).trans h2) h3
  · have n := nt h (fun φ z => by cases z)
    rw [upd_ne n]
    exact B.tups b xs ((dn n).trans h)
  · have n := nt h (fun φ z => by cases z)
    rw [upd_ne n]
    exact B.frzs b o u ((dn n).trans h)
  · have n := nt h (fun φ z => by cases z)
    rw [upd_ne n]
    exact B.tbls b ps ((dn n).trans h)
theorem un_new {fr : List Addr} {H H1 : Hp} {h h' : Heap} {c : Addr} {u : HO} (B : Un fr [] H H1 h h') (nc : H1 c = none) (ge : h.objs.size ≤ c) : Un fr [] H (L2.upd H1 c u) h h' := by
  refine ⟨B.keep, B.slot, fun b o h1 h2 h3 => ?_, B.there, fun b xs h => ?_, fun b o u h => ?_, fun b ps h => ?_⟩
  · have lt := Heap.lt_size h1
    rw [upd_ne (fun z => by rw [z] at lt; exact Nat.lt_irrefl _ (Nat.lt_of_lt_of_le lt ge))]
    exact B.free b o h1 h2 h3
  · have e := B.tups b xs h
    rw [upd_ne (ne_of_none e nc)]
    exact e
  · have e := B.frzs b o u h
    rw [upd_ne (ne_of_none e nc)]
    exact e
  · obtain ⟨more, e⟩ := B.tbls b ps h
    exact ⟨more, by rw [upd_ne (ne_of_none e nc)]; exact e⟩
end
/-- its promise: sp v1 v2, what the two cells hold -/
structure LOk2 (P : Program) (w : World) (K : PySem.W.Frag) (mg : Str → Option Value) (base : Heap) (CX : CXT) (k : Nat) (F : NF) (e : Expr) (c1 c2 : Addr) (ps : List Str) (sp : V → V → Sp) : Prop where
  run : ∀ (f : Addr) (v1 v2 : V) (A : Around) (outer : List Env) (s : Shared) (H : Hp) (us : List Value) (vs : List V) (Q : VK) (E : XK), Room k A → Env0 P w K mg base A outer s H → H f = some (LmO f F e) → H F.c = some (CodeO F.c F.qual) →
    H c1 = some (CelO c1 v1) → H c2 = some (CelO c2 v2) → Vals vs us → vs.length = ps.length → sp v1 v2 vs (del (del H c1) c2) (fun v H2 => Q v (L2.upd (L2.upd H2 c2 (CelO c2 v2)) c1 (CelO c1 v1))) E → codeAny (model P w) A (.call (.ref f) ⟨us, []⟩) (CR CX outer P w H s Q E) s
section
variable {P : Program} {w : World} {K : PySem.W.Frag} {mg : Str → Option Value} {base : Heap} {F : NF} {e : Expr} {c1 c2 : Addr} {N ps : List Str} {y1 y2 : Str} {k : Nat}
theorem lok2_of {sp : V → V → Sp} (S : NScope N ps [y1, y2] F.scope) (hcl : F.cl = [(y1, c1), (y2, c2)]) (hy : (y2 == y1) = false) (hc12 : c1 ≠ c2) (hb : ∀ (pm ctv : Value) (us : List Value), us.length = ps.length → bindArgs (PySem.W.kla_fn "<lambda>" F.qual F.params e F.scope F.cl pm (.ref F.c) ctv) ⟨us, []⟩ = pure (ps.zip us))
    (hbody : ∀ (f : Addr) (v1 v2 : V) (A : Around) (outer : List Env) (s : Shared) (H : Hp) (E : XK) (vs : List V) (Q : VK), Room k (A.deeper (envF F f s.heap.objs.size)) → vs.length = ps.length → sp v1 v2 vs H Q E →
      ∃ te : TE, PE (ncx CX0 P w K mg base N F f A outer s H E) e te ∧ te (startF N vs [some v1, some v2]) H Q) : LOk2 P w K mg base CX0 (k + 1) F e c1 c2 ps sp := by
  refine ⟨fun f v1 v2 A outer s H us vs Q E hr e0 hf hc hq1 hq2 r hl hsp => ?_⟩
  obtain ⟨pm, ctv, ho⟩ := lmO_at e0.hok hf
  obtain ⟨u1, r1, ic1⟩ := celO_at e0.hok hq1
  obtain ⟨u2, r2, ic2⟩ := celO_at e0.hok hq2
  have lim : s.heap.NoLimit := e0.mod.nolimit.keeps fun b o e => (e0.bs b o e).1
  have hq2' : del H c1 c2 = some (CelO c2 v2) := (del_ne hc12.symm).trans hq2
  have e1 : Env0 P w K mg base A outer s (del (del H c1) c2) := env0_del (env0_del e0 hq1) hq2'
  have nfr : ∀ {c : Addr} {v : V}, H c = some (CelO c v) → c ∉ frs outer := fun {c v} q hm => by
    have z := e0.frf c hm
    rw [q] at z
    cases z
  have d1 : del (del H c1) c2 c1 = none := del_none del_same
  have d2 : del (del H c1) c2 c2 = none := del_same
  have lk : ∀ {x : Str} {c : Addr}, F.cl.lookup x = some c → (x = y1 ∧ c = c1) ∨ (x = y2 ∧ c = c2) := fun {x c} q => by
    rw [hcl] at q
    simp only [List.lookup] at q
    split at q
    · rename_i h
      exact .inl ⟨by simpa using h, (Option.some.inj q).symm⟩
    · split at q
      · rename_i h
        exact .inr ⟨by simpa using h, (Option.some.inj q).symm⟩
      · cases q
  have C : CellsAt F.cl [y1, y2] [some v1, some v2] s.heap (del (del H c1) c2) := by
    refine ⟨rfl, fun x c q => ?_, fun x z c q1 q2 => ?_, fun i x q => ?_⟩
    · rcases lk q with ⟨_, rfl⟩ | ⟨_, rfl⟩
      · exact ⟨d1, _, ic1⟩
      · exact ⟨d2, _, ic2⟩
    · rcases lk q1 with ⟨e1, f1⟩ | ⟨e1, f1⟩ <;> rcases lk q2 with ⟨e2, f2⟩ | ⟨e2, f2⟩
      · rw [e1, e2]
      · exact absurd (f1.symm.trans f2) hc12
      · exact absurd (f2.symm.trans f1) hc12
      · rw [e1, e2]
    · match i, q with
      | 0, q =>
        cases q
        refine ⟨c1, by rw [hcl]; simp [List.lookup], fun v ev => ?_⟩
        cases ev
        exact ⟨u1, r1, ic1⟩
      | 1, q =>
        cases q
        refine ⟨c2, by rw [hcl]; simp [List.lookup, hy], fun v ev => ?_⟩
        cases ev
        exact ⟨u2, r2, ic2⟩
      | i + 2, q => simp at q
  have hu : us.length = ps.length := by rw [← r.length]; exact hl
  refine PySem.W.kla_callFunE hr.depth ho rfl S.co S.gen rfl (codeO_at e0.hok hc) ?_
  rw [hb pm ctv us hu]
  refine wpAny_pure (wpAny_newFunctionEnv S.nocell (fun ⟨n, _⟩ hy => S.par n (List.of_mem_zip hy).1) (fun h₁ hns hsb => ⟨lim.fresh _ hsb, ?_⟩) S.kind)
  show codeAny _ _ (.expr e (envF F f s.heap.objs.size)) _ _
  have kp : ∀ b o, s.heap.get? b = some o → h₁.get? b = some o := fun b o e => hsb.extBut b o (Nat.ne_of_lt (Heap.lt_size e)) (Heap.get?_push_of_some _ e)
  have I : Inv (ncx CX0 P w K mg base N F f A outer s (del (del H c1) c2) E) [] (startF N vs [some v1, some v2]) (del (del H c1) c2) { s with heap := h₁, toks := s.toks + (ps.zip us).length } := inv_startN S hr.hd e1 hl r C hns kp
  obtain ⟨te, hte, hq⟩ := hbody f v1 v2 A outer s (del (del H c1) c2) E vs (fun v H2 => Q v (L2.upd (L2.upd H2 c2 (CelO c2 v2)) c1 (CelO c1 v1))) (hr.deeper _) hl hsp
  refine PySem.W.kla_codeExpr (wpAny_mono (hte.run [] _ (startF N vs [some v1, some v2]) (del (del H c1) c2) _ I hq) (fun v s' hq => ?_) fun e s' hq => ?_)
  · obtain ⟨w', H2, J, rv, q⟩ := hq
    have B : Un (frs outer) [] (del (del H c1) c2) H2 s.heap s'.heap := J.base
    obtain ⟨o1, ho1, hd1⟩ := ic1
    obtain ⟨o2, ho2, hd2⟩ := ic2
    have k1 : s'.heap.get? c1 = some o1 := B.keep c1 o1 ho1 d1 (nfr hq1) (by simp)
    have k2 : s'.heap.get? c2 = some o2 := B.keep c2 o2 ho2 d2 (nfr hq2) (by simp)
    obtain ⟨n2, B2⟩ := un_put B hq2' ho2
    obtain ⟨n1, B1⟩ := un_put B2 hq1 ho1
    exact ⟨w', _, J.os, J.bare, B1, hok_put n1 r1 ⟨o1, k1, hd1⟩ (hok_put n2 r2 ⟨o2, k2, hd2⟩ J.hok), rv, q⟩
  · have hq : wpAny (model P w) (A.deeper (envF F f s.heap.objs.size)) (leaving (envF F f s.heap.objs.size) e) (fun _ _ => False) (fun _ _ => False) s' := hq
    exact wpAny_mono hq (fun _ _ z => z.elim) fun _ _ z => z.elim
/-- a kept lambda with two cells does what it promises -/
theorem doe_lam2 {f : Addr} {v1 v2 : V} {sp : V → V → Sp} (L : LOk2 P w K mg base CX0 k F e c1 c2 ps sp) {H : Hp} (hf : H f = some (LmO f F e)) (hc : H F.c = some (CodeO F.c F.qual)) (h1 : H c1 = some (CelO c1 v1)) (h2 : H c2 = some (CelO c2 v2)) {vs : List V} {Q : VK} (hl : vs.length = ps.length) (h : sp v1 v2 vs (del (del H c1) c2) (fun v H2 => Q v (L2.upd (L2.upd H2 c2 (CelO c2 v2)) c1 (CelO c1 v1))) E0) : Doe P w K mg base k f vs H Q :=
  ⟨fun h hok _ => by
    obtain ⟨pm, ctv, ho⟩ := lmO_at hok hf
    exact ⟨_, _, _, _, ho⟩, fun A outer s us hr e0 r => L.run f v1 v2 A outer s H us vs Q E0 hr e0 hf hc h1 h2 r hl h⟩
end
/-! ### a def that sets a local and returns a lambda -/
/-- pre v0 v1 H: the local's value; cells: y1 ↦ c1, y2 ↦ c2 as the lambda's scope has them; ya is the parameter, yb the local -/
def spMkL2 (T : List (Addr × Str)) (x y1 y2 : Str) (lp : Arguments) (lb : Expr) (ls : Scope) (pre : V → V → Hp → Prop) (sw : Bool) : Sp := fun vs H Q _ => ∃ v0 v1, vs = [v0] ∧ pre v0 v1 H ∧ Tabs T H ∧ ∀ (f c' c1 c2 : Addr) (H' : Hp), ExtN H H' → (∀ b, H' b = none → H b = none) → Tabs T H' → H f = none → H c1 = none → H c2 = none → c1 ≠ c2 →
  H' f = some (LmO f (lmF (lamQ x) lp ls [(y1, c1), (y2, c2)] c') lb) → H' c' = some (CodeO c' (lamQ x)) → H' c1 = some (CelO c1 (if sw then v1 else v0)) → H' c2 = some (CelO c2 (if sw then v0 else v1)) → Q (.ref f) H'
section
variable {P : Program} {w : World} {K : PySem.W.Frag} {mg : Str → Option Value} {base : Heap} {x y1 y2 ya yb : Str} {st s1 : Stmt} {c Pt : Addr} {T : List (Addr × Str)} {lp : Arguments} {lb : Expr} {ls : Scope} {lpos rpos : Pos} {k : Nat} {pre : V → V → Hp → Prop} {sw : Bool}
theorem ca_mkL2 (D : DfC K mg x st c) (S : FnScope [ya, yb] [ya] (defScope st)) (hst : defBody st = [s1, .Return (some (.Lambda lp lb ls lpos)) rpos]) (ha : (defScope st).names.lookup ya = some .cell) (hb' : (defScope st).names.lookup yb = some .cell) (hab : ya ≠ yb)
    (hsw : (if sw then y1 = yb ∧ y2 = ya else y1 = ya ∧ y2 = yb))
    (hclo : ∀ cells : List (Str × Addr), cloFrom cells ls.names [] = [(y1, (cells.lookup y1).getD 0), (y2, (cells.lookup y2).getD 0)]) (hfr : ∀ z ∈ ls.names, z.2 = .free → z.1 = y1 ∨ z.1 = y2) (hdef : ∀ env : Env, defaultsOf lp env = ([], [])) (TB : TabB base mg c Pt) (hm : (Pt, lamQ x) ∈ T) (hu : ∀ p ∈ T, p.1 = Pt → p.2 = lamQ x)
    (h1 : ∀ (f : Addr) (A : Around) (outer : List Env) (s : Shared) (H : Hp) (E : XK), Room k (A.deeper (envOfC x (defScope st) s.heap.objs.size f (.ref c))) → ∃ t : TS, PS (cxOf CX0 P w K mg base [ya, yb] x (defScope st) f (.ref c) A outer s H E) s1 t ∧ ∀ (v0 v1 : V) (H1 : Hp) (D : Ends), pre v0 v1 H1 → D.nx [some v0, some v1] H1 → t D [some v0, none] H1) :
    Ca P w K mg base CX0 (k + 1) x st [] [ya] (spMkL2 T x y1 y2 lp lb ls pre sw) := by
  obtain ⟨f0, oc, od, kV, doc, pm, an, ct, osl, lk, hcd, hkw, hkp, hmg⟩ := D.ex
  refine ⟨f0, _, ⟨⟨oc, od, .none, kV, doc, pm, an, .ref c, ct, osl, rfl, lk, hcd, .inl ⟨rfl, rfl⟩, hkw⟩, hkp⟩, hmg, ⟨fun vs H Q E h => ?_, fun A outer s H args us vs Q E hr e0 hb r hsp => ?_⟩⟩
  · obtain ⟨v0, v1, rfl, _⟩ := h
    rfl
  obtain ⟨v0, v1, rfl, hpre, hT, q⟩ := hsp
  have KX : K.In s.heap := e0.mod.kin.keeps fun b o e => (e0.bs b o e).1
  have lim : s.heap.NoLimit := e0.mod.nolimit.keeps fun b o e => (e0.bs b o e).1
  have hkind : ∀ z ∈ ([ya] : List Str).zip us, (defScope st).names.lookup z.1 = some .local ∨ ((defScope st).names.lookup z.1 = some .cell ∧ ((cellsFrom (s.heap.objs.size + 1) (defScope st).names []).lookup z.1).isSome = true) := fun ⟨n, v⟩ hz => by
    rcases S.par n (List.of_mem_zip hz).1 with q | q
    · exact .inl q
    · exact .inr ⟨q, PySem.W.cellsFrom_some _ _ _ (.inl q)⟩
  refine codeAny_call_function hr.depth (KX _ _ lk) rfl S.co S.gen rfl (PySem.W.codeRec_of KX hcd) (hb _ _ _ _ ?_)
  refine wpAny_newFunctionEnv_cells S.kind hkind fun env he s2 xx => ?_
  subst he
  refine ⟨lim.keeps xx.toInCall.keep, codeAny_func ?_⟩
  have I : Inv (cxOf CX0 P w K mg base [ya, yb] x (defScope st) f0 (.ref c) A outer s H E) [] (L2.start [ya, yb] [v0]) H s2 := inv_start S hr.hd e0 rfl r xx
  rw [hst]
  obtain ⟨t1, ps1, ht1⟩ := h1 f0 A outer s H E (hr.deeper _)
  refine wpAny_execs_cons (wpAny_mono (ps1.run [] _ _ H { nx := fun σ H' => σ = [some v0, some v1] ∧ H' = H, rt := fun _ _ => False } I (ht1 v0 v1 H _ hpre ⟨rfl, rfl⟩)) (fun fl s3 got => ?_) fun e s' hq => hq)
  match fl, got with
  | .brk, got => exact got.elim fun _ z => z.elim fun _ z => z.2.elim
  | .cont, got => exact got.elim fun _ z => z.elim fun _ z => z.2.elim
  | .ret u, got => exact got.elim fun _ z => z.elim fun _ z => z.elim fun _ z => z.2.2.elim
  | .next, got =>
  obtain ⟨σ3, H3, I3, rfl, rfl⟩ := got
  obtain ⟨ca, hca⟩ : ∃ cc, (cxOf CX0 P w K mg base [ya, yb] x (defScope st) f0 (.ref c) A outer s H3 E).env.cells.lookup ya = some cc := I3.ok.has ya (.inl ha)
  obtain ⟨cb, hcb⟩ : ∃ cc, (cxOf CX0 P w K mg base [ya, yb] x (defScope st) f0 (.ref c) A outer s H3 E).env.cells.lookup yb = some cc := I3.ok.has yb (.inl hb')
  have nab : ca ≠ cb := fun z => hab (I3.ok.inj ya yb ca hca (by rw [z]; exact hcb))
  refine wpAny_execs_cons (wpAny_Return_some (lam_makeT I3 TB rfl hm hu hT (hdef _) (fun z hz e => ?_) fun f c' H1 s' I1 eN nN T1 nf hf hco => ?_))
  · have : z.1 = ya ∨ z.1 = yb := by
      have h := hfr z hz e
      cases sw with
      | true => rw [if_pos rfl] at hsw; rw [hsw.1, hsw.2] at h; exact h.symm
      | false => rw [if_neg (by decide)] at hsw; rw [hsw.1, hsw.2] at h; exact h
    rcases this with e | e <;> rw [e]
    · exact ⟨ca, hca⟩
    · exact ⟨cb, hcb⟩
  have na1 : H1 ca = none := I1.freeC ya ca hca
  have nb1 : H1 cb = none := I1.freeC yb cb hcb
  have ga : s.heap.objs.size ≤ ca := I1.ok.cab ya ca rfl hca
  have gb : s.heap.objs.size ≤ cb := I1.ok.cab yb cb rfl hcb
  obtain ⟨m, hn, hl⟩ := I1.loc
  have cell : ∀ {i : Nat} {y : Str} {v : V} {cc : Addr}, ([ya, yb] : List Str)[i]? = some y → ([some v0, some v1] : L2.St)[i]? = some (some v) → (defScope st).names.lookup y = some .cell → (cxOf CX0 P w K mg base [ya, yb] x (defScope st) f0 (.ref c) A outer s H3 E).env.cells.lookup y = some cc → ∃ u, RelV v u ∧ s'.heap.IsCell cc (some u) := fun {i y v cc} hi hv hk hcc => by
    obtain ⟨u, ru, lk2⟩ := hl i y v hi hv (.inr (.inl hk))
    refine ⟨u, ru, ?_⟩
    rcases lk2 with ⟨z, _⟩ | ⟨_, a', ha', z⟩
    · have z : (defScope st).names.lookup y = some .local := z
      rw [hk] at z
      cases z
    · rw [hcc] at ha'
      cases ha'
      exact z
  obtain ⟨ua, ra, ia⟩ := cell (i := 0) rfl rfl ha hca
  obtain ⟨ub, rb, ib⟩ := cell (i := 1) rfl rfl hb' hcb
  have B : Un (frs outer) [] H3 H1 s.heap s'.heap := I1.base
  have na2 : (L2.upd H1 cb (CelO cb v1)) ca = none := (upd_ne nab).trans na1
  have B2 := un_new (u := CelO ca v0) (un_new (u := CelO cb v1) B nb1 gb) na2 ga
  have hk2 := hok_put na2 ra ia (hok_put nb1 rb ib I1.hok)
  have ex2 : ∀ b o, H1 b = some o → (L2.upd (L2.upd H1 cb (CelO cb v1)) ca (CelO ca v0)) b = some o := fun b o e => (upd_ne (ne_of_none e na1)).trans ((upd_ne (ne_of_none e nb1)).trans e)
  have fin : ∀ (c1 c2 : Addr) (w1 w2 : V), (c1 = ca ∧ c2 = cb ∧ w1 = v0 ∧ w2 = v1) ∨ (c1 = cb ∧ c2 = ca ∧ w1 = v1 ∧ w2 = v0) → (L2.upd (L2.upd H1 cb (CelO cb v1)) ca (CelO ca v0)) c1 = some (CelO c1 w1) ∧ (L2.upd (L2.upd H1 cb (CelO cb v1)) ca (CelO ca v0)) c2 = some (CelO c2 w2) ∧ c1 ≠ c2 ∧ H3 c1 = none ∧ H3 c2 = none := fun c1 c2 w1 w2 h => by
    rcases h with ⟨rfl, rfl, rfl, rfl⟩ | ⟨rfl, rfl, rfl, rfl⟩
    · exact ⟨upd_same, (upd_ne nab.symm).trans upd_same, nab, nN _ na1, nN _ nb1⟩
    · exact ⟨(upd_ne nab.symm).trans upd_same, upd_same, nab.symm, nN _ nb1, nN _ na1⟩
  obtain ⟨c1, c2, hc1, hc2, hor⟩ : ∃ c1 c2, (cxOf CX0 P w K mg base [ya, yb] x (defScope st) f0 (.ref c) A outer s H3 E).env.cells.lookup y1 = some c1 ∧ (cxOf CX0 P w K mg base [ya, yb] x (defScope st) f0 (.ref c) A outer s H3 E).env.cells.lookup y2 = some c2 ∧ ((c1 = ca ∧ c2 = cb ∧ (if sw then v1 else v0) = v0 ∧ (if sw then v0 else v1) = v1) ∨ (c1 = cb ∧ c2 = ca ∧ (if sw then v1 else v0) = v1 ∧ (if sw then v0 else v1) = v0)) := by
    cases sw with
    | true =>
      rw [if_pos rfl] at hsw
      exact ⟨cb, ca, by rw [hsw.1]; exact hcb, by rw [hsw.2]; exact hca, .inr ⟨rfl, rfl, rfl, rfl⟩⟩
    | false =>
      rw [if_neg (by decide)] at hsw
      exact ⟨ca, cb, by rw [hsw.1]; exact hca, by rw [hsw.2]; exact hcb, .inl ⟨rfl, rfl, rfl, rfl⟩⟩
  obtain ⟨f1, f2, f3, f4, f5⟩ := fin c1 c2 _ _ hor
  refine ⟨.ref f, _, I1.os, I1.bare, B2, hk2, rfl, q f c' c1 c2 _ (fun b o e n => ex2 b o (eN b o e n)) (fun b e => nN b (upd_none (upd_none e))) (T1.ext ex2) nf f4 f5 f3 ?_ (ex2 _ _ hco) f1 f2⟩
  rw [ex2 _ _ hf]
  have z : cloFrom (cxOf CX0 P w K mg base [ya, yb] x (defScope st) f0 (.ref c) A outer s H3 E).env.cells ls.names [] = [(y1, c1), (y2, c2)] := by
    rw [hclo, hc1, hc2]
    rfl
  rw [z]
  rfl
end
end MM
namespace MM
open PySem PySem.Spec PyProof.Rows L2
/-- the text by places -/
def top (i : Nat) : Stmt := PySem.Challenge.pw_meanmoon_k47_whole_years_between_new_yea.main.body.getD i (.Pass ⟨0, 0, 0, 0⟩)
abbrev s__wall : Stmt := top 0
theorem c__wall : FnScope ["k"] ["k"] (defScope s__wall) := ⟨rfl, rfl, rfl, by decide +kernel, rfl, by decide +kernel, by decide +kernel⟩
theorem b__wall : Bd "_wall" "_wall" s__wall ["k"] := fun _ _ _ _ _ _ us hl => match us, hl with | [_], _ => rfl
abbrev s_NoShare_init : Stmt := inClass (top 2) 0
theorem c_NoShare_init : FnScope ["self", "top"] ["self", "top"] (defScope s_NoShare_init) := ⟨rfl, rfl, rfl, by decide +kernel, rfl, by decide +kernel, by decide +kernel⟩
theorem b_NoShare_init : Bd "__init__" "NoShare.__init__" s_NoShare_init ["self", "top"] := fun _ _ _ _ _ _ us hl => match us, hl with | [_, _], _ => rfl
abbrev s_NoCalendar_init : Stmt := inClass (top 3) 0
theorem c_NoCalendar_init : FnScope ["self", "why"] ["self", "why"] (defScope s_NoCalendar_init) := ⟨rfl, rfl, rfl, by decide +kernel, rfl, by decide +kernel, by decide +kernel⟩
theorem b_NoCalendar_init : Bd "__init__" "NoCalendar.__init__" s_NoCalendar_init ["self", "why"] := fun _ _ _ _ _ _ us hl => match us, hl with | [_, _], _ => rfl
abbrev s_numeral : Stmt := top 6
theorem c_numeral : FnScope ["number", "base", "rest", "signs"] ["number", "base"] (defScope s_numeral) := ⟨rfl, rfl, rfl, by decide +kernel, rfl, by decide +kernel, by decide +kernel⟩
abbrev s_Share_init : Stmt := inClass (top 8) 0
theorem c_Share_init : FnScope ["self", "top", "bottom", "common"] ["self", "top", "bottom"] (defScope s_Share_init) := ⟨rfl, rfl, rfl, by decide +kernel, rfl, by decide +kernel, by decide +kernel⟩
abbrev s_Share_eq : Stmt := inClass (top 8) 1
theorem c_Share_eq : FnScope ["self", "other"] ["self", "other"] (defScope s_Share_eq) := ⟨rfl, rfl, rfl, by decide +kernel, rfl, by decide +kernel, by decide +kernel⟩
theorem b_Share_eq : Bd "__eq__" "Share.__eq__" s_Share_eq ["self", "other"] := fun _ _ _ _ _ _ us hl => match us, hl with | [_, _], _ => rfl
abbrev s_Share_str : Stmt := inClass (top 8) 2
theorem c_Share_str : FnScope ["self"] ["self"] (defScope s_Share_str) := ⟨rfl, rfl, rfl, by decide +kernel, rfl, by decide +kernel, by decide +kernel⟩
theorem b_Share_str : Bd "__str__" "Share.__str__" s_Share_str ["self"] := fun _ _ _ _ _ _ us hl => match us, hl with | [_], _ => rfl
abbrev s_Share_repr : Stmt := inClass (top 8) 3
theorem c_Share_repr : FnScope ["self"] ["self"] (defScope s_Share_repr) := ⟨rfl, rfl, rfl, by decide +kernel, rfl, by decide +kernel, by decide +kernel⟩
theorem b_Share_repr : Bd "__repr__" "Share.__repr__" s_Share_repr ["self"] := fun _ _ _ _ _ _ us hl => match us, hl with | [_], _ => rfl
abbrev s_common_divisor : Stmt := top 9
theorem c_common_divisor : FnScope ["one", "two"] ["one", "two"] (defScope s_common_divisor) := ⟨rfl, rfl, rfl, by decide +kernel, rfl, by decide +kernel, by decide +kernel⟩
theorem b_common_divisor : Bd "common_divisor" "common_divisor" s_common_divisor ["one", "two"] := fun _ _ _ _ _ _ us hl => match us, hl with | [_, _], _ => rfl
abbrev s_as_share : Stmt := top 10
theorem c_as_share : FnScope ["number"] ["number"] (defScope s_as_share) := ⟨rfl, rfl, rfl, by decide +kernel, rfl, by decide +kernel, by decide +kernel⟩
theorem b_as_share : Bd "as_share" "as_share" s_as_share ["number"] := fun _ _ _ _ _ _ us hl => match us, hl with | [_], _ => rfl
abbrev s_plus : Stmt := top 11
theorem c_plus : FnScope ["one", "two", "first", "second"] ["one", "two"] (defScope s_plus) := ⟨rfl, rfl, rfl, by decide +kernel, rfl, by decide +kernel, by decide +kernel⟩
theorem b_plus : Bd "plus" "plus" s_plus ["one", "two"] := fun _ _ _ _ _ _ us hl => match us, hl with | [_, _], _ => rfl
abbrev s_minus : Stmt := top 12
theorem c_minus : FnScope ["one", "two", "first", "second"] ["one", "two"] (defScope s_minus) := ⟨rfl, rfl, rfl, by decide +kernel, rfl, by decide +kernel, by decide +kernel⟩
theorem b_minus : Bd "minus" "minus" s_minus ["one", "two"] := fun _ _ _ _ _ _ us hl => match us, hl with | [_, _], _ => rfl
abbrev s_times : Stmt := top 13
theorem c_times : FnScope ["one", "two", "first", "second"] ["one", "two"] (defScope s_times) := ⟨rfl, rfl, rfl, by decide +kernel, rfl, by decide +kernel, by decide +kernel⟩
theorem b_times : Bd "times" "times" s_times ["one", "two"] := fun _ _ _ _ _ _ us hl => match us, hl with | [_, _], _ => rfl
abbrev s_over : Stmt := top 14
theorem c_over : FnScope ["one", "two", "first", "second"] ["one", "two"] (defScope s_over) := ⟨rfl, rfl, rfl, by decide +kernel, rfl, by decide +kernel, by decide +kernel⟩
theorem b_over : Bd "over" "over" s_over ["one", "two"] := fun _ _ _ _ _ _ us hl => match us, hl with | [_, _], _ => rfl
abbrev s_before : Stmt := top 15
theorem c_before : FnScope ["one", "two", "first", "second"] ["one", "two"] (defScope s_before) := ⟨rfl, rfl, rfl, by decide +kernel, rfl, by decide +kernel, by decide +kernel⟩
theorem b_before : Bd "before" "before" s_before ["one", "two"] := fun _ _ _ _ _ _ us hl => match us, hl with | [_, _], _ => rfl
abbrev s_whole : Stmt := top 16
theorem c_whole : FnScope ["share", "number"] ["share"] (defScope s_whole) := ⟨rfl, rfl, rfl, by decide +kernel, rfl, by decide +kernel, by decide +kernel⟩
theorem b_whole : Bd "whole" "whole" s_whole ["share"] := fun _ _ _ _ _ _ us hl => match us, hl with | [_], _ => rfl
abbrev s_rounded_up : Stmt := top 17
theorem c_rounded_up : FnScope ["share", "number"] ["share"] (defScope s_rounded_up) := ⟨rfl, rfl, rfl, by decide +kernel, rfl, by decide +kernel, by decide +kernel⟩
theorem b_rounded_up : Bd "rounded_up" "rounded_up" s_rounded_up ["share"] := fun _ _ _ _ _ _ us hl => match us, hl with | [_], _ => rfl
abbrev s_Calendar_init : Stmt := inClass (top 20) 0
theorem c_Calendar_init : FnScope ["self", "month", "year", "moon", "mark"] ["self", "month", "year", "moon", "mark"] (defScope s_Calendar_init) := ⟨rfl, rfl, rfl, by decide +kernel, rfl, by decide +kernel, by decide +kernel⟩
abbrev s_Calendar_start : Stmt := inClass (top 20) 1
theorem c_Calendar_start : FnScope ["self", "k"] ["self", "k"] (defScope s_Calendar_start) := ⟨rfl, rfl, rfl, by decide +kernel, rfl, by decide +kernel, by decide +kernel⟩
theorem b_Calendar_start : Bd "start" "Calendar.start" s_Calendar_start ["self", "k"] := fun _ _ _ _ _ _ us hl => match us, hl with | [_, _], _ => rfl
abbrev s_Calendar_month_at : Stmt := inClass (top 20) 2
theorem c_Calendar_month_at : FnScope ["self", "day"] ["self", "day"] (defScope s_Calendar_month_at) := ⟨rfl, rfl, rfl, by decide +kernel, rfl, by decide +kernel, by decide +kernel⟩
theorem b_Calendar_month_at : Bd "month_at" "Calendar.month_at" s_Calendar_month_at ["self", "day"] := fun _ _ _ _ _ _ us hl => match us, hl with | [_, _], _ => rfl
abbrev s_Calendar_mark_day : Stmt := inClass (top 20) 3
theorem c_Calendar_mark_day : FnScope ["self", "j"] ["self", "j"] (defScope s_Calendar_mark_day) := ⟨rfl, rfl, rfl, by decide +kernel, rfl, by decide +kernel, by decide +kernel⟩
theorem b_Calendar_mark_day : Bd "mark_day" "Calendar.mark_day" s_Calendar_mark_day ["self", "j"] := fun _ _ _ _ _ _ us hl => match us, hl with | [_, _], _ => rfl
abbrev s_Calendar_month_with : Stmt := inClass (top 20) 4
theorem c_Calendar_month_with : FnScope ["self", "j"] ["self", "j"] (defScope s_Calendar_month_with) := ⟨rfl, rfl, rfl, by decide +kernel, rfl, by decide +kernel, by decide +kernel⟩
theorem b_Calendar_month_with : Bd "month_with" "Calendar.month_with" s_Calendar_month_with ["self", "j"] := fun _ _ _ _ _ _ us hl => match us, hl with | [_, _], _ => rfl
abbrev s_Calendar_mark_in : Stmt := inClass (top 20) 5
theorem c_Calendar_mark_in : FnScope ["self", "k", "j"] ["self", "k"] (defScope s_Calendar_mark_in) := ⟨rfl, rfl, rfl, by decide +kernel, rfl, by decide +kernel, by decide +kernel⟩
theorem b_Calendar_mark_in : Bd "mark_in" "Calendar.mark_in" s_Calendar_mark_in ["self", "k"] := fun _ _ _ _ _ _ us hl => match us, hl with | [_, _], _ => rfl
abbrev s_Calendar_name_of : Stmt := inClass (top 20) 6
theorem c_Calendar_name_of : FnScope ["self", "k", "j", "odd"] ["self", "k"] (defScope s_Calendar_name_of) := ⟨rfl, rfl, rfl, by decide +kernel, rfl, by decide +kernel, by decide +kernel⟩
theorem b_Calendar_name_of : Bd "name_of" "Calendar.name_of" s_Calendar_name_of ["self", "k"] := fun _ _ _ _ _ _ us hl => match us, hl with | [_, _], _ => rfl
abbrev s_Calendar_eq : Stmt := inClass (top 20) 7
theorem c_Calendar_eq : FnScope ["self", "other"] ["self", "other"] (defScope s_Calendar_eq) := ⟨rfl, rfl, rfl, by decide +kernel, rfl, by decide +kernel, by decide +kernel⟩
theorem b_Calendar_eq : Bd "__eq__" "Calendar.__eq__" s_Calendar_eq ["self", "other"] := fun _ _ _ _ _ _ us hl => match us, hl with | [_, _], _ => rfl
abbrev s_Calendar_str : Stmt := inClass (top 20) 8
theorem c_Calendar_str : FnScope ["self"] ["self"] (defScope s_Calendar_str) := ⟨rfl, rfl, rfl, by decide +kernel, rfl, by decide +kernel, by decide +kernel⟩
theorem b_Calendar_str : Bd "__str__" "Calendar.__str__" s_Calendar_str ["self"] := fun _ _ _ _ _ _ us hl => match us, hl with | [_], _ => rfl
abbrev s_Calendar_repr : Stmt := inClass (top 20) 9
theorem c_Calendar_repr : FnScope ["self"] ["self"] (defScope s_Calendar_repr) := ⟨rfl, rfl, rfl, by decide +kernel, rfl, by decide +kernel, by decide +kernel⟩
theorem b_Calendar_repr : Bd "__repr__" "Calendar.__repr__" s_Calendar_repr ["self"] := fun _ _ _ _ _ _ us hl => match us, hl with | [_], _ => rfl
abbrev s_refuse_unfit : Stmt := top 21
theorem c_refuse_unfit : FnScope ["month", "year"] ["month", "year"] (defScope s_refuse_unfit) := ⟨rfl, rfl, rfl, by decide +kernel, rfl, by decide +kernel, by decide +kernel⟩
theorem b_refuse_unfit : Bd "refuse_unfit" "refuse_unfit" s_refuse_unfit ["month", "year"] := fun _ _ _ _ _ _ us hl => match us, hl with | [_, _], _ => rfl
abbrev s_moment_or_nought : Stmt := top 22
theorem c_moment_or_nought : FnScope ["moment"] ["moment"] (defScope s_moment_or_nought) := ⟨rfl, rfl, rfl, by decide +kernel, rfl, by decide +kernel, by decide +kernel⟩
theorem b_moment_or_nought : Bd "moment_or_nought" "moment_or_nought" s_moment_or_nought ["moment"] := fun _ _ _ _ _ _ us hl => match us, hl with | [_], _ => rfl
abbrev s_twelfth : Stmt := top 23
theorem c_twelfth : FnScope ["year"] ["year"] (defScope s_twelfth) := ⟨rfl, rfl, rfl, by decide +kernel, rfl, by decide +kernel, by decide +kernel⟩
theorem b_twelfth : Bd "twelfth" "twelfth" s_twelfth ["year"] := fun _ _ _ _ _ _ us hl => match us, hl with | [_], _ => rfl
abbrev s_nth_day : Stmt := top 24
theorem c_nth_day : FnScope ["first", "step", "n"] ["first", "step", "n"] (defScope s_nth_day) := ⟨rfl, rfl, rfl, by decide +kernel, rfl, by decide +kernel, by decide +kernel⟩
theorem b_nth_day : Bd "nth_day" "nth_day" s_nth_day ["first", "step", "n"] := fun _ _ _ _ _ _ us hl => match us, hl with | [_, _, _], _ => rfl
abbrev s_first_from : Stmt := top 25
theorem c_first_from : FnScope ["first", "step", "day"] ["first", "step", "day"] (defScope s_first_from) := ⟨rfl, rfl, rfl, by decide +kernel, rfl, by decide +kernel, by decide +kernel⟩
theorem b_first_from : Bd "first_from" "first_from" s_first_from ["first", "step", "day"] := fun _ _ _ _ _ _ us hl => match us, hl with | [_, _, _], _ => rfl
abbrev s_kept_form : Stmt := top 26
theorem c_kept_form : FnScope ["calendar", "month", "moon", "first_moon", "mark"] ["calendar"] (defScope s_kept_form) := ⟨rfl, rfl, rfl, by decide +kernel, rfl, by decide +kernel, by decide +kernel⟩
theorem b_kept_form : Bd "kept_form" "kept_form" s_kept_form ["calendar"] := fun _ _ _ _ _ _ us hl => match us, hl with | [_], _ => rfl
abbrev s_least_alike : Stmt := top 27
theorem c_least_alike : FnScope ["first", "step"] ["first", "step"] (defScope s_least_alike) := ⟨rfl, rfl, rfl, by decide +kernel, rfl, by decide +kernel, by decide +kernel⟩
theorem b_least_alike : Bd "least_alike" "least_alike" s_least_alike ["first", "step"] := fun _ _ _ _ _ _ us hl => match us, hl with | [_, _], _ => rfl
abbrev s_Date_init : Stmt := inClass (top 29) 0
theorem c_Date_init : FnScope ["self", "year", "number", "day", "odd"] ["self", "year", "number", "day", "odd"] (defScope s_Date_init) := ⟨rfl, rfl, rfl, by decide +kernel, rfl, by decide +kernel, by decide +kernel⟩
abbrev s_Date_eq : Stmt := inClass (top 29) 1
theorem c_Date_eq : FnScope ["self", "other"] ["self", "other"] (defScope s_Date_eq) := ⟨rfl, rfl, rfl, by decide +kernel, rfl, by decide +kernel, by decide +kernel⟩
theorem b_Date_eq : Bd "__eq__" "Date.__eq__" s_Date_eq ["self", "other"] := fun _ _ _ _ _ _ us hl => match us, hl with | [_, _], _ => rfl
abbrev s_Date_str : Stmt := inClass (top 29) 2
theorem c_Date_str : FnScope ["self"] ["self"] (defScope s_Date_str) := ⟨rfl, rfl, rfl, by decide +kernel, rfl, by decide +kernel, by decide +kernel⟩
theorem b_Date_str : Bd "__str__" "Date.__str__" s_Date_str ["self"] := fun _ _ _ _ _ _ us hl => match us, hl with | [_], _ => rfl
abbrev s_Date_repr : Stmt := inClass (top 29) 3
theorem c_Date_repr : FnScope ["self"] ["self"] (defScope s_Date_repr) := ⟨rfl, rfl, rfl, by decide +kernel, rfl, by decide +kernel, by decide +kernel⟩
theorem b_Date_repr : Bd "__repr__" "Date.__repr__" s_Date_repr ["self"] := fun _ _ _ _ _ _ us hl => match us, hl with | [_], _ => rfl
abbrev s_two_figures : Stmt := top 30
theorem c_two_figures : FnScope ["number"] ["number"] (defScope s_two_figures) := ⟨rfl, rfl, rfl, by decide +kernel, rfl, by decide +kernel, by decide +kernel⟩
theorem b_two_figures : Bd "two_figures" "two_figures" s_two_figures ["number"] := fun _ _ _ _ _ _ us hl => match us, hl with | [_], _ => rfl
abbrev s_odd_sign : Stmt := top 31
theorem c_odd_sign : FnScope ["odd"] ["odd"] (defScope s_odd_sign) := ⟨rfl, rfl, rfl, by decide +kernel, rfl, by decide +kernel, by decide +kernel⟩
theorem b_odd_sign : Bd "odd_sign" "odd_sign" s_odd_sign ["odd"] := fun _ _ _ _ _ _ us hl => match us, hl with | [_], _ => rfl
abbrev s_plain_month : Stmt := top 32
theorem c_plain_month : FnScope ["calendar", "year", "number"] ["calendar", "year", "number"] (defScope s_plain_month) := ⟨rfl, rfl, rfl, by decide +kernel, rfl, by decide +kernel, by decide +kernel⟩
theorem b_plain_month : Bd "plain_month" "plain_month" s_plain_month ["calendar", "year", "number"] := fun _ _ _ _ _ _ us hl => match us, hl with | [_, _, _], _ => rfl
abbrev s_date_of : Stmt := top 33
theorem c_date_of : FnScope ["calendar", "day", "k", "year", "number", "odd"] ["calendar", "day"] (defScope s_date_of) := ⟨rfl, rfl, rfl, by decide +kernel, rfl, by decide +kernel, by decide +kernel⟩
theorem b_date_of : Bd "date_of" "date_of" s_date_of ["calendar", "day"] := fun _ _ _ _ _ _ us hl => match us, hl with | [_, _], _ => rfl
abbrev s_first_day : Stmt := top 35
theorem c_first_day : FnScope ["calendar", "year"] ["calendar", "year"] (defScope s_first_day) := ⟨rfl, rfl, rfl, by decide +kernel, rfl, by decide +kernel, by decide +kernel⟩
theorem b_first_day : Bd "first_day" "first_day" s_first_day ["calendar", "year"] := fun _ _ _ _ _ _ us hl => match us, hl with | [_, _], _ => rfl
abbrev s_year_with : Stmt := top 36
theorem c_year_with : FnScope ["calendar", "day"] ["calendar", "day"] (defScope s_year_with) := ⟨rfl, rfl, rfl, by decide +kernel, rfl, by decide +kernel, by decide +kernel⟩
theorem b_year_with : Bd "year_with" "year_with" s_year_with ["calendar", "day"] := fun _ _ _ _ _ _ us hl => match us, hl with | [_, _], _ => rfl
abbrev s_Shifted_init : Stmt := inClass (top 38) 0
theorem c_Shifted_init : FnScope ["self", "calendar", "rules"] ["self", "calendar", "rules"] (defScope s_Shifted_init) := ⟨rfl, rfl, rfl, by decide +kernel, rfl, by decide +kernel, by decide +kernel⟩
theorem b_Shifted_init : Bd "__init__" "Shifted.__init__" s_Shifted_init ["self", "calendar", "rules"] := fun _ _ _ _ _ _ us hl => match us, hl with | [_, _, _], _ => rfl
abbrev s_Shifted_new_year : Stmt := inClass (top 38) 1
theorem c_Shifted_new_year : FnScope ["self", "year", "day", "rule"] ["self", "year"] (defScope s_Shifted_new_year) := ⟨rfl, rfl, rfl, by decide +kernel, rfl, by decide +kernel, by decide +kernel⟩
theorem b_Shifted_new_year : Bd "new_year" "Shifted.new_year" s_Shifted_new_year ["self", "year"] := fun _ _ _ _ _ _ us hl => match us, hl with | [_, _], _ => rfl
abbrev s_Shifted_length_of : Stmt := inClass (top 38) 2
theorem c_Shifted_length_of : FnScope ["self", "year"] ["self", "year"] (defScope s_Shifted_length_of) := ⟨rfl, rfl, rfl, by decide +kernel, rfl, by decide +kernel, by decide +kernel⟩
theorem b_Shifted_length_of : Bd "length_of" "Shifted.length_of" s_Shifted_length_of ["self", "year"] := fun _ _ _ _ _ _ us hl => match us, hl with | [_, _], _ => rfl
abbrev s_Shifted_year_at : Stmt := inClass (top 38) 3
theorem c_Shifted_year_at : FnScope ["self", "day", "year"] ["self", "day"] (defScope s_Shifted_year_at) := ⟨rfl, rfl, rfl, by decide +kernel, rfl, by decide +kernel, by decide +kernel⟩
theorem b_Shifted_year_at : Bd "year_at" "Shifted.year_at" s_Shifted_year_at ["self", "day"] := fun _ _ _ _ _ _ us hl => match us, hl with | [_, _], _ => rfl
abbrev s_Shifted_comes : Stmt := inClass (top 38) 4
theorem c_Shifted_comes : FnScope ["self", "first", "many"] ["self", "first", "many"] (defScope s_Shifted_comes) := ⟨rfl, rfl, rfl, by decide +kernel, rfl, by decide +kernel, by decide +kernel⟩
theorem b_Shifted_comes : Bd "comes" "Shifted.comes" s_Shifted_comes ["self", "first", "many"] := fun _ _ _ _ _ _ us hl => match us, hl with | [_, _, _], _ => rfl
abbrev s_l_draws : Stmt := top 40
theorem c_l_draws : FnScope ["_law_cell", "_law_cut", "_law_k"] ["_law_cell"] (defScope s_l_draws) := ⟨rfl, rfl, rfl, by decide +kernel, rfl, by decide +kernel, by decide +kernel⟩
theorem b_l_draws : Bd "_law_draws" "_law_draws" s_l_draws ["_law_cell"] := fun _ _ _ _ _ _ us hl => match us, hl with | [_], _ => rfl
abbrev s_l_next : Stmt := top 41
theorem c_l_next : FnScope ["_law_draws_here", "_law_k", "_law_number"] ["_law_draws_here"] (defScope s_l_next) := ⟨rfl, rfl, rfl, by decide +kernel, rfl, by decide +kernel, by decide +kernel⟩
theorem b_l_next : Bd "_law_next" "_law_next" s_l_next ["_law_draws_here"] := fun _ _ _ _ _ _ us hl => match us, hl with | [_], _ => rfl
abbrev s_l_low : Stmt := top 42
theorem c_l_low : FnScope ["_law_top", "_law_bottom", "_law_one", "_law_two"] ["_law_top", "_law_bottom"] (defScope s_l_low) := ⟨rfl, rfl, rfl, by decide +kernel, rfl, by decide +kernel, by decide +kernel⟩
theorem b_l_low : Bd "_law_low" "_law_low" s_l_low ["_law_top", "_law_bottom"] := fun _ _ _ _ _ _ us hl => match us, hl with | [_, _], _ => rfl
abbrev s_l_plus : Stmt := top 43
theorem c_l_plus : FnScope ["_law_one", "_law_two"] ["_law_one", "_law_two"] (defScope s_l_plus) := ⟨rfl, rfl, rfl, by decide +kernel, rfl, by decide +kernel, by decide +kernel⟩
theorem b_l_plus : Bd "_law_plus" "_law_plus" s_l_plus ["_law_one", "_law_two"] := fun _ _ _ _ _ _ us hl => match us, hl with | [_, _], _ => rfl
abbrev s_l_by : Stmt := top 44
theorem c_l_by : FnScope ["_law_one", "_law_two"] ["_law_one", "_law_two"] (defScope s_l_by) := ⟨rfl, rfl, rfl, by decide +kernel, rfl, by decide +kernel, by decide +kernel⟩
theorem b_l_by : Bd "_law_by" "_law_by" s_l_by ["_law_one", "_law_two"] := fun _ _ _ _ _ _ us hl => match us, hl with | [_, _], _ => rfl
abbrev s_l_part : Stmt := top 45
theorem c_l_part : FnScope ["_law_draws_here", "_law_pick", "_law_far", "_law_bottom"] ["_law_draws_here"] (defScope s_l_part) := ⟨rfl, rfl, rfl, by decide +kernel, rfl, by decide +kernel, by decide +kernel⟩
theorem b_l_part : Bd "_law_part" "_law_part" s_l_part ["_law_draws_here"] := fun _ _ _ _ _ _ us hl => match us, hl with | [_], _ => rfl
abbrev s_l_moment : Stmt := top 46
theorem c_l_moment : FnScope ["_law_draws_here", "_law_part_here", "_law_pick", "_law_far"] ["_law_draws_here"] (defScope s_l_moment) := ⟨rfl, rfl, rfl, by decide +kernel, rfl, by decide +kernel, by decide +kernel⟩
theorem b_l_moment : Bd "_law_moment" "_law_moment" s_l_moment ["_law_draws_here"] := fun _ _ _ _ _ _ us hl => match us, hl with | [_], _ => rfl
abbrev s_l_four : Stmt := top 47
theorem c_l_four : FnScope ["_law_draws_here", "_law_pick", "_law_told", "_law_lune", "_law_sun", "_law_w", "_law_s", "_law_r"] ["_law_draws_here"] (defScope s_l_four) := ⟨rfl, rfl, rfl, by decide +kernel, rfl, by decide +kernel, by decide +kernel⟩
theorem b_l_four : Bd "_law_four" "_law_four" s_l_four ["_law_draws_here"] := fun _ _ _ _ _ _ us hl => match us, hl with | [_], _ => rfl
abbrev s_l_floor : Stmt := top 48
theorem c_l_floor : FnScope ["_law_fraction"] ["_law_fraction"] (defScope s_l_floor) := ⟨rfl, rfl, rfl, by decide +kernel, rfl, by decide +kernel, by decide +kernel⟩
theorem b_l_floor : Bd "_law_floor" "_law_floor" s_l_floor ["_law_fraction"] := fun _ _ _ _ _ _ us hl => match us, hl with | [_], _ => rfl
abbrev s_l_start : Stmt := top 49
theorem c_l_start : FnScope ["_law_four_here", "_law_k"] ["_law_four_here", "_law_k"] (defScope s_l_start) := ⟨rfl, rfl, rfl, by decide +kernel, rfl, by decide +kernel, by decide +kernel⟩
theorem b_l_start : Bd "_law_start" "_law_start" s_l_start ["_law_four_here", "_law_k"] := fun _ _ _ _ _ _ us hl => match us, hl with | [_, _], _ => rfl
abbrev s_l_day : Stmt := top 50
theorem c_l_day : FnScope ["_law_draws_here", "_law_pick", "_law_some"] ["_law_draws_here"] (defScope s_l_day) := ⟨rfl, rfl, rfl, by decide +kernel, rfl, by decide +kernel, by decide +kernel⟩
theorem b_l_day : Bd "_law_day" "_law_day" s_l_day ["_law_draws_here"] := fun _ _ _ _ _ _ us hl => match us, hl with | [_], _ => rfl
abbrev s_l_made : Stmt := top 51
theorem c_l_made : FnScope ["_law_four_here", "_law_way", "_law_lune", "_law_sun", "_law_come", "_law_begun", "_law_top", "_law_bottom"] ["_law_four_here", "_law_way"] (defScope s_l_made) := ⟨rfl, rfl, rfl, by decide +kernel, rfl, by decide +kernel, by decide +kernel⟩
theorem b_l_made : Bd "_law_made" "_law_made" s_l_made ["_law_four_here", "_law_way"] := fun _ _ _ _ _ _ us hl => match us, hl with | [_, _], _ => rfl
abbrev s_l_putting : Stmt := top 52
theorem c_l_putting : FnScope ["_law_number", "_law_by_here", "_law_some"] ["_law_number"] (defScope s_l_putting) := ⟨rfl, rfl, rfl, by decide +kernel, rfl, by decide +kernel, by decide +kernel⟩
theorem b_l_putting : Bd "_law_putting" "_law_putting" s_l_putting ["_law_number"] := fun _ _ _ _ _ _ us hl => match us, hl with | [_], _ => rfl
abbrev s_l_numbers : Stmt := top 53
theorem c_l_numbers : FnScope ["_law_draws_here", "_law_k"] ["_law_draws_here"] (defScope s_l_numbers) := ⟨rfl, rfl, rfl, by decide +kernel, rfl, by decide +kernel, by decide +kernel⟩
theorem b_l_numbers : Bd "_law_numbers" "_law_numbers" s_l_numbers ["_law_draws_here"] := fun _ _ _ _ _ _ us hl => match us, hl with | [_], _ => rfl
abbrev s_l_rule : Stmt := top 54
theorem c_l_rule : FnScope ["_law_numbers_here"] ["_law_numbers_here"] (defScope s_l_rule) := ⟨rfl, rfl, rfl, by decide +kernel, rfl, by decide +kernel, by decide +kernel⟩
theorem b_l_rule : Bd "_law_rule" "_law_rule" s_l_rule ["_law_numbers_here"] := fun _ _ _ _ _ _ us hl => match us, hl with | [_], _ => rfl
abbrev s_l_other_rule : Stmt := top 55
theorem c_l_other_rule : FnScope ["_law_numbers_here", "_law_many"] ["_law_numbers_here"] (defScope s_l_other_rule) := ⟨rfl, rfl, rfl, by decide +kernel, rfl, by decide +kernel, by decide +kernel⟩
theorem b_l_other_rule : Bd "_law_other_rule" "_law_other_rule" s_l_other_rule ["_law_numbers_here"] := fun _ _ _ _ _ _ us hl => match us, hl with | [_], _ => rfl
abbrev s_l_day_right : Stmt := top 56
theorem c_l_day_right : FnScope ["_law_shifted", "_law_a_day", "_law_at"] ["_law_shifted", "_law_a_day"] (defScope s_l_day_right) := ⟨rfl, rfl, rfl, by decide +kernel, rfl, by decide +kernel, by decide +kernel⟩
theorem b_l_day_right : Bd "_law_day_right" "_law_day_right" s_l_day_right ["_law_shifted", "_law_a_day"] := fun _ _ _ _ _ _ us hl => match us, hl with | [_, _], _ => rfl
abbrev s_l_plain_right : Stmt := top 57
theorem c_l_plain_right : FnScope ["_law_made_here", "_law_a_day", "_law_plain", "_law_at", "_law_date"] ["_law_made_here", "_law_a_day"] (defScope s_l_plain_right) := ⟨rfl, rfl, rfl, by decide +kernel, rfl, by decide +kernel, by decide +kernel⟩
theorem b_l_plain_right : Bd "_law_plain_right" "_law_plain_right" s_l_plain_right ["_law_made_here", "_law_a_day"] := fun _ _ _ _ _ _ us hl => match us, hl with | [_, _], _ => rfl
abbrev s_l_right : Stmt := top 58
theorem c_l_right : FnScope ["_law_draws_here", "_law_four_here", "_law_some", "_law_made_here", "_law_shifted", "_law_more", "_law_other", "_law_days", "_law_number", "_law_first", "_law_size", "_law_at", "_law_numbers_here", "_law_k"] ["_law_draws_here"] (defScope s_l_right) := ⟨rfl, rfl, rfl, by decide +kernel, rfl, by decide +kernel, by decide +kernel⟩
theorem b_l_right : Bd "_law_right" "_law_right" s_l_right ["_law_draws_here"] := fun _ _ _ _ _ _ us hl => match us, hl with | [_], _ => rfl
abbrev s_law : Stmt := top 59
theorem c_law : FnScope ["_law_script", "_law_cell"] ["_law_script"] (defScope s_law) := ⟨rfl, rfl, rfl, by decide +kernel, rfl, by decide +kernel, by decide +kernel⟩
theorem b_law : Bd "law" "law" s_law ["_law_script"] := fun _ _ _ _ _ _ us hl => match us, hl with | [_], _ => rfl
/-! ### the greatest common divisor -/
def spGcd : Sp := fun vs H Q _ => ∃ a b : Int, vs = [.int a, .int b] ∧ Q (.int (Int.gcd a b)) H
def mu2 (i : Nat) : L2.St → Hp → Nat := fun σ _ => match σ[i]? with
  | some (some (.int b)) => b.natAbs
  | _ => 0
theorem abs_gcd {a : Int} (c : Int) (h : Int.gcd a 0 = c) : (if a < 0 then -a else a) = c := by
  rw [Int.gcd_zero_right] at h
  split <;> omega
section
variable {P : Program} {w : World} {K : PySem.W.Frag} {mg : Str → Option Value} {base : Heap}
theorem ok_gcd (D : Df K mg "common_divisor" s_common_divisor []) (hab : mg "abs" = none) : Ca P w K mg base CX0 1 "common_divisor" s_common_divisor [] ["one", "two"] spGcd := by
  refine ca0 (k := 0) D c_common_divisor (fun vs H Q E h => ?_) fun f cdv A outer s H vs Q E hr h => ?_
  · obtain ⟨a, b, rfl, _⟩ := h
    rfl
  · obtain ⟨a, b, rfl, q⟩ := h
    refine ⟨_, pss_cons (ps_while PassesOwn.never (pt_cmpR op_ne (pv 1) pe_int (nomark _)) (pss_one (ps_par (i := 0) (j := 1) rfl c_common_divisor.nd rfl rfl (by decide) rfl rfl (pa_cons (pv 1) (pa_cons (pe_op op_modN (pv 0) (pv 1)) pa_nil)) rfl)))
      (pss_one (ps_ret (pe_callB call_abs rfl hab (by decide +kernel) (pa_cons (pv 0) pa_nil)))), ?_⟩
    refine while_by (fun σ H' => ∃ a' b' : Int, σ = [some (.int a'), some (.int b')] ∧ Int.gcd a' b' = Int.gcd a b ∧ H' = H) (mu2 1) ⟨a, b, rfl, rfl, rfl⟩ ?_ (fun σ H' R R' hq ⟨v, h1, h2, k, h3, h4⟩ => ⟨v, h1, h2, k, h3, hq _ _ h4⟩)
    rintro σ H' ⟨a', b', rfl, hg, rfl⟩
    refine ⟨_, rfl, rfl, _, rfl, ?_⟩
    by_cases hb : b' = 0
    · subst hb
      refine iteF ?_
      refine ⟨_, rfl, a', rfl, ?_⟩
      rw [abs_gcd _ (congrArg _ hg)]
      exact q
    · rw [show (!decide (V.int b' = V.int 0)) = true by simpa using hb]
      refine iteT ?_
      refine ⟨_, rfl, _, rfl, _, rfl, _, _, rfl, rfl, hb, _, _, rfl, ⟨b', a'.fmod b', rfl, ?_, rfl⟩, ?_⟩
      · rw [gcd_fmod]
        exact hg
      · exact fmod_lt a' hb
end
/-! ### lowest terms, as the law makes them -/
def spLow : Sp := fun vs H Q _ => ∃ t b : Int, vs = [.int t, .int b] ∧ b ≠ 0 ∧ Sz 8800 t ∧ Sz 8800 b ∧ ∀ p, H p = none → Q (.ref p) (upd H p (.tup [.int (Rat.divInt t b).num, .int (Rat.divInt t b).den]))
theorem gcd_sz {t b : Int} (h : b ≠ 0) (hb : Sz 8800 b) : Sz 8800 (Int.gcd t b : Int) := by
  unfold Sz
  rw [Int.natAbs_natCast]
  exact Nat.lt_of_le_of_lt (Nat.le_of_dvd (by omega) (Int.gcd_dvd_natAbs_right t b)) hb
theorem gs_sz {t b : Int} (h : b ≠ 0) (hb : Sz 8800 b) : Sz 8900 (gs t b) := by
  unfold gs
  split
  · exact (gcd_sz h hb).neg.mono (by decide)
  · exact (gcd_sz h hb).mono (by decide)
section
variable {P : Program} {w : World} {K : PySem.W.Frag} {mg : Str → Option Value} {base : Heap}
theorem ok_low (D : Df K mg "_law_low" s_l_low []) (hab : mg "abs" = none) : Ca P w K mg base CX0 1 "_law_low" s_l_low [] ["_law_top", "_law_bottom"] spLow := by
  refine ca0 (k := 0) D c_l_low (fun vs H Q E h => ?_) fun f cdv A outer s H vs Q E hr h => ?_
  · obtain ⟨t, b, rfl, _⟩ := h
    rfl
  · obtain ⟨t, b, rfl, hb, zt, zb, q⟩ := h
    refine ⟨_, pss_cons (ps_par (i := 2) (j := 3) rfl c_l_low.nd rfl rfl (by decide) rfl rfl (pa_cons (pe_callB call_abs rfl hab (by decide +kernel) (pa_cons (pv 0) pa_nil)) (pa_cons (pe_callB call_abs rfl hab (by decide +kernel) (pa_cons (pv 1) pa_nil)) pa_nil)) rfl)
      (pss_cons (ps_while PassesOwn.never (pt_cmpR op_gt (pv 3) pe_int (nomark _)) (pss_one (ps_par (i := 2) (j := 3) rfl c_l_low.nd rfl rfl (by decide) rfl rfl (pa_cons (pv 3) (pa_cons (pe_op op_mod (pv 2) (pv 3)) pa_nil)) rfl)))
      (pss_cons (ps_if (pt_cmpR op_lt (pv 1) pe_int (nomark _)) (pss_one (ps_set (i := 2) c_l_low.nd rfl (.inl rfl) (pe_op op_sub pe_int (pv 2)))) pss_nil)
      (pss_one (ps_ret (pe_tup (pa_cons (pe_op op_fdivA (pv 0) (pv 2)) (pa_cons (pe_op op_fdivA (pv 1) (pv 2)) pa_nil))))))), ?_⟩
    refine ⟨_, rfl, t, rfl, _, rfl, b, rfl, _, _, rfl, ?_⟩
    refine while_by (fun σ H' => ∃ c d : Int, σ = [some (.int t), some (.int b), some (.int c), some (.int d)] ∧ 0 ≤ c ∧ 0 ≤ d ∧ Int.gcd c d = Int.gcd t b ∧ H' = H) (mu2 3) ⟨_, _, rfl, ?_, ?_, ?_, rfl⟩ ?_ (fun σ H' R R' hq ⟨v, h1, i, j, h2, h3, k, h4, h5⟩ => ⟨v, h1, i, j, h2, h3, k, h4, hq _ _ h5⟩)
    · split <;> omega
    · split <;> omega
    · have e : ∀ x : Int, (if x < 0 then -x else x) = (x.natAbs : Int) := fun x => by split <;> omega
      rw [e, e]
      show Nat.gcd _ _ = Nat.gcd _ _
      rw [Int.natAbs_natCast, Int.natAbs_natCast]
    rintro σ H' ⟨c, d, rfl, hc, hd, hg, rfl⟩
    refine ⟨_, rfl, _, _, rfl, rfl, _, rfl, ?_⟩
    by_cases h0 : 0 < d
    · rw [decide_eq_true h0]
      refine iteT ?_
      refine ⟨_, rfl, _, rfl, _, rfl, _, _, rfl, rfl, h0, _, _, rfl, ⟨d, c % d, rfl, hd, Int.emod_nonneg _ (by omega), ?_, rfl⟩, ?_⟩
      · rw [gcd_emod']
        exact hg
      · have h1 := Int.emod_nonneg c (show d ≠ 0 by omega)
        have h2 := Int.emod_lt_of_pos c h0
        show (c % d).natAbs < d.natAbs
        omega
    · rw [decide_eq_false h0]
      refine iteF ?_
      have d0 : d = 0 := by omega
      subst d0
      have ec : c = (Int.gcd t b : Int) := by
        rw [← hg, Int.gcd_zero_right]
        omega
      subst ec
      have fin : ∀ σ' : L2.St, σ' = [some (.int t), some (.int b), some (.int (gs t b)), some (.int 0)] → (tRet (tTup (tCons (tOp (rI CDivA fun i j => .int (i.fdiv j)) (tVar 0) (tVar 2)) (tCons (tOp (rI CDivA fun i j => .int (i.fdiv j)) (tVar 1) (tVar 2)) tNil)))) { nx := fun _ H' => Q .non H', rt := Q } σ' H' := by
        rintro σ' rfl
        refine ⟨_, rfl, _, rfl, _, _, rfl, rfl, ⟨gs_ne hb, gs_sz hb zb⟩, _, rfl, _, rfl, _, _, rfl, rfl, ⟨gs_ne hb, gs_sz hb zb⟩, (by show 2 ≤ sizeLine; decide), fun p hp => ?_⟩
        have z := q p hp
        rw [← low_num hb, ← low_den hb] at z
        exact z
      refine ⟨_, rfl, _, _, rfl, rfl, _, rfl, ?_⟩
      by_cases hn : b < 0
      · rw [decide_eq_true hn]
        refine iteT ?_
        refine ⟨_, rfl, _, _, rfl, rfl, fin _ ?_⟩
        show [some (V.int t), some (V.int b), some (V.int (0 - (Int.gcd t b : Int))), some (V.int 0)] = _
        unfold gs
        rw [if_pos hn, Int.zero_sub]
      · rw [decide_eq_false hn]
        refine iteF (fin _ ?_)
        unfold gs
        rw [if_neg hn]
end
/-! ### the law's draws -/
theorem md {j : Int} (h : 0 < j := by decide) : 0 < j := h
/-- at l stand draws, of which at most n were taken -/
def Dr (H : Hp) (l : Addr) (n : Nat) : Prop := ∃ (d k : Int) (f : Bool), H l = some (.lst [.int d, .int k, .bl f]) ∧ 0 ≤ k ∧ k ≤ n
/-- all but what stands at l is as it was -/
def But (l : Addr) (H H' : Hp) : Prop := ∀ b o, b ≠ l → H b = some o → H' b = some o
theorem But.refl {l : Addr} {H : Hp} : But l H H := fun _ _ _ h => h
theorem But.trans {l : Addr} {H H1 H2 : Hp} (a : But l H H1) (b : But l H1 H2) : But l H H2 := fun c o hc h => b c o hc (a c o hc h)
theorem But.same {l : Addr} {H H1 : Hp} (a : Same H H1) : But l H H1 := fun c o _ h => a c o h
theorem But.upd {l : Addr} {H H1 : Hp} {p : Addr} {o : HO} (a : But l H H1) (h : H1 p = none) : But l H (upd H1 p o) := fun c u hc e => by
  rw [upd_ne (ne_of_none (a c u hc e) h)]
  exact a c u hc e
theorem But.tup {l p : Addr} {H H1 : Hp} {n : Nat} {xs : List V} (a : But l H H1) (d : Dr H l n) (h : H p = some (.tup xs)) : H1 p = some (.tup xs) := by
  obtain ⟨_, _, _, hl, _⟩ := d
  exact a _ _ (ne_of h hl (by intro z; cases z)) h
theorem But.ins {l p C dx : Addr} {H H1 : Hp} {n : Nat} {fs : List (Str × V)} (a : But l H H1) (d : Dr H l n) (h : H p = some (.ins C dx fs)) : H1 p = some (.ins C dx fs) := by
  obtain ⟨_, _, _, hl, _⟩ := d
  exact a _ _ (ne_of h hl (by intro z; cases z)) h
theorem Same.upd {H H1 : Hp} {p : Addr} {o : HO} (a : Same H H1) (h : H1 p = none) : Same H (upd H1 p o) := fun c u e => by
  rw [upd_ne (ne_of_none (a c u e) h)]
  exact a c u e
theorem Same.new {H : Hp} {p : Addr} {o : HO} (h : H p = none) : Same H (L2.upd H p o) := Same.upd (Same.refl H) h
theorem Dr.same {H H1 : Hp} {l : Addr} {n m : Nat} (d : Dr H l n) (s : Same H H1) (h : n ≤ m) : Dr H1 l m := by
  obtain ⟨d, k, f, hl, h1, h2⟩ := d
  exact ⟨d, k, f, s _ _ hl, h1, by omega⟩
theorem Dr.mono {H : Hp} {l : Addr} {n m : Nat} (d : Dr H l n) (h : n ≤ m) : Dr H l m := d.same (Same.refl H) h
theorem Dr.new {H : Hp} {l p : Addr} {n : Nat} {o : HO} (d : Dr H l n) (h : H p = none) : Dr (L2.upd H p o) l n := d.same (Same.new h) (Nat.le_refl _)
def spDraws : Sp := fun vs H Q _ => ∃ c : Int, vs = [.int c] ∧ ∀ p H', H p = none → Same H H' → Dr H' p 0 → Q (.ref p) H'
def spNext : Sp := fun vs H Q _ => ∃ (l : Addr) (n : Nat), vs = [.ref l] ∧ Dr H l n ∧ n ≤ 1000000 ∧ ∀ v H', 0 ≤ v → v < 306783369 → But l H H' → Dr H' l (n + 1) → Q (.int v) H'
section
variable {P : Program} {w : World} {K : PySem.W.Frag} {mg : Str → Option Value} {base : Heap}
theorem ok_draws (D : Df K mg "_law_draws" s_l_draws []) (hra : mg "range" = none) : Ca P w K mg base CX0 1 "_law_draws" s_l_draws [] ["_law_cell"] spDraws := by
  refine ca0 (k := 0) D c_l_draws (fun vs H Q E h => ?_) fun f cdv A outer s H vs Q E hr h => ?_
  · obtain ⟨c, rfl, _⟩ := h
    rfl
  · obtain ⟨c, rfl, q⟩ := h
    refine ⟨_, pss_cons (ps_set (i := 1) c_l_draws.nd rfl (.inl rfl) (pe_op op_pow pe_int pe_int))
      (pss_cons (ps_for PassesOwn.never rfl (pi_range1 rfl hra (pa_cons pe_int pa_nil)) (pg_name (i := 2) c_l_draws.nd rfl (.inl rfl)) (pss_one (ps_set (i := 1) c_l_draws.nd rfl (.inl rfl) (pe_op op_mulA (pv 1) (pv 1)))))
      (pss_one (ps_ret (pe_lst (pa_cons (pe_op op_mod (pv 0) (pv 1)) (pa_cons pe_int (pa_cons (pe_cmpR op_ge (pv 0) (pe_op op_pow pe_int pe_int) (nomark _)) pa_nil))))))), ?_⟩
    refine ⟨_, _, rfl, rfl, ⟨by decide, by decide, by decide⟩, 7, rfl, by decide, by decide, ?_⟩
    refine for_range (n := 7) (fun i σ H' => ∃ (z : Int) (v : Option V), σ = [some (.int c), some (.int z), v] ∧ 0 < z ∧ Sz (200 * 2 ^ i) z ∧ H' = H) ⟨_, _, rfl, by decide, (by show (10 ^ 60 : Int).natAbs < 2 ^ (200 * 2 ^ 0); decide), rfl⟩ ?_ ?_
    · rintro i σ H' hi ⟨z, v, rfl, h0, hz, rfl⟩
      have l1 : 2 ^ i ≤ 2 ^ 6 := Nat.pow_le_pow_right (by decide) (by omega)
      have hz' : Sz 100000 z := hz.mono (Nat.le_trans (Nat.mul_le_mul_left 200 l1) (by decide))
      refine ⟨_, rfl, _, rfl, _, _, rfl, rfl, ⟨hz', hz'⟩, ⟨z * z, _, rfl, Int.mul_pos h0 h0, ?_, rfl⟩⟩
      exact (hz.mul hz).mono (by rw [Nat.pow_succ]; omega)
    · rintro σ H' ⟨z, v, rfl, h0, hz, rfl⟩
      refine ⟨_, rfl, _, rfl, _, _, rfl, rfl, h0, _, rfl, _, _, rfl, rfl, ⟨by decide, by decide, by decide⟩, _, _, rfl, rfl, (by show 3 ≤ sizeLine; decide), fun p hp => ?_⟩
      exact q p _ hp (Same.new hp) ⟨_, _, _, upd_same, by decide, by decide⟩
theorem ok_next (D : Df K mg "_law_next" s_l_next []) : Ca P w K mg base CX0 1 "_law_next" s_l_next [] ["_law_draws_here"] spNext := by
  refine ca0 (k := 0) D c_l_next (fun vs H Q E h => ?_) fun f cdv A outer s H vs Q E hr h => ?_
  · obtain ⟨l, n, rfl, _⟩ := h
    rfl
  · obtain ⟨l, n, rfl, ⟨d, k, fl, hl, k0, k1⟩, hn, q⟩ := h
    refine ⟨_, pss_cons (ps_asg (pe_op op_add (pe_ix ix_list (pv 0) pe_int (fun _ _ => rfl)) pe_int) (pg_sub (pv 0) pe_int set_list))
      (pss_cons (ps_set (i := 1) c_l_next.nd rfl (.inl rfl) (pe_ix ix_list (pv 0) pe_int (fun _ _ => rfl)))
      (pss_cons (ps_if (pt_val (pe_ix ix_list (pv 0) pe_int (fun _ _ => rfl)))
        (pss_cons (ps_set (i := 2) c_l_next.nd rfl (.inl rfl) (pe_op op_mod (pe_ix ix_list (pv 0) pe_int (fun _ _ => rfl)) (pe_op op_pow pe_int pe_int)))
        (pss_cons (ps_asg (pe_op op_fdiv (pe_ix ix_list (pv 0) pe_int (fun _ _ => rfl)) (pe_op op_pow pe_int pe_int)) (pg_sub (pv 0) pe_int set_list))
        (pss_one (ps_ret (pv 2))))) pss_nil)
      (pss_cons (ps_set (i := 2) c_l_next.nd rfl (.inl rfl) (pe_op op_mod (pe_op op_mul (pe_op op_add (pe_op op_add (pe_op op_mod (pe_ix ix_list (pv 0) pe_int (fun _ _ => rfl)) pe_int) (pe_op op_mul (pe_op op_mul (pv 1) (pv 1)) pe_int)) (pv 1)) pe_int) pe_int))
      (pss_cons (ps_set (i := 2) c_l_next.nd rfl (.inl rfl) (pe_op op_mod (pe_op op_mul (pv 2) (pv 2)) pe_int))
      (pss_one (ps_ret (pe_op op_fdiv (pe_op op_mod (pe_op op_mul (pv 2) (pe_op op_add (pv 2) pe_int)) pe_int) pe_int))))))), ?_⟩
    refine ⟨_, rfl, l, _, _, _, rfl, rfl, SqL.of hl, rfl, _, _, rfl, rfl, _, rfl, l, _, _, _, rfl, rfl, hl, rfl, ?_⟩
    refine ⟨_, rfl, l, _, _, _, rfl, rfl, SqL.of upd_same, rfl, ?_⟩
    refine ⟨_, rfl, l, _, _, _, rfl, rfl, SqL.of upd_same, rfl, _, rfl, ?_⟩
    cases fl with
    | true =>
      refine iteT ?_
      refine ⟨_, rfl, l, _, _, _, rfl, rfl, SqL.of upd_same, rfl, _, _, rfl, rfl, ⟨by decide, by decide, by decide⟩, _, _, rfl, rfl, md, ?_⟩
      refine ⟨_, rfl, l, _, _, _, rfl, rfl, SqL.of upd_same, rfl, _, _, rfl, rfl, ⟨by decide, by decide, by decide⟩, _, _, rfl, rfl, ⟨by decide, by decide⟩, _, rfl, l, _, _, _, rfl, rfl, upd_same, rfl, ?_⟩
      refine ⟨_, rfl, ?_⟩
      have h1 := Int.emod_nonneg d (show (1000000 : Int) ≠ 0 by decide)
      have h2 := Int.emod_lt_of_pos d (show (0 : Int) < 1000000 by decide)
      refine q (d % 1000000) _ h1 (by omega) (fun b o hb e => ?_) ⟨_, _, _, upd_same, by omega, by omega⟩
      rw [upd_ne hb, upd_ne hb]
      exact e
    | false =>
      refine iteF ?_
      have g1 := Int.emod_nonneg ((d % 1000003 + (k + 1) * (k + 1) * 7919 + (k + 1)) * 48271) (show (2147483629 : Int) ≠ 0 by decide)
      have g2 := Int.emod_lt_of_pos ((d % 1000003 + (k + 1) * (k + 1) * 7919 + (k + 1)) * 48271) (show (0 : Int) < 2147483629 by decide)
      refine ⟨_, rfl, l, _, _, _, rfl, rfl, SqL.of upd_same, rfl, _, _, rfl, rfl, md, _, rfl, _, rfl, _, _, rfl, rfl, .inl ⟨by omega, by omega⟩, _, _, rfl, rfl, .inr ⟨by decide, by decide⟩, _, _, rfl, rfl, _, rfl, _, _, rfl, rfl, _, _, rfl, rfl, .inr ⟨by decide, by decide⟩, _, _, rfl, rfl, md, ?_⟩
      refine ⟨_, rfl, _, rfl, _, _, rfl, rfl, .inl ⟨Int.lt_of_lt_of_le (by decide) g1, Int.lt_trans g2 (by decide)⟩, _, _, rfl, rfl, md, ?_⟩
      generalize hz : ((d % 1000003 + (k + 1) * (k + 1) * 7919 + (k + 1)) * 48271 % 2147483629) * ((d % 1000003 + (k + 1) * (k + 1) * 7919 + (k + 1)) * 48271 % 2147483629) = z
      have i1 := Int.emod_nonneg z (show (2147483587 : Int) ≠ 0 by decide)
      have i2 := Int.emod_lt_of_pos z (show (0 : Int) < 2147483587 by decide)
      refine ⟨_, rfl, _, rfl, _, _, rfl, rfl, _, _, rfl, rfl, .inl ⟨Int.lt_of_lt_of_le (by decide) i1, Int.lt_trans i2 (by decide)⟩, _, _, rfl, rfl, md, _, _, rfl, rfl, ⟨by decide, by decide⟩, ?_⟩
      have j1 := Int.emod_nonneg (z % 2147483587 * (z % 2147483587 + 2)) (show (2147483579 : Int) ≠ 0 by decide)
      have j2 := Int.emod_lt_of_pos (z % 2147483587 * (z % 2147483587 + 2)) (show (0 : Int) < 2147483579 by decide)
      refine q (z % 2147483587 * (z % 2147483587 + 2) % 2147483579 / 7) _ (by omega) (by omega) (fun b o hb e => ?_) ⟨_, _, _, upd_same, by omega, by omega⟩
      rw [upd_ne hb]
      exact e
end
/-! ### Share -/
def sf (t b : Int) : List (Str × V) := putF "bottom" (.int b) (putF "top" (.int t) [])
theorem tb_ : ¬ (("top" : Str) = "bottom") := by decide +kernel
theorem sf_eq (t b : Int) : sf t b = ([("top", V.int t), ("bottom", V.int b)] : List (Str × V)) := by
  show (if ("top" : Str) = "bottom" then [(("top" : Str), V.int b)] else (("top" : Str), V.int t) :: putF "bottom" (V.int b) []) = _
  rw [if_neg tb_]
  rfl
theorem sf_top (t b : Int) : (sf t b).lookup ("top" : Str) = some (.int t) := by
  unfold sf
  rw [lookup_putF, if_neg tb_, lookup_putF, if_pos rfl]
theorem sf_bottom (t b : Int) : (sf t b).lookup ("bottom" : Str) = some (.int b) := by
  unfold sf
  rw [lookup_putF, if_pos rfl]
/-- what the top says of the class -/
structure ShT (K : PySem.W.Frag) (C : Addr) : Prop where
  cl : Cls K C
  nT : NoAttr K C "top"
  nB : NoAttr K C "bottom"
/-- at p a Share of q -/
def Sh (C : Addr) (H : Hp) (p : Addr) (q : Rat) : Prop := ∃ dx, H p = some (.ins C dx (sf q.num q.den))
theorem Sh.same {C p : Addr} {H H1 : Hp} {q : Rat} (h : Sh C H p q) (s : Same H H1) : Sh C H1 p q := by
  obtain ⟨dx, e⟩ := h
  exact ⟨dx, s _ _ e⟩
/-- Share's __init__, with no bottom of 0 -/
def spShI (C : Addr) : Sp := fun vs H Q _ => ∃ (p dx : Addr) (t b : Int), vs = [.ref p, .int t, .int b] ∧ H p = some (.ins C dx []) ∧ b ≠ 0 ∧ Sz 8800 t ∧ Sz 8800 b ∧
  Q .non (upd H p (.ins C dx (sf (Rat.divInt t b).num (Rat.divInt t b).den)))
section
variable {P : Program} {w : World} {K : PySem.W.Frag} {mg : Str → Option Value} {base : Heap} {C : Addr}
theorem ok_shI (D : Di K mg "Share" C "Share.__init__" s_Share_init [.int 1]) (T : ShT K C) (g : Ca P w K mg base CX0 1 "common_divisor" s_common_divisor [] ["one", "two"] spGcd) : Ci P w K mg base CX0 2 "Share" C "Share.__init__" s_Share_init [.int 1] ["self", "top", "bottom"] (spShI C) := by
  refine ci0 (k := 1) D c_Share_init (fun vs H Q E h => ?_) fun f cdv A outer s H vs Q E hr h => ?_
  · obtain ⟨p, dx, t, b, rfl, _⟩ := h
    rfl
  · obtain ⟨p, dx, t, b, rfl, hp, hb, zt, zb, q⟩ := h
    refine ⟨_, pss_cons (ps_if (pt_cmpR op_eq (pv 2) pe_int (nomark _)) (pss_one ps_never) pss_nil)
      (pss_cons (ps_set (i := 3) c_Share_init.nd rfl (.inl rfl) (pe_ca g b_common_divisor hr (by decide) pass0 rfl (pa_cons (pv 1) (pa_cons (pv 2) pa_nil))))
      (pss_cons (ps_if (pt_cmpR op_lt (pv 2) pe_int (nomark _)) (pss_one (ps_set (i := 3) c_Share_init.nd rfl (.inl rfl) (pe_un un_neg (pv 3)))) pss_nil)
      (pss_cons (ps_fld (pv 0) (pe_op op_fdivA (pv 1) (pv 3)) rfl) (pss_one (ps_fld (pv 0) (pe_op op_fdivA (pv 2) (pv 3)) rfl))))), ?_⟩
    refine ⟨_, rfl, rfl, _, rfl, ?_⟩
    rw [decide_eq_false (show ¬ V.int b = V.int 0 from fun z => hb (V.int.inj z))]
    refine iteF ?_
    refine ⟨_, rfl, _, rfl, t, b, rfl, ?_⟩
    have fin : ∀ σ' : L2.St, σ' = [some (.ref p), some (.int t), some (.int b), some (.int (gs t b))] →
        tSeq (sFld K (tVar 0) (tOp (rI CDivA fun i j => .int (i.fdiv j)) (tVar 1) (tVar 3)) "top") (sFld K (tVar 0) (tOp (rI CDivA fun i j => .int (i.fdiv j)) (tVar 2) (tVar 3)) "bottom") { nx := fun _ H' => Q .non H', rt := Q } σ' H := by
      rintro σ' rfl
      refine ⟨_, rfl, _, rfl, _, _, rfl, rfl, ⟨gs_ne hb, gs_sz hb zb⟩, _, rfl, p, C, dx, _, rfl, hp, T.cl, T.nT, (by show 0 < 1000; decide), ?_⟩
      refine ⟨_, rfl, _, rfl, _, _, rfl, rfl, ⟨gs_ne hb, gs_sz hb zb⟩, _, rfl, p, C, dx, _, rfl, upd_same, T.cl, T.nB, (by show 1 < 1000; decide), ?_⟩
      rw [upd_upd]
      rw [← low_num hb, ← low_den hb] at q
      exact q
    refine ⟨_, rfl, _, _, rfl, rfl, _, rfl, ?_⟩
    by_cases hn : b < 0
    · rw [decide_eq_true hn]
      refine iteT ?_
      refine ⟨_, rfl, _, rfl, fin _ ?_⟩
      unfold gs
      rw [if_pos hn]
      rfl
    · rw [decide_eq_false hn]
      refine iteF (fin _ ?_)
      unfold gs
      rw [if_neg hn]
      rfl
theorem bd_Share2 : Bd1 "__init__" "Share.__init__" s_Share_init ["self", "top", "bottom"] 3 1 1 := fun _ _ _ _ _ _ _ us its hu hi => match us, hu, its, hi with | [_, _, _], _, [_], _ => ⟨_, rfl, rfl⟩
theorem bd_Share1 : Bd1 "__init__" "Share.__init__" s_Share_init ["self", "top", "bottom"] 2 0 1 := fun _ _ _ _ _ _ _ us its hu hi => match us, hu, its, hi with | [_, _], _, [_], _ => ⟨_, rfl, rfl⟩
end
/-- a new Share, read as its maker's caller wants it -/
theorem made_sh {C : Addr} {H : Hp} {R : Addr → Hp → Prop} {E : XK} {t b : Int} (hb : b ≠ 0) (zt : Sz 8800 t) (zb : Sz 8800 b) (h : ∀ p H', H p = none → Same H H' → Sh C H' p (Rat.divInt t b) → R p H') :
    ∀ x dx, H x = none → H dx = none → dx ≠ x → spShI C [.ref x, .int t, .int b] (upd (upd H dx (.own x)) x (.ins C dx [])) (fun v H2 => v = .non ∧ R x H2) E := by
  intro x dx hx hd ne
  refine ⟨x, dx, t, b, rfl, upd_same, hb, zt, zb, rfl, ?_⟩
  rw [upd_upd]
  refine h x _ hx (Same.upd (Same.new hd) ?_) ⟨dx, upd_same⟩
  rw [upd_ne ne.symm]
  exact hx
/-! ### the module's functions over Shares and whole numbers -/
structure ShX (K : PySem.W.Frag) (C : Addr) : Prop extends ShT K C where
  ty : ∀ (H : Hp) (a dx : Addr) (fs : List (Str × V)), H a = some (.ins C dx fs) → TyX K H (.ref a) (.ref C)
  nInt : PySem.W.kitOne K (.type "int") (.ref C) = some false
theorem kit_self {K : PySem.W.Frag} {C : Addr} : PySem.W.kitOne K (.ref C) (.ref C) = some true := by
  unfold PySem.W.kitOne
  rw [if_pos (by simp)]
/-- v stands for q: a whole number, or a Share -/
def Rv (C : Addr) (H : Hp) (v : V) (q : Rat) : Prop := (∃ i : Int, v = .int i ∧ q = (i : Rat)) ∨ ∃ p, v = .ref p ∧ Sh C H p q
theorem Rv.same {C : Addr} {H H1 : Hp} {v : V} {q : Rat} (h : Rv C H v q) (s : Same H H1) : Rv C H1 v q := by
  rcases h with h | ⟨p, e, h⟩
  · exact .inl h
  · exact .inr ⟨p, e, h.same s⟩
theorem Rv.int {C : Addr} {H : Hp} {i : Int} : Rv C H (.int i) (i : Rat) := .inl ⟨i, rfl, rfl⟩
theorem Sh.rv {C p : Addr} {H : Hp} {q : Rat} (h : Sh C H p q) : Rv C H (.ref p) q := .inr ⟨p, rfl, h⟩
def spAs (C : Addr) : Sp := fun vs H Q _ => ∃ (v : V) (q : Rat), vs = [v] ∧ Rv C H v q ∧ Rz 8700 q ∧ ∀ p H', Same H H' → Sh C H' p q → Q (.ref p) H'
/-- a function of two that tells a Share -/
def spTwo (C : Addr) (ok : Rat → Rat → Prop) (g : Rat → Rat → Rat) : Sp := fun vs H Q _ => ∃ (v u : V) (a b : Rat), vs = [v, u] ∧ Rv C H v a ∧ Rv C H u b ∧ Rz 4300 a ∧ Rz 4300 b ∧ ok a b ∧ ∀ p H', H p = none → Same H H' → Sh C H' p (g a b) → Q (.ref p) H'
def spBefore (C : Addr) : Sp := fun vs H Q _ => ∃ (v u : V) (a b : Rat), vs = [v, u] ∧ Rv C H v a ∧ Rv C H u b ∧ Rz 4300 a ∧ Rz 4300 b ∧ ∀ H', Same H H' → Q (.bl (decide (a < b))) H'
def spOne (C : Addr) (g : Rat → Int) : Sp := fun vs H Q _ => ∃ (v : V) (a : Rat), vs = [v] ∧ Rv C H v a ∧ Rz 8700 a ∧ ∀ H', Same H H' → Q (.int (g a)) H'
theorem divInt_one (i : Int) : Rat.divInt i 1 = (i : Rat) := by
  have := Rat.num_divInt_den (i : Rat)
  exact this
section
variable {P : Program} {w : World} {K : PySem.W.Frag} {mg : Str → Option Value} {base : Heap} {C : Addr}
theorem ok_as (D : Df K mg "as_share" s_as_share []) (T : ShX K C) (his : mg "isinstance" = none) (hC : mg "Share" = some (.ref C)) (m : Ci P w K mg base CX0 2 "Share" C "Share.__init__" s_Share_init [.int 1] ["self", "top", "bottom"] (spShI C)) :
    Ca P w K mg base CX0 4 "as_share" s_as_share [] ["number"] (spAs C) := by
  refine ca0 (k := 3) D c_as_share (fun vs H Q E h => ?_) fun f cdv A outer s H vs Q E hr h => ?_
  · obtain ⟨v, q, rfl, _⟩ := h
    rfl
  · obtain ⟨v, a, rfl, hv, za, q⟩ := h
    refine ⟨_, pss_cons (ps_if (pt_val (pe_callB call_isi rfl his (by decide +kernel) (pa_cons (pv 0) (pa_cons (pe_glob (v := .ref C) rfl hC rfl) pa_nil)))) (pss_one (ps_ret (pv 0))) pss_nil)
      (pss_one (ps_ret (pe_ci m bd_Share1 (by decide) rfl hr (by decide) pass0 rfl (pa_cons (pv 0) pa_nil)))), ?_⟩
    rcases hv with ⟨i, rfl, rfl⟩ | ⟨p, rfl, hp⟩
    · refine ⟨_, rfl, _, _, _, _, _, rfl, .own C, .base (.int i), T.nInt, _, rfl, iteF ?_⟩
      refine ⟨_, rfl, ?_⟩
      refine made_sh (by decide) (za.1.mono (by decide)) (by show 1 < 2 ^ 8800; exact Nat.one_lt_two_pow (by decide)) fun p H' _ hs hp => ?_
      rw [divInt_one] at hp
      exact q p H' hs hp
    · obtain ⟨dx, e⟩ := id hp
      refine ⟨_, rfl, _, _, _, _, _, rfl, .own C, T.ty _ _ _ _ e, kit_self, _, rfl, iteT ?_⟩
      exact ⟨_, rfl, q p H (Same.refl H) hp⟩
/-- the fields of a Share at p -/
theorem rd_top {i : Nat} {σ : L2.St} {H : Hp} {p : Addr} {a : Rat} {Q : VK} (T : ShT K C) (hp : Sh C H p a) (e : σ[i]? = some (some (.ref p))) (q : Q (.int a.num) H) : tFld K (tVar i) "top" σ H Q := by
  obtain ⟨dx, h⟩ := hp
  exact ⟨_, e, p, C, dx, _, _, rfl, h, T.cl, T.nT, sf_top _ _, q⟩
theorem rd_bottom {i : Nat} {σ : L2.St} {H : Hp} {p : Addr} {a : Rat} {Q : VK} (T : ShT K C) (hp : Sh C H p a) (e : σ[i]? = some (some (.ref p))) (q : Q (.int a.den) H) : tFld K (tVar i) "bottom" σ H Q := by
  obtain ⟨dx, h⟩ := hp
  exact ⟨_, e, p, C, dx, _, _, rfl, h, T.cl, T.nB, sf_bottom _ _, q⟩
end
section
variable {P : Program} {w : World} {K : PySem.W.Frag} {mg : Str → Option Value} {base : Heap} {C : Addr}

theorem ok_plus (D : Df K mg "plus" s_plus []) (T : ShX K C) (a : Ca P w K mg base CX0 4 "as_share" s_as_share [] ["number"] (spAs C)) (m : Ci P w K mg base CX0 2 "Share" C "Share.__init__" s_Share_init [.int 1] ["self", "top", "bottom"] (spShI C)) :
    Ca P w K mg base CX0 5 "plus" s_plus [] ["one", "two"] (spTwo C (fun _ _ => True) (fun a b => a + b)) := by
  refine ca0 (k := 4) D c_plus (fun vs H Q E h => ?_) fun f cdv A outer s H vs Q E hr h => ?_
  · obtain ⟨v, u, x, y, rfl, _⟩ := h
    rfl
  · obtain ⟨v, u, x, y, rfl, hv, hu, zx, zy, ok, q⟩ := h
    refine ⟨_, pss_cons (ps_set (i := 2) c_plus.nd rfl (.inl rfl) (pe_ca a b_as_share hr (by decide) pass0 rfl (pa_cons (pv 0) pa_nil)))
      (pss_cons (ps_set (i := 3) c_plus.nd rfl (.inl rfl) (pe_ca a b_as_share hr (by decide) pass0 rfl (pa_cons (pv 1) pa_nil)))
      (pss_one (ps_ret (pe_ci m bd_Share2 (by decide) rfl hr (by decide) pass0 rfl (pa_cons (pe_op op_add (pe_op op_mulA (pe_fld (pv 2) rfl) (pe_fld (pv 3) rfl)) (pe_op op_mulA (pe_fld (pv 3) rfl) (pe_fld (pv 2) rfl))) (pa_cons (pe_op op_mulA (pe_fld (pv 2) rfl) (pe_fld (pv 3) rfl)) pa_nil)))))), ?_⟩
    refine ⟨_, rfl, v, x, rfl, hv, zx.mono (by decide), fun p1 H1 s1 h1 => ?_⟩
    refine ⟨_, rfl, u, y, rfl, hu.same s1, zy.mono (by decide), fun p2 H2 s2 h2 => ?_⟩
    obtain ⟨d1, e1⟩ := h1.same s2
    obtain ⟨d2, e2⟩ := h2
    have mz : ∀ i j : Int, Sz 4300 i → Sz 4300 j → CMulA i j := fun i j hi hj => ⟨hi.mono (by decide), hj.mono (by decide)⟩
    refine ⟨_, rfl, p1, C, d1, _, _, rfl, e1, T.cl, T.nT, sf_top _ _, _, rfl, p2, C, d2, _, _, rfl, e2, T.cl, T.nB, sf_bottom _ _, _, _, rfl, rfl, mz _ _ zx.1 zy.2, _, rfl, p2, C, d2, _, _, rfl, e2, T.cl, T.nT, sf_top _ _, _, rfl, p1, C, d1, _, _, rfl, e1, T.cl, T.nB, sf_bottom _ _, _, _, rfl, rfl, mz _ _ zy.1 zx.2, _, _, rfl, rfl, _, rfl, p1, C, d1, _, _, rfl, e1, T.cl, T.nB, sf_bottom _ _, _, rfl, p2, C, d2, _, _, rfl, e2, T.cl, T.nB, sf_bottom _ _, _, _, rfl, rfl, mz _ _ zx.2 zy.2, ?_⟩
    refine made_sh (Int.ne_of_gt (Int.mul_pos (den_pos x) (den_pos y))) (Sz.add (n := 8600) ((zx.1.mul zy.2).mono (by decide)) ((zy.1.mul zx.2).mono (by decide)) (by decide)) ((zx.2.mul zy.2).mono (by decide)) fun p H' hp hs hq => ?_
    refine q p H' ((s1.trans s2).free hp) (s1.trans (s2.trans hs)) ?_
    exact (congrArg (Sh C H' p) (add_eq x y)).mpr hq


theorem ok_minus (D : Df K mg "minus" s_minus []) (T : ShX K C) (a : Ca P w K mg base CX0 4 "as_share" s_as_share [] ["number"] (spAs C)) (m : Ci P w K mg base CX0 2 "Share" C "Share.__init__" s_Share_init [.int 1] ["self", "top", "bottom"] (spShI C)) :
    Ca P w K mg base CX0 5 "minus" s_minus [] ["one", "two"] (spTwo C (fun _ _ => True) (fun a b => a - b)) := by
  refine ca0 (k := 4) D c_minus (fun vs H Q E h => ?_) fun f cdv A outer s H vs Q E hr h => ?_
  · obtain ⟨v, u, x, y, rfl, _⟩ := h
    rfl
  · obtain ⟨v, u, x, y, rfl, hv, hu, zx, zy, ok, q⟩ := h
    refine ⟨_, pss_cons (ps_set (i := 2) c_minus.nd rfl (.inl rfl) (pe_ca a b_as_share hr (by decide) pass0 rfl (pa_cons (pv 0) pa_nil)))
      (pss_cons (ps_set (i := 3) c_minus.nd rfl (.inl rfl) (pe_ca a b_as_share hr (by decide) pass0 rfl (pa_cons (pv 1) pa_nil)))
      (pss_one (ps_ret (pe_ci m bd_Share2 (by decide) rfl hr (by decide) pass0 rfl (pa_cons (pe_op op_sub (pe_op op_mulA (pe_fld (pv 2) rfl) (pe_fld (pv 3) rfl)) (pe_op op_mulA (pe_fld (pv 3) rfl) (pe_fld (pv 2) rfl))) (pa_cons (pe_op op_mulA (pe_fld (pv 2) rfl) (pe_fld (pv 3) rfl)) pa_nil)))))), ?_⟩
    refine ⟨_, rfl, v, x, rfl, hv, zx.mono (by decide), fun p1 H1 s1 h1 => ?_⟩
    refine ⟨_, rfl, u, y, rfl, hu.same s1, zy.mono (by decide), fun p2 H2 s2 h2 => ?_⟩
    obtain ⟨d1, e1⟩ := h1.same s2
    obtain ⟨d2, e2⟩ := h2
    have mz : ∀ i j : Int, Sz 4300 i → Sz 4300 j → CMulA i j := fun i j hi hj => ⟨hi.mono (by decide), hj.mono (by decide)⟩
    refine ⟨_, rfl, p1, C, d1, _, _, rfl, e1, T.cl, T.nT, sf_top _ _, _, rfl, p2, C, d2, _, _, rfl, e2, T.cl, T.nB, sf_bottom _ _, _, _, rfl, rfl, mz _ _ zx.1 zy.2, _, rfl, p2, C, d2, _, _, rfl, e2, T.cl, T.nT, sf_top _ _, _, rfl, p1, C, d1, _, _, rfl, e1, T.cl, T.nB, sf_bottom _ _, _, _, rfl, rfl, mz _ _ zy.1 zx.2, _, _, rfl, rfl, _, rfl, p1, C, d1, _, _, rfl, e1, T.cl, T.nB, sf_bottom _ _, _, rfl, p2, C, d2, _, _, rfl, e2, T.cl, T.nB, sf_bottom _ _, _, _, rfl, rfl, mz _ _ zx.2 zy.2, ?_⟩
    refine made_sh (Int.ne_of_gt (Int.mul_pos (den_pos x) (den_pos y))) (Sz.sub (n := 8600) ((zx.1.mul zy.2).mono (by decide)) ((zy.1.mul zx.2).mono (by decide)) (by decide)) ((zx.2.mul zy.2).mono (by decide)) fun p H' hp hs hq => ?_
    refine q p H' ((s1.trans s2).free hp) (s1.trans (s2.trans hs)) ?_
    exact (congrArg (Sh C H' p) (sub_eq x y)).mpr hq


theorem ok_times (D : Df K mg "times" s_times []) (T : ShX K C) (a : Ca P w K mg base CX0 4 "as_share" s_as_share [] ["number"] (spAs C)) (m : Ci P w K mg base CX0 2 "Share" C "Share.__init__" s_Share_init [.int 1] ["self", "top", "bottom"] (spShI C)) :
    Ca P w K mg base CX0 5 "times" s_times [] ["one", "two"] (spTwo C (fun _ _ => True) (fun a b => a * b)) := by
  refine ca0 (k := 4) D c_times (fun vs H Q E h => ?_) fun f cdv A outer s H vs Q E hr h => ?_
  · obtain ⟨v, u, x, y, rfl, _⟩ := h
    rfl
  · obtain ⟨v, u, x, y, rfl, hv, hu, zx, zy, ok, q⟩ := h
    refine ⟨_, pss_cons (ps_set (i := 2) c_times.nd rfl (.inl rfl) (pe_ca a b_as_share hr (by decide) pass0 rfl (pa_cons (pv 0) pa_nil)))
      (pss_cons (ps_set (i := 3) c_times.nd rfl (.inl rfl) (pe_ca a b_as_share hr (by decide) pass0 rfl (pa_cons (pv 1) pa_nil)))
      (pss_one (ps_ret (pe_ci m bd_Share2 (by decide) rfl hr (by decide) pass0 rfl (pa_cons (pe_op op_mulA (pe_fld (pv 2) rfl) (pe_fld (pv 3) rfl)) (pa_cons (pe_op op_mulA (pe_fld (pv 2) rfl) (pe_fld (pv 3) rfl)) pa_nil)))))), ?_⟩
    refine ⟨_, rfl, v, x, rfl, hv, zx.mono (by decide), fun p1 H1 s1 h1 => ?_⟩
    refine ⟨_, rfl, u, y, rfl, hu.same s1, zy.mono (by decide), fun p2 H2 s2 h2 => ?_⟩
    obtain ⟨d1, e1⟩ := h1.same s2
    obtain ⟨d2, e2⟩ := h2
    have mz : ∀ i j : Int, Sz 4300 i → Sz 4300 j → CMulA i j := fun i j hi hj => ⟨hi.mono (by decide), hj.mono (by decide)⟩
    refine ⟨_, rfl, p1, C, d1, _, _, rfl, e1, T.cl, T.nT, sf_top _ _, _, rfl, p2, C, d2, _, _, rfl, e2, T.cl, T.nT, sf_top _ _, _, _, rfl, rfl, mz _ _ zx.1 zy.1, _, rfl, p1, C, d1, _, _, rfl, e1, T.cl, T.nB, sf_bottom _ _, _, rfl, p2, C, d2, _, _, rfl, e2, T.cl, T.nB, sf_bottom _ _, _, _, rfl, rfl, mz _ _ zx.2 zy.2, ?_⟩
    refine made_sh (Int.ne_of_gt (Int.mul_pos (den_pos x) (den_pos y))) ((zx.1.mul zy.1).mono (by decide)) ((zx.2.mul zy.2).mono (by decide)) fun p H' hp hs hq => ?_
    refine q p H' ((s1.trans s2).free hp) (s1.trans (s2.trans hs)) ?_
    exact (congrArg (Sh C H' p) (mul_eq x y)).mpr hq


theorem ok_over (D : Df K mg "over" s_over []) (T : ShX K C) (a : Ca P w K mg base CX0 4 "as_share" s_as_share [] ["number"] (spAs C)) (m : Ci P w K mg base CX0 2 "Share" C "Share.__init__" s_Share_init [.int 1] ["self", "top", "bottom"] (spShI C)) :
    Ca P w K mg base CX0 5 "over" s_over [] ["one", "two"] (spTwo C (fun _ b => b ≠ 0) (fun a b => a / b)) := by
  refine ca0 (k := 4) D c_over (fun vs H Q E h => ?_) fun f cdv A outer s H vs Q E hr h => ?_
  · obtain ⟨v, u, x, y, rfl, _⟩ := h
    rfl
  · obtain ⟨v, u, x, y, rfl, hv, hu, zx, zy, ok, q⟩ := h
    refine ⟨_, pss_cons (ps_set (i := 2) c_over.nd rfl (.inl rfl) (pe_ca a b_as_share hr (by decide) pass0 rfl (pa_cons (pv 0) pa_nil)))
      (pss_cons (ps_set (i := 3) c_over.nd rfl (.inl rfl) (pe_ca a b_as_share hr (by decide) pass0 rfl (pa_cons (pv 1) pa_nil)))
      (pss_one (ps_ret (pe_ci m bd_Share2 (by decide) rfl hr (by decide) pass0 rfl (pa_cons (pe_op op_mulA (pe_fld (pv 2) rfl) (pe_fld (pv 3) rfl)) (pa_cons (pe_op op_mulA (pe_fld (pv 2) rfl) (pe_fld (pv 3) rfl)) pa_nil)))))), ?_⟩
    refine ⟨_, rfl, v, x, rfl, hv, zx.mono (by decide), fun p1 H1 s1 h1 => ?_⟩
    refine ⟨_, rfl, u, y, rfl, hu.same s1, zy.mono (by decide), fun p2 H2 s2 h2 => ?_⟩
    obtain ⟨d1, e1⟩ := h1.same s2
    obtain ⟨d2, e2⟩ := h2
    have mz : ∀ i j : Int, Sz 4300 i → Sz 4300 j → CMulA i j := fun i j hi hj => ⟨hi.mono (by decide), hj.mono (by decide)⟩
    refine ⟨_, rfl, p1, C, d1, _, _, rfl, e1, T.cl, T.nT, sf_top _ _, _, rfl, p2, C, d2, _, _, rfl, e2, T.cl, T.nB, sf_bottom _ _, _, _, rfl, rfl, mz _ _ zx.1 zy.2, _, rfl, p1, C, d1, _, _, rfl, e1, T.cl, T.nB, sf_bottom _ _, _, rfl, p2, C, d2, _, _, rfl, e2, T.cl, T.nT, sf_top _ _, _, _, rfl, rfl, mz _ _ zx.2 zy.1, ?_⟩
    refine made_sh (Int.mul_ne_zero (Int.ne_of_gt (den_pos x)) (fun z => ok (Rat.num_eq_zero.mp z))) ((zx.1.mul zy.2).mono (by decide)) ((zx.2.mul zy.1).mono (by decide)) fun p H' hp hs hq => ?_
    refine q p H' ((s1.trans s2).free hp) (s1.trans (s2.trans hs)) ?_
    exact (congrArg (Sh C H' p) (div_eq x y ok)).mpr hq


theorem ok_before (D : Df K mg "before" s_before []) (T : ShX K C) (a : Ca P w K mg base CX0 4 "as_share" s_as_share [] ["number"] (spAs C)) : Ca P w K mg base CX0 5 "before" s_before [] ["one", "two"] (spBefore C) := by
  refine ca0 (k := 4) D c_before (fun vs H Q E h => ?_) fun f cdv A outer s H vs Q E hr h => ?_
  · obtain ⟨v, u, x, y, rfl, _⟩ := h
    rfl
  · obtain ⟨v, u, x, y, rfl, hv, hu, zx, zy, q⟩ := h
    refine ⟨_, pss_cons (ps_set (i := 2) c_before.nd rfl (.inl rfl) (pe_ca a b_as_share hr (by decide) pass0 rfl (pa_cons (pv 0) pa_nil)))
      (pss_cons (ps_set (i := 3) c_before.nd rfl (.inl rfl) (pe_ca a b_as_share hr (by decide) pass0 rfl (pa_cons (pv 1) pa_nil)))
      (pss_one (ps_ret (pe_cmpR op_lt (pe_op op_mulA (pe_fld (pv 2) rfl) (pe_fld (pv 3) rfl)) (pe_op op_mulA (pe_fld (pv 3) rfl) (pe_fld (pv 2) rfl)) (nomark _))))), ?_⟩
    refine ⟨_, rfl, v, x, rfl, hv, zx.mono (by decide), fun p1 H1 s1 h1 => ?_⟩
    refine ⟨_, rfl, u, y, rfl, hu.same s1, zy.mono (by decide), fun p2 H2 s2 h2 => ?_⟩
    obtain ⟨d1, e1⟩ := h1.same s2
    obtain ⟨d2, e2⟩ := h2
    have mz : ∀ i j : Int, Sz 4300 i → Sz 4300 j → CMulA i j := fun i j hi hj => ⟨hi.mono (by decide), hj.mono (by decide)⟩
    refine ⟨_, rfl, p1, C, d1, _, _, rfl, e1, T.cl, T.nT, sf_top _ _, _, rfl, p2, C, d2, _, _, rfl, e2, T.cl, T.nB, sf_bottom _ _, _, _, rfl, rfl, mz _ _ zx.1 zy.2, _, rfl, p2, C, d2, _, _, rfl, e2, T.cl, T.nT, sf_top _ _, _, rfl, p1, C, d1, _, _, rfl, e1, T.cl, T.nB, sf_bottom _ _, _, _, rfl, rfl, mz _ _ zy.1 zx.2, _, _, rfl, rfl, ?_⟩
    have e : decide (x.num * (y.den : Int) < y.num * (x.den : Int)) = decide (x < y) := by
      rw [decide_eq_decide]
      exact (lt_iff' x y).symm
    show Q (V.bl (decide (x.num * (y.den : Int) < y.num * (x.den : Int)))) _
    rw [e]
    exact q H2 (s1.trans s2)


theorem ok_whole (D : Df K mg "whole" s_whole []) (T : ShX K C) (a : Ca P w K mg base CX0 4 "as_share" s_as_share [] ["number"] (spAs C)) : Ca P w K mg base CX0 5 "whole" s_whole [] ["share"] (spOne C Rat.floor) := by
  refine ca0 (k := 4) D c_whole (fun vs H Q E h => ?_) fun f cdv A outer s H vs Q E hr h => ?_
  · obtain ⟨v, x, rfl, _⟩ := h
    rfl
  · obtain ⟨v, x, rfl, hv, zx, q⟩ := h
    refine ⟨_, pss_cons (ps_set (i := 1) c_whole.nd rfl (.inl rfl) (pe_ca a b_as_share hr (by decide) pass0 rfl (pa_cons (pv 0) pa_nil)))
      (pss_one (ps_ret (pe_op op_fdivA (pe_fld (pv 1) rfl) (pe_fld (pv 1) rfl)))), ?_⟩
    refine ⟨_, rfl, v, x, rfl, hv, zx, fun p1 H1 s1 h1 => ?_⟩
    obtain ⟨d1, e1⟩ := h1
    refine ⟨_, rfl, p1, C, d1, _, _, rfl, e1, T.cl, T.nT, sf_top _ _, _, rfl, p1, C, d1, _, _, rfl, e1, T.cl, T.nB, sf_bottom _ _, _, _, rfl, rfl, ⟨Int.ne_of_gt (den_pos x), zx.2.mono (by decide)⟩, ?_⟩
    have e : x.num.fdiv (x.den : Int) = x.floor := by rw [Rat.floor_def, Int.fdiv_eq_ediv_of_nonneg _ (Int.le_of_lt (den_pos x))]
    show Q (V.int (x.num.fdiv (x.den : Int))) _
    rw [e]
    exact q H1 s1
end
section
variable {P : Program} {w : World} {K : PySem.W.Frag} {mg : Str → Option Value} {base : Heap} {C : Addr}
theorem ok_rounded (D : Df K mg "rounded_up" s_rounded_up []) (T : ShX K C) (a : Ca P w K mg base CX0 4 "as_share" s_as_share [] ["number"] (spAs C)) : Ca P w K mg base CX0 5 "rounded_up" s_rounded_up [] ["share"] (spOne C Rat.ceil) := by
  refine ca0 (k := 4) D c_rounded_up (fun vs H Q E h => ?_) fun f cdv A outer s H vs Q E hr h => ?_
  · obtain ⟨v, x, rfl, _⟩ := h
    rfl
  · obtain ⟨v, x, rfl, hv, zx, q⟩ := h
    refine ⟨_, pss_cons (ps_set (i := 1) c_rounded_up.nd rfl (.inl rfl) (pe_ca a b_as_share hr (by decide) pass0 rfl (pa_cons (pv 0) pa_nil)))
      (pss_one (ps_ret (pe_un un_neg (pe_op op_fdivA (pe_un un_neg (pe_fld (pv 1) rfl)) (pe_fld (pv 1) rfl))))), ?_⟩
    refine ⟨_, rfl, v, x, rfl, hv, zx, fun p1 H1 s1 h1 => ?_⟩
    obtain ⟨d1, e1⟩ := h1
    refine ⟨_, rfl, p1, C, d1, _, _, rfl, e1, T.cl, T.nT, sf_top _ _, _, rfl, _, rfl, p1, C, d1, _, _, rfl, e1, T.cl, T.nB, sf_bottom _ _, _, _, rfl, rfl, ⟨Int.ne_of_gt (den_pos x), zx.2.mono (by decide)⟩, _, rfl, ?_⟩
    have e : -((-x.num).fdiv (x.den : Int)) = x.ceil := by rw [Int.fdiv_eq_ediv_of_nonneg _ (Int.le_of_lt (den_pos x)), neg_div_ceil]
    show Q (V.int (-((-x.num).fdiv (x.den : Int)))) _
    rw [e]
    exact q H1 s1
end
/-! ### Calendar's helpers -/
theorem twelve_ne : ((12 : Int) : Rat) ≠ 0 := by decide
theorem szi {n : Nat} (i : Int) (h : i.natAbs < 2 ^ n := by decide) : Sz n i := h
def spTw (C : Addr) : Sp := fun vs H Q _ => ∃ (v : V) (a : Rat), vs = [v] ∧ Rv C H v a ∧ Rz 4000 a ∧ ∀ p H', H p = none → Same H H' → Sh C H' p (a / 12) → Q (.ref p) H'
def spNth (C : Addr) : Sp := fun vs H Q _ => ∃ (v u : V) (a b : Rat) (n : Int), vs = [v, u, .int n] ∧ Rv C H v a ∧ Rv C H u b ∧ Rz 600 a ∧ Rz 600 b ∧ Sz 3000 n ∧ ∀ H', Same H H' → Q (.int (a + n * b).floor) H'
def spFrom (C : Addr) : Sp := fun vs H Q _ => ∃ (v u : V) (a b : Rat) (n : Int), vs = [v, u, .int n] ∧ Rv C H v a ∧ Rv C H u b ∧ Rz 600 a ∧ Rz 600 b ∧ Sz 3000 n ∧ b ≠ 0 ∧ ∀ H', Same H H' → Q (.int (((n : Rat) - a) / b).ceil) H'
def spUnfit (C : Addr) : Sp := fun vs H Q _ => ∃ (v u : V) (m y : Rat), vs = [v, u] ∧ Rv C H v m ∧ Rv C H u y ∧ Rz 600 m ∧ Rz 600 y ∧ Fit m y ∧ ∀ H', Same H H' → Q .non H'
/-- a moment that may not be told -/
def Mv (C : Addr) (H : Hp) (v : V) (q : Rat) : Prop := (v = .non ∧ q = 0) ∨ Rv C H v q
theorem Mv.same {C : Addr} {H H1 : Hp} {v : V} {q : Rat} (h : Mv C H v q) (s : Same H H1) : Mv C H1 v q := by
  rcases h with h | h
  · exact .inl h
  · exact .inr (h.same s)
def spMoment (C : Addr) : Sp := fun vs H Q _ => ∃ (v : V) (q : Rat), vs = [v] ∧ Mv C H v q ∧ Rz 600 q ∧ ∀ p H', Same H H' → Sh C H' p q → Q (.ref p) H'
/-- the functions over Shares that Calendar uses -/
structure ShF (P : Program) (w : World) (K : PySem.W.Frag) (mg : Str → Option Value) (base : Heap) (C : Addr) : Prop where
  T : ShX K C
  mkS : Ci P w K mg base CX0 2 "Share" C "Share.__init__" s_Share_init [.int 1] ["self", "top", "bottom"] (spShI C)
  asS : Ca P w K mg base CX0 4 "as_share" s_as_share [] ["number"] (spAs C)
  plus : Ca P w K mg base CX0 5 "plus" s_plus [] ["one", "two"] (spTwo C (fun _ _ => True) (fun a b => a + b))
  minus : Ca P w K mg base CX0 5 "minus" s_minus [] ["one", "two"] (spTwo C (fun _ _ => True) (fun a b => a - b))
  times : Ca P w K mg base CX0 5 "times" s_times [] ["one", "two"] (spTwo C (fun _ _ => True) (fun a b => a * b))
  over : Ca P w K mg base CX0 5 "over" s_over [] ["one", "two"] (spTwo C (fun _ b => b ≠ 0) (fun a b => a / b))
  before : Ca P w K mg base CX0 5 "before" s_before [] ["one", "two"] (spBefore C)
  whole : Ca P w K mg base CX0 5 "whole" s_whole [] ["share"] (spOne C Rat.floor)
  up : Ca P w K mg base CX0 5 "rounded_up" s_rounded_up [] ["share"] (spOne C Rat.ceil)
  marks : ∃ t, mg "MARKS" = some (.int 12 t)
section
variable {P : Program} {w : World} {K : PySem.W.Frag} {mg : Str → Option Value} {base : Heap} {C : Addr}
theorem ok_tw (D : Df K mg "twelfth" s_twelfth []) (F : ShF P w K mg base C) : Ca P w K mg base CX0 6 "twelfth" s_twelfth [] ["year"] (spTw C) := by
  refine ca0 (k := 5) D c_twelfth (fun vs H Q E h => ?_) fun f cdv A outer s H vs Q E hr h => ?_
  · obtain ⟨v, q, rfl, _⟩ := h
    rfl
  · obtain ⟨v, a, rfl, hv, za, q⟩ := h
    obtain ⟨tk, hM⟩ := F.marks
    refine ⟨_, pss_one (ps_ret (pe_ca F.over b_over hr (by decide) pass0 rfl (pa_cons (pv 0) (pa_cons (pe_glob (v := .int 12) rfl hM ⟨_, rfl⟩) pa_nil)))), ?_⟩
    exact ⟨_, rfl, v, .int 12, a, _, rfl, hv, Rv.int, za.mono (by decide), Rz.int (szi 12) (by decide), twelve_ne, q⟩
end
section
variable {P : Program} {w : World} {K : PySem.W.Frag} {mg : Str → Option Value} {base : Heap} {C : Addr}
theorem ok_nth (D : Df K mg "nth_day" s_nth_day []) (F : ShF P w K mg base C) : Ca P w K mg base CX0 6 "nth_day" s_nth_day [] ["first", "step", "n"] (spNth C) := by
  refine ca0 (k := 5) D c_nth_day (fun vs H Q E h => ?_) fun f cdv A outer s H vs Q E hr h => ?_
  · obtain ⟨v, u, a, b, n, rfl, _⟩ := h
    rfl
  · obtain ⟨v, u, a, b, n, rfl, hv, hu, za, zb, zn, q⟩ := h
    refine ⟨_, pss_one (ps_ret (pe_ca F.whole b_whole hr (by decide) pass0 rfl (pa_cons (pe_ca F.plus b_plus hr (by decide) pass0 rfl (pa_cons (pv 0) (pa_cons (pe_ca F.times b_times hr (by decide) pass0 rfl (pa_cons (pv 2) (pa_cons (pv 1) pa_nil))) pa_nil))) pa_nil))), ?_⟩
    have zi : Rz 3000 (n : Rat) := Rz.int zn (by decide)
    refine ⟨_, rfl, _, rfl, _, rfl, .int n, u, n, b, rfl, Rv.int, hu, zi.mono (by decide), zb.mono (by decide), trivial, fun p1 H1 n1 s1 h1 => ?_⟩
    have z1 : Rz 3700 (n * b) := zi.mul zb (by decide)
    refine ⟨v, .ref p1, a, _, rfl, hv.same s1, h1.rv, za.mono (by decide), z1.mono (by decide), trivial, fun p2 H2 n2 s2 h2 => ?_⟩
    have z2 : Rz 4500 (a + n * b) := za.add z1 (by decide)
    exact ⟨.ref p2, _, rfl, h2.rv, z2.mono (by decide), fun H3 s3 => q H3 (s1.trans (s2.trans s3))⟩
end
section
variable {P : Program} {w : World} {K : PySem.W.Frag} {mg : Str → Option Value} {base : Heap} {C : Addr}
theorem ok_from (D : Df K mg "first_from" s_first_from []) (F : ShF P w K mg base C) : Ca P w K mg base CX0 6 "first_from" s_first_from [] ["first", "step", "day"] (spFrom C) := by
  refine ca0 (k := 5) D c_first_from (fun vs H Q E h => ?_) fun f cdv A outer s H vs Q E hr h => ?_
  · obtain ⟨v, u, a, b, n, rfl, _⟩ := h
    rfl
  · obtain ⟨v, u, a, b, n, rfl, hv, hu, za, zb, zn, nb, q⟩ := h
    refine ⟨_, pss_one (ps_ret (pe_ca F.up b_rounded_up hr (by decide) pass0 rfl (pa_cons (pe_ca F.over b_over hr (by decide) pass0 rfl (pa_cons (pe_ca F.minus b_minus hr (by decide) pass0 rfl (pa_cons (pv 2) (pa_cons (pv 0) pa_nil))) (pa_cons (pv 1) pa_nil))) pa_nil))), ?_⟩
    have zi : Rz 3000 (n : Rat) := Rz.int zn (by decide)
    refine ⟨_, rfl, _, rfl, .int n, v, n, a, rfl, Rv.int, hv, zi.mono (by decide), za.mono (by decide), trivial, fun p1 H1 n1 s1 h1 => ?_⟩
    have z1 : Rz 3700 ((n : Rat) - a) := zi.sub za (by decide)
    refine ⟨_, rfl, .ref p1, u, _, b, rfl, h1.rv, hu.same s1, z1.mono (by decide), zb.mono (by decide), nb, fun p2 H2 n2 s2 h2 => ?_⟩
    have z2 : Rz 4500 (((n : Rat) - a) / b) := z1.div zb nb (by decide)
    exact ⟨.ref p2, _, rfl, h2.rv, z2.mono (by decide), fun H3 s3 => q H3 (s1.trans (s2.trans s3))⟩
end
section
variable {P : Program} {w : World} {K : PySem.W.Frag} {mg : Str → Option Value} {base : Heap} {C : Addr}
theorem ok_moment (D : Df K mg "moment_or_nought" s_moment_or_nought []) (F : ShF P w K mg base C) : Ca P w K mg base CX0 6 "moment_or_nought" s_moment_or_nought [] ["moment"] (spMoment C) := by
  refine ca0 (k := 5) D c_moment_or_nought (fun vs H Q E h => ?_) fun f cdv A outer s H vs Q E hr h => ?_
  · obtain ⟨v, q, rfl, _⟩ := h
    rfl
  · obtain ⟨v, a, rfl, hv, za, q⟩ := h
    refine ⟨_, pss_cons (ps_if (pt_cmp (pc_isN (pv 0))) (pss_one (ps_ret (pe_ci F.mkS bd_Share1 (by decide) rfl hr (by decide) pass0 rfl (pa_cons pe_int pa_nil)))) pss_nil)
      (pss_one (ps_ret (pe_ca F.asS b_as_share hr (by decide) pass0 rfl (pa_cons (pv 0) pa_nil)))), ?_⟩
    rcases hv with ⟨rfl, rfl⟩ | hv
    · refine ⟨_, rfl, _, rfl, iteT ?_⟩
      refine made_sh (by decide) (szi 0) (szi 1) fun p H' _ hs hp => ?_
      rw [divInt_one] at hp
      exact q p H' hs hp
    · have hn : v ≠ .non := by
        rcases hv with ⟨i, rfl, _⟩ | ⟨p, rfl, _⟩ <;> exact fun z => nomatch z
      refine ⟨_, rfl, _, rfl, ?_⟩
      rw [decide_eq_false hn]
      refine iteF ?_
      exact ⟨_, rfl, v, a, rfl, hv, za.mono (by decide), q⟩
end
section
variable {P : Program} {w : World} {K : PySem.W.Frag} {mg : Str → Option Value} {base : Heap} {C : Addr}
theorem ok_unfit (D : Df K mg "refuse_unfit" s_refuse_unfit []) (F : ShF P w K mg base C) (tw : Ca P w K mg base CX0 6 "twelfth" s_twelfth [] ["year"] (spTw C)) : Ca P w K mg base CX0 7 "refuse_unfit" s_refuse_unfit [] ["month", "year"] (spUnfit C) := by
  refine ca0 (k := 6) D c_refuse_unfit (fun vs H Q E h => ?_) fun f cdv A outer s H vs Q E hr h => ?_
  · obtain ⟨v, u, m, y, rfl, _⟩ := h
    rfl
  · obtain ⟨v, u, m, y, rfl, hv, hu, zm, zy, ft, q⟩ := h
    obtain ⟨tk, hM⟩ := F.marks
    refine ⟨_, pss_cons (ps_if (pt_val (pe_ca F.before b_before hr (by decide) pass0 rfl (pa_cons (pv 0) (pa_cons pe_int pa_nil)))) (pss_one ps_never) pss_nil)
      (pss_cons (ps_if (pt_val (pe_ca F.before b_before hr (by decide) pass0 rfl (pa_cons (pe_ca tw b_twelfth hr (by decide) pass0 rfl (pa_cons (pv 1) pa_nil)) (pa_cons (pe_ca F.up b_rounded_up hr (by decide) pass0 rfl (pa_cons (pv 0) pa_nil)) pa_nil)))) (pss_one ps_never) pss_nil)
      (pss_one (ps_if (pt_val (pe_ca F.before b_before hr (by decide) pass0 rfl (pa_cons (pe_ca F.times b_times hr (by decide) pass0 rfl (pa_cons (pe_op op_add (pe_glob (v := .int 12) rfl hM ⟨_, rfl⟩) pe_int) (pa_cons (pv 0) pa_nil)))
        (pa_cons (pe_ca F.plus b_plus hr (by decide) pass0 rfl (pa_cons (pv 1) (pa_cons pe_int pa_nil))) pa_nil)))) (pss_one ps_never) pss_nil))), ?_⟩
    refine ⟨_, rfl, v, .int 1, m, _, rfl, hv, Rv.int, zm.mono (by decide), Rz.int (szi 1) (by decide), fun H1 s1 => ⟨_, rfl, ?_⟩⟩
    rw [decide_eq_false (show ¬ m < ((1 : Int) : Rat) from Rat.not_lt.mpr ft.one)]
    refine iteF ?_
    refine ⟨_, rfl, u, y, rfl, hu.same s1, zy.mono (by decide), fun p2 H2 n2 s2 h2 => ?_⟩
    refine ⟨_, rfl, v, m, rfl, hv.same (s1.trans s2), zm.mono (by decide), fun H3 s3 => ?_⟩
    have z2 : Rz 700 (y / 12) := zy.div (l := 4) (Rz.int (szi 12) (by decide)) twelve_ne (by decide)
    refine ⟨.ref p2, .int m.ceil, _, _, rfl, (h2.same s3).rv, Rv.int, z2.mono (by decide), Rz.int ((Sz.ceil zm).mono (by decide)) (by decide), fun H4 s4 => ⟨_, rfl, ?_⟩⟩
    rw [decide_eq_false (show ¬ y / 12 < (m.ceil : Rat) from Rat.not_lt.mpr ft.between)]
    refine iteF ?_
    have s14 : Same H H4 := s1.trans (s2.trans (s3.trans s4))
    refine ⟨_, _, rfl, rfl, _, rfl, .int 13, v, _, m, rfl, Rv.int, hv.same s14, Rz.int (szi 13) (by decide), zm.mono (by decide), trivial, fun p5 H5 n5 s5 h5 => ?_⟩
    refine ⟨_, rfl, u, .int 1, y, _, rfl, hu.same (s14.trans s5), Rv.int, zy.mono (by decide), Rz.int (szi 1) (by decide), trivial, fun p6 H6 n6 s6 h6 => ?_⟩
    have z5 : Rz 700 (((13 : Int) : Rat) * m) := Rz.mul (n := 4) (Rz.int (szi 13) (by decide)) zm (by decide)
    have z6 : Rz 700 (y + ((1 : Int) : Rat)) := zy.add (l := 1) (Rz.int (szi 1) (by decide)) (by decide)
    refine ⟨.ref p5, .ref p6, _, _, rfl, (h5.same s6).rv, h6.rv, z5.mono (by decide), z6.mono (by decide), fun H7 s7 => ⟨_, rfl, ?_⟩⟩
    rw [decide_eq_false (show ¬ ((13 : Int) : Rat) * m < y + ((1 : Int) : Rat) from Rat.not_lt.mpr ft.thirteen)]
    refine iteF ?_
    exact q H7 (s14.trans (s5.trans (s6.trans s7)))
end
/-! ### Calendar -/
def cfs (a b c d : Addr) : List (Str × V) := putF "mark" (.ref d) (putF "moon" (.ref c) (putF "year" (.ref b) (putF "month" (.ref a) [])))
theorem my_ : ¬ (("month" : Str) = "year") := by decide +kernel
theorem mm_ : ¬ (("month" : Str) = "moon") := by decide +kernel
theorem mk_ : ¬ (("month" : Str) = "mark") := by decide +kernel
theorem ym_ : ¬ (("year" : Str) = "moon") := by decide +kernel
theorem yk_ : ¬ (("year" : Str) = "mark") := by decide +kernel
theorem ok_ : ¬ (("moon" : Str) = "mark") := by decide +kernel
theorem cf_month (a b c d : Addr) : (cfs a b c d).lookup ("month" : Str) = some (.ref a) := by
  unfold cfs
  rw [lookup_putF, if_neg mk_, lookup_putF, if_neg mm_, lookup_putF, if_neg my_, lookup_putF, if_pos rfl]
theorem cf_year (a b c d : Addr) : (cfs a b c d).lookup ("year" : Str) = some (.ref b) := by
  unfold cfs
  rw [lookup_putF, if_neg yk_, lookup_putF, if_neg ym_, lookup_putF, if_pos rfl]
theorem cf_moon (a b c d : Addr) : (cfs a b c d).lookup ("moon" : Str) = some (.ref c) := by
  unfold cfs
  rw [lookup_putF, if_neg ok_, lookup_putF, if_pos rfl]
theorem cf_mark (a b c d : Addr) : (cfs a b c d).lookup ("mark" : Str) = some (.ref d) := by
  unfold cfs
  rw [lookup_putF, if_pos rfl]
theorem cf_no (a b c d : Addr) {m : Str} (h1 : ¬ m = "mark" := by decide +kernel) (h2 : ¬ m = "moon" := by decide +kernel) (h3 : ¬ m = "year" := by decide +kernel) (h4 : ¬ m = "month" := by decide +kernel) : (cfs a b c d).lookup m = none := by
  unfold cfs
  rw [lookup_putF, if_neg h1, lookup_putF, if_neg h2, lookup_putF, if_neg h3, lookup_putF, if_neg h4]
  rfl
structure CaT (K : PySem.W.Frag) (C Cc : Addr) : Prop where
  cl : Cls K Cc
  n1 : NoAttr K Cc "month"
  n2 : NoAttr K Cc "year"
  n3 : NoAttr K Cc "moon"
  n4 : NoAttr K Cc "mark"
  ne : Cc ≠ C
/-- at p a Calendar of these four -/
def Cl (C Cc : Addr) (H : Hp) (p : Addr) (m y o k : Rat) : Prop := ∃ dx a b c d, H p = some (.ins Cc dx (cfs a b c d)) ∧ Sh C H a m ∧ Sh C H b y ∧ Sh C H c o ∧ Sh C H d k
theorem Cl.same {C Cc : Addr} {H H1 : Hp} {p : Addr} {m y o k : Rat} (h : Cl C Cc H p m y o k) (s : Same H H1) : Cl C Cc H1 p m y o k := by
  obtain ⟨dx, a, b, c, d, e, h1, h2, h3, h4⟩ := h
  exact ⟨dx, a, b, c, d, s _ _ e, h1.same s, h2.same s, h3.same s, h4.same s⟩
/-- one that can be reckoned with -/
structure Good (m y o k : Rat) : Prop where
  fit : Fit m y
  zm : Rz 70 m
  zy : Rz 70 y
  zo : Rz 70 o
  zk : Rz 70 k
theorem Sh.put {C Cc : Addr} {H : Hp} {p dx a : Addr} {fs gs : List (Str × V)} {q : Rat} (ne : Cc ≠ C) (hp : H p = some (.ins Cc dx fs)) (h : Sh C H a q) : Sh C (upd H p (.ins Cc dx gs)) a q := by
  obtain ⟨d, e⟩ := h
  refine ⟨d, ?_⟩
  rw [upd_ne (ne_of e hp fun z => ne (by injection z with z1 z2 z3; exact z1.symm))]
  exact e
theorem Rv.put {C Cc : Addr} {H : Hp} {p dx : Addr} {v : V} {fs gs : List (Str × V)} {q : Rat} (ne : Cc ≠ C) (hp : H p = some (.ins Cc dx fs)) (h : Rv C H v q) : Rv C (upd H p (.ins Cc dx gs)) v q := by
  rcases h with h | ⟨a, e, h⟩
  · exact .inl h
  · exact .inr ⟨a, e, h.put ne hp⟩
theorem Mv.put {C Cc : Addr} {H : Hp} {p dx : Addr} {v : V} {fs gs : List (Str × V)} {q : Rat} (ne : Cc ≠ C) (hp : H p = some (.ins Cc dx fs)) (h : Mv C H v q) : Mv C (upd H p (.ins Cc dx gs)) v q := by
  rcases h with h | h
  · exact .inl h
  · exact .inr (h.put ne hp)
theorem But.put {l : Addr} {H H1 : Hp} {o : HO} (a : But l H H1) : But l H (L2.upd H1 l o) := fun c u hc e => by
  rw [upd_ne hc]
  exact a c u hc e
/-! the methods -/
def spM1 (C Cc : Addr) (n : Nat) (g : Rat → Rat → Rat → Rat → Int → V) : Sp := fun vs H Q _ => ∃ (p : Addr) (i : Int) (m y o k : Rat), vs = [.ref p, .int i] ∧ Cl C Cc H p m y o k ∧ Good m y o k ∧ Sz n i ∧ ∀ H', Same H H' → Q (g m y o k i) H'
def miF (m y o k : Rat) (i : Int) : V := if mdF y k (jF y k (stF m o i)) < stF m o (i + 1) then .int (jF y k (stF m o i)) else .non
theorem Good.ztw {m y o k : Rat} (g : Good m y o k) : Rz 80 (y / 12) := g.zy.div (l := 4) (Rz.int (szi 12) (by decide)) twelve_ne (by decide)
theorem Good.zst {m y o k : Rat} (g : Good m y o k) {n l : Nat} {i : Int} (h : Sz n i) (h0 : 0 < n) (hl : n + 150 < l) : Sz l (stF m o i) := (Sz.floor (Rz.add (m := n + 150) g.zo (Rz.mul (m := n + 75) (Rz.int h h0) g.zm (by omega)) (by omega))).mono (by omega)
theorem Good.zmd {m y o k : Rat} (g : Good m y o k) {n l : Nat} {i : Int} (h : Sz n i) (h0 : 0 < n) (hl : n + 160 < l) : Sz l (mdF y k i) := (Sz.floor (Rz.add (m := n + 160) g.zk (Rz.mul (m := n + 85) (Rz.int h h0) g.ztw (by omega)) (by omega))).mono (by omega)
theorem Good.zj {m y o k : Rat} (g : Good m y o k) {n l : Nat} {i : Int} (h : Sz n i) (h0 : 0 < n) (hl : n + 160 < l) : Sz l (jF y k i) := (Sz.ceil (Rz.div (m := n + 160) (Rz.sub (m := n + 75) (Rz.int h h0) g.zk (by omega)) g.ztw (by have := g.fit.ypos; grind) (by omega))).mono (by omega)
def spCaI (C Cc : Addr) : Sp := fun vs H Q _ => ∃ (p dx : Addr) (v u x z : V) (m y o k : Rat), vs = [.ref p, v, u, x, z] ∧ H p = some (.ins Cc dx []) ∧ Rv C H v m ∧ Rv C H u y ∧ Mv C H x o ∧ Mv C H z k ∧ Good m y o k ∧
  ∀ H', But p H H' → Cl C Cc H' p m y o k → Q .non H'
section
variable {P : Program} {w : World} {K : PySem.W.Frag} {mg : Str → Option Value} {base : Heap} {C Cc : Addr}
theorem ok_caI (D : Di K mg "Calendar" Cc "Calendar.__init__" s_Calendar_init [.non, .non]) (T : CaT K C Cc) (F : ShF P w K mg base C) (un : Ca P w K mg base CX0 7 "refuse_unfit" s_refuse_unfit [] ["month", "year"] (spUnfit C))
    (mo : Ca P w K mg base CX0 6 "moment_or_nought" s_moment_or_nought [] ["moment"] (spMoment C)) :
    Ci P w K mg base CX0 8 "Calendar" Cc "Calendar.__init__" s_Calendar_init [.non, .non] ["self", "month", "year", "moon", "mark"] (spCaI C Cc) := by
  refine ci0 (k := 7) D c_Calendar_init (fun vs H Q E h => ?_) fun f cdv A outer s H vs Q E hr h => ?_
  · obtain ⟨p, dx, v, u, x, z, m, y, o, k, rfl, _⟩ := h
    rfl
  · obtain ⟨p, dx, v, u, x, z, m, y, o, k, rfl, hp, hv, hu, hx, hz, g, q⟩ := h
    refine ⟨_, pss_cons (ps_expr (pe_ca un b_refuse_unfit hr (by decide) pass0 rfl (pa_cons (pv 1) (pa_cons (pv 2) pa_nil))))
      (pss_cons (ps_fld (pv 0) (pe_ca F.asS b_as_share hr (by decide) pass0 rfl (pa_cons (pv 1) pa_nil)) rfl)
      (pss_cons (ps_fld (pv 0) (pe_ca F.asS b_as_share hr (by decide) pass0 rfl (pa_cons (pv 2) pa_nil)) rfl)
      (pss_cons (ps_fld (pv 0) (pe_ca mo b_moment_or_nought hr (by decide) pass0 rfl (pa_cons (pv 3) pa_nil)) rfl)
      (pss_one (ps_fld (pv 0) (pe_ca mo b_moment_or_nought hr (by decide) pass0 rfl (pa_cons (pv 4) pa_nil)) rfl))))), ?_⟩
    refine ⟨_, rfl, _, rfl, v, u, m, y, rfl, hv, hu, g.zm.mono (by decide), g.zy.mono (by decide), g.fit, fun H1 s1 => ?_⟩
    refine ⟨_, rfl, v, m, rfl, hv.same s1, g.zm.mono (by decide), fun a H2 s2 ha => ?_⟩
    have hp2 := s2 _ _ (s1 _ _ hp)
    refine ⟨_, rfl, p, Cc, dx, _, rfl, hp2, T.cl, T.n1, (by show 0 < 1000; decide), ?_⟩
    refine ⟨_, rfl, u, y, rfl, ((hu.same s1).same s2).put T.ne hp2, g.zy.mono (by decide), fun b H3 s3 hb => ?_⟩
    have hp3 := s3 _ _ (upd_same (H := H2) (a := p))
    refine ⟨_, rfl, p, Cc, dx, _, rfl, hp3, T.cl, T.n2, (by show 1 < 1000; decide), ?_⟩
    refine ⟨_, rfl, x, o, rfl, ((((hx.same s1).same s2).put T.ne hp2).same s3).put T.ne hp3, g.zo.mono (by decide), fun c H4 s4 hc => ?_⟩
    have hp4 := s4 _ _ (upd_same (H := H3) (a := p))
    refine ⟨_, rfl, p, Cc, dx, _, rfl, hp4, T.cl, T.n3, (by show 2 < 1000; decide), ?_⟩
    refine ⟨_, rfl, z, k, rfl, ((((((hz.same s1).same s2).put T.ne hp2).same s3).put T.ne hp3).same s4).put T.ne hp4, g.zk.mono (by decide), fun d H5 s5 hd => ?_⟩
    have hp5 := s5 _ _ (upd_same (H := H4) (a := p))
    refine ⟨_, rfl, p, Cc, dx, _, rfl, hp5, T.cl, T.n4, (by show 3 < 1000; decide), ?_⟩
    refine q _ ?_ ⟨dx, a, b, c, d, upd_same, ?_, ?_, ?_, hd.put T.ne hp5⟩
    · have b1 : But p H H2 := But.same (s1.trans s2)
      have b2 : But p H H3 := b1.put.trans (But.same s3)
      have b3 : But p H H4 := b2.put.trans (But.same s4)
      exact (b3.put.trans (But.same s5)).put
    · exact (((((((ha.put T.ne hp2).same s3).put T.ne hp3).same s4).put T.ne hp4).same s5).put T.ne hp5)
    · exact (((((hb.put T.ne hp3).same s4).put T.ne hp4).same s5).put T.ne hp5)
    · exact (((hc.put T.ne hp4).same s5).put T.ne hp5)
end
section
variable {P : Program} {w : World} {K : PySem.W.Frag} {mg : Str → Option Value} {base : Heap} {C Cc : Addr}
theorem ok_start (D : Dm K Cc "start" "Calendar.start" s_Calendar_start) (T : CaT K C Cc) (nth : Ca P w K mg base CX0 6 "nth_day" s_nth_day [] ["first", "step", "n"] (spNth C)) :
    Cm P w K mg base CX0 7 Cc "start" "Calendar.start" s_Calendar_start ["self", "k"] (spM1 C Cc 3000 fun m _ o _ i => .int (stF m o i)) := by
  refine cm0 (k := 6) D c_Calendar_start (fun vs H Q E h => ?_) fun f cdv A outer s H vs Q E hr h => ?_
  · obtain ⟨p, i, m, y, o, k, rfl, _⟩ := h
    rfl
  · obtain ⟨p, i, m, y, o, k, rfl, ⟨dx, a, b, c, d, e, h1, h2, h3, h4⟩, g, zi, q⟩ := h
    refine ⟨_, pss_one (ps_ret (pe_ca nth b_nth_day hr (by decide) pass0 rfl (pa_cons (pe_fld (pv 0) rfl) (pa_cons (pe_fld (pv 0) rfl) (pa_cons (pv 1) pa_nil))))), ?_⟩
    exact ⟨_, rfl, p, Cc, dx, _, _, rfl, e, T.cl, T.n3, cf_moon _ _ _ _, _, rfl, p, Cc, dx, _, _, rfl, e, T.cl, T.n1, cf_month _ _ _ _, _, rfl, _, _, o, m, i, rfl, h3.rv, h1.rv, g.zo.mono (by decide), g.zm.mono (by decide), zi, q⟩
end
section
variable {P : Program} {w : World} {K : PySem.W.Frag} {mg : Str → Option Value} {base : Heap} {C Cc : Addr}
theorem ok_month_at (D : Dm K Cc "month_at" "Calendar.month_at" s_Calendar_month_at) (T : CaT K C Cc) (fr : Ca P w K mg base CX0 6 "first_from" s_first_from [] ["first", "step", "day"] (spFrom C)) :
    Cm P w K mg base CX0 7 Cc "month_at" "Calendar.month_at" s_Calendar_month_at ["self", "day"] (spM1 C Cc 2900 fun m _ o _ i => .int (maF m o i)) := by
  refine cm0 (k := 6) D c_Calendar_month_at (fun vs H Q E h => ?_) fun f cdv A outer s H vs Q E hr h => ?_
  · obtain ⟨p, i, m, y, o, k, rfl, _⟩ := h
    rfl
  · obtain ⟨p, i, m, y, o, k, rfl, ⟨dx, a, b, c, d, e, h1, h2, h3, h4⟩, g, zi, q⟩ := h
    refine ⟨_, pss_one (ps_ret (pe_op op_sub (pe_ca fr b_first_from hr (by decide) pass0 rfl (pa_cons (pe_fld (pv 0) rfl) (pa_cons (pe_fld (pv 0) rfl) (pa_cons (pe_op op_add (pv 1) pe_int) pa_nil)))) pe_int)), ?_⟩
    refine ⟨_, rfl, p, Cc, dx, _, _, rfl, e, T.cl, T.n3, cf_moon _ _ _ _, _, rfl, p, Cc, dx, _, _, rfl, e, T.cl, T.n1, cf_month _ _ _ _, _, rfl, _, _, rfl, rfl, _, _, o, m, i + 1, rfl, h3.rv, h1.rv, g.zo.mono (by decide), g.zm.mono (by decide), ?_, (by have := g.fit.pos; grind), fun H' hs => ⟨_, _, rfl, rfl, q H' hs⟩⟩
    exact Sz.add (n := 2900) zi (szi 1 (Nat.one_lt_two_pow (by decide))) (by decide)
end
section
variable {P : Program} {w : World} {K : PySem.W.Frag} {mg : Str → Option Value} {base : Heap} {C Cc : Addr}
theorem ok_mark_day (D : Dm K Cc "mark_day" "Calendar.mark_day" s_Calendar_mark_day) (T : CaT K C Cc) (nth : Ca P w K mg base CX0 6 "nth_day" s_nth_day [] ["first", "step", "n"] (spNth C)) (tw : Ca P w K mg base CX0 6 "twelfth" s_twelfth [] ["year"] (spTw C)) :
    Cm P w K mg base CX0 7 Cc "mark_day" "Calendar.mark_day" s_Calendar_mark_day ["self", "j"] (spM1 C Cc 3000 fun _ y _ k i => .int (mdF y k i)) := by
  refine cm0 (k := 6) D c_Calendar_mark_day (fun vs H Q E h => ?_) fun f cdv A outer s H vs Q E hr h => ?_
  · obtain ⟨p, i, m, y, o, k, rfl, _⟩ := h
    rfl
  · obtain ⟨p, i, m, y, o, k, rfl, ⟨dx, a, b, c, d, e, h1, h2, h3, h4⟩, g, zi, q⟩ := h
    refine ⟨_, pss_one (ps_ret (pe_ca nth b_nth_day hr (by decide) pass0 rfl (pa_cons (pe_fld (pv 0) rfl) (pa_cons (pe_ca tw b_twelfth hr (by decide) pass0 rfl (pa_cons (pe_fld (pv 0) rfl) pa_nil)) (pa_cons (pv 1) pa_nil))))), ?_⟩
    refine ⟨_, rfl, p, Cc, dx, _, _, rfl, e, T.cl, T.n4, cf_mark _ _ _ _, _, rfl, p, Cc, dx, _, _, rfl, e, T.cl, T.n2, cf_year _ _ _ _, _, y, rfl, h2.rv, g.zy.mono (by decide), fun p1 H1 n1 s1 t1 => ?_⟩
    exact ⟨_, rfl, _, _, k, _, i, rfl, (h4.same s1).rv, t1.rv, g.zk.mono (by decide), g.ztw.mono (by decide), zi, fun H' hs => q H' (s1.trans hs)⟩
end
section
variable {P : Program} {w : World} {K : PySem.W.Frag} {mg : Str → Option Value} {base : Heap} {C Cc : Addr}
theorem ok_month_with (D : Dm K Cc "month_with" "Calendar.month_with" s_Calendar_month_with) (T : CaT K C Cc)
    (ma : Cm P w K mg base CX0 7 Cc "month_at" "Calendar.month_at" s_Calendar_month_at ["self", "day"] (spM1 C Cc 2900 fun m _ o _ i => .int (maF m o i)))
    (md : Cm P w K mg base CX0 7 Cc "mark_day" "Calendar.mark_day" s_Calendar_mark_day ["self", "j"] (spM1 C Cc 3000 fun _ y _ k i => .int (mdF y k i))) :
    Cm P w K mg base CX0 8 Cc "month_with" "Calendar.month_with" s_Calendar_month_with ["self", "j"] (spM1 C Cc 2000 fun m y o k i => .int (maF m o (mdF y k i))) := by
  refine cm0 (k := 7) D c_Calendar_month_with (fun vs H Q E h => ?_) fun f cdv A outer s H vs Q E hr h => ?_
  · obtain ⟨p, i, m, y, o, k, rfl, _⟩ := h
    rfl
  · obtain ⟨p, i, m, y, o, k, rfl, hc, g, zi, q⟩ := h
    obtain ⟨dx, a, b, c, d, e, h1, h2, h3, h4⟩ := id hc
    refine ⟨_, pss_one (ps_ret (pe_cm ma b_Calendar_month_at hr (by decide) pass0 (pv 0) (pa_cons (pe_cm md b_Calendar_mark_day hr (by decide) pass0 (pv 0) (pa_cons (pv 1) pa_nil)) pa_nil))), ?_⟩
    refine ⟨_, rfl, p, dx, _, rfl, e, cf_no _ _ _ _, _, rfl, p, dx, _, rfl, e, cf_no _ _ _ _, _, rfl, p, i, m, y, o, k, rfl, hc, g, zi.mono (by decide), fun H1 s1 => ?_⟩
    exact ⟨p, _, m, y, o, k, rfl, hc.same s1, g, g.zmd zi (by decide) (by decide), fun H2 s2 => q H2 (s1.trans s2)⟩
end
section
variable {P : Program} {w : World} {K : PySem.W.Frag} {mg : Str → Option Value} {base : Heap} {C Cc : Addr}
theorem ok_mark_in (D : Dm K Cc "mark_in" "Calendar.mark_in" s_Calendar_mark_in) (T : CaT K C Cc) (fr : Ca P w K mg base CX0 6 "first_from" s_first_from [] ["first", "step", "day"] (spFrom C)) (tw : Ca P w K mg base CX0 6 "twelfth" s_twelfth [] ["year"] (spTw C))
    (stt : Cm P w K mg base CX0 7 Cc "start" "Calendar.start" s_Calendar_start ["self", "k"] (spM1 C Cc 3000 fun m _ o _ i => .int (stF m o i)))
    (md : Cm P w K mg base CX0 7 Cc "mark_day" "Calendar.mark_day" s_Calendar_mark_day ["self", "j"] (spM1 C Cc 3000 fun _ y _ k i => .int (mdF y k i))) :
    Cm P w K mg base CX0 8 Cc "mark_in" "Calendar.mark_in" s_Calendar_mark_in ["self", "k"] (spM1 C Cc 1400 miF) := by
  refine cm0 (k := 7) D c_Calendar_mark_in (fun vs H Q E h => ?_) fun f cdv A outer s H vs Q E hr h => ?_
  · obtain ⟨p, i, m, y, o, k, rfl, _⟩ := h
    rfl
  · obtain ⟨p, i, m, y, o, k, rfl, hc, g, zi, q⟩ := h
    obtain ⟨dx, a, b, c, d, e, h1, h2, h3, h4⟩ := id hc
    refine ⟨_, pss_cons (ps_set (i := 2) c_Calendar_mark_in.nd rfl (.inl rfl) (pe_ca fr b_first_from hr (by decide) pass0 rfl (pa_cons (pe_fld (pv 0) rfl) (pa_cons (pe_ca tw b_twelfth hr (by decide) pass0 rfl (pa_cons (pe_fld (pv 0) rfl) pa_nil)) (pa_cons (pe_cm stt b_Calendar_start hr (by decide) pass0 (pv 0) (pa_cons (pv 1) pa_nil)) pa_nil)))))
      (pss_cons (ps_if (pt_cmpR op_lt (pe_cm md b_Calendar_mark_day hr (by decide) pass0 (pv 0) (pa_cons (pv 2) pa_nil)) (pe_cm stt b_Calendar_start hr (by decide) pass0 (pv 0) (pa_cons (pe_op op_add (pv 1) pe_int) pa_nil)) (nomark _)) (pss_one (ps_ret (pv 2))) pss_nil)
      (pss_one (ps_ret pe_non))), ?_⟩
    have zs : Sz 2100 (stF m o i) := g.zst zi (by decide) (by decide)
    have zj : Sz 2900 (jF y k (stF m o i)) := g.zj zs (by decide) (by decide)
    refine ⟨_, rfl, p, Cc, dx, _, _, rfl, e, T.cl, T.n4, cf_mark _ _ _ _, _, rfl, p, Cc, dx, _, _, rfl, e, T.cl, T.n2, cf_year _ _ _ _, _, y, rfl, h2.rv, g.zy.mono (by decide), fun p1 H1 n1 s1 t1 => ?_⟩
    refine ⟨_, rfl, p, dx, _, rfl, s1 _ _ e, cf_no _ _ _ _, _, rfl, p, i, m, y, o, k, rfl, hc.same s1, g, zi.mono (by decide), fun H2 s2 => ?_⟩
    have s12 : Same H H2 := s1.trans s2
    refine ⟨_, _, k, _, _, rfl, (h4.same s12).rv, (t1.same s2).rv, g.zk.mono (by decide), g.ztw.mono (by decide), zs.mono (by decide), (by have := g.fit.ypos; grind), fun H3 s3 => ?_⟩
    have s13 : Same H H3 := s12.trans s3
    refine ⟨_, rfl, p, dx, _, rfl, s13 _ _ e, cf_no _ _ _ _, _, rfl, p, _, m, y, o, k, rfl, hc.same s13, g, zj.mono (by decide), fun H4 s4 => ?_⟩
    have s14 : Same H H4 := s13.trans s4
    refine ⟨_, rfl, p, dx, _, rfl, s14 _ _ e, cf_no _ _ _ _, _, rfl, _, _, rfl, rfl, p, _, m, y, o, k, rfl, hc.same s14, g, Sz.add (n := 1400) zi (szi 1 (Nat.one_lt_two_pow (by decide))) (by decide), fun H5 s5 => ⟨_, _, rfl, rfl, _, rfl, ?_⟩⟩
    have s15 : Same H H5 := s14.trans s5
    have q5 := q H5 s15
    unfold miF at q5
    refine ite2 (fun hb => ?_) (fun hb => ?_)
    · rw [if_pos (show mdF y k (jF y k (stF m o i)) < stF m o (i + 1) from of_decide_eq_true hb)] at q5
      exact ⟨_, rfl, q5⟩
    · rw [if_neg (show ¬ mdF y k (jF y k (stF m o i)) < stF m o (i + 1) from fun z => hb (decide_eq_true z))] at q5
      exact q5
end
/-! ### the law's own fractions: tuples in lowest terms -/
theorem int_num (i : Int) : ((i : Rat)).num = i := rfl
theorem int_den (i : Int) : ((i : Rat)).den = 1 := rfl
def Tp (H : Hp) (a : Addr) (q : Rat) : Prop := H a = some (.tup [.int q.num, .int q.den])
theorem Tp.same {H H1 : Hp} {a : Addr} {q : Rat} (h : Tp H a q) (s : Same H H1) : Tp H1 a q := s _ _ h
/-- a fraction not always in lowest terms -/
def Tq (H : Hp) (a : Addr) (n : Nat) (q : Rat) : Prop := ∃ t b : Int, H a = some (.tup [.int t, .int b]) ∧ b ≠ 0 ∧ q = Rat.divInt t b ∧ Sz n t ∧ Sz n b
theorem Tp.tq {H : Hp} {a : Addr} {n : Nat} {q : Rat} (h : Tp H a q) (z : Rz n q) : Tq H a n q := ⟨q.num, q.den, h, Int.ne_of_gt (den_pos q), (Rat.num_divInt_den q).symm, z.1, z.2⟩
theorem Tq.same {H H1 : Hp} {a : Addr} {n : Nat} {q : Rat} (h : Tq H a n q) (s : Same H H1) : Tq H1 a n q := by
  obtain ⟨t, b, e, r⟩ := h
  exact ⟨t, b, s _ _ e, r⟩
def spT2 (g : Rat → Rat → Rat) : Sp := fun vs H Q _ => ∃ (a b : Addr) (x y : Rat), vs = [.ref a, .ref b] ∧ Tq H a 4300 x ∧ Tq H b 4300 y ∧ ∀ r H', H r = none → Same H H' → Tp H' r (g x y) → Q (.ref r) H'
theorem int_div (i : Int) {n : Nat} (h : Sz n i) (h0 : 0 < n) {H : Hp} {t : Addr} : Tq (L2.upd H t (.tup [.int i, .int 1])) t n (i : Rat) := ⟨i, 1, upd_same, by decide, (divInt_one i).symm, h, szi 1 (Nat.one_lt_two_pow (by omega))⟩
section
variable {P : Program} {w : World} {K : PySem.W.Frag} {mg : Str → Option Value} {base : Heap}
theorem ok_lplus (D : Df K mg "_law_plus" s_l_plus []) (lo : Ca P w K mg base CX0 1 "_law_low" s_l_low [] ["_law_top", "_law_bottom"] spLow) : Ca P w K mg base CX0 2 "_law_plus" s_l_plus [] ["_law_one", "_law_two"] (spT2 fun a b => a + b) := by
  refine ca0 (k := 1) D c_l_plus (fun vs H Q E h => ?_) fun f cdv A outer s H vs Q E hr h => ?_
  · obtain ⟨a, b, x, y, rfl, _⟩ := h
    rfl
  · obtain ⟨a, b, x, y, rfl, ⟨t, u, ha, hu, rfl, zt, zu⟩, ⟨t', u', hb, hu', rfl, zt', zu'⟩, q⟩ := h
    refine ⟨_, pss_one (ps_ret (pe_ca lo b_l_low hr (by decide) pass0 rfl (pa_cons (pe_op op_add (pe_op op_mulA (pe_ix ix_tup (pv 0) pe_int (fun _ _ => rfl)) (pe_ix ix_tup (pv 1) pe_int (fun _ _ => rfl))) (pe_op op_mulA (pe_ix ix_tup (pv 1) pe_int (fun _ _ => rfl)) (pe_ix ix_tup (pv 0) pe_int (fun _ _ => rfl))))
      (pa_cons (pe_op op_mulA (pe_ix ix_tup (pv 0) pe_int (fun _ _ => rfl)) (pe_ix ix_tup (pv 1) pe_int (fun _ _ => rfl))) pa_nil)))), ?_⟩
    have mz : ∀ i j : Int, Sz 4300 i → Sz 4300 j → CMulA i j := fun i j hi hj => ⟨hi.mono (by decide), hj.mono (by decide)⟩
    have ha' := SqT.of (K := K) ha
    have hb' := SqT.of (K := K) hb
    refine ⟨_, rfl, a, _, _, _, rfl, rfl, ha', rfl, _, rfl, b, _, _, _, rfl, rfl, hb', rfl, _, _, rfl, rfl, mz _ _ zt zu', _, rfl, b, _, _, _, rfl, rfl, hb', rfl, _, rfl, a, _, _, _, rfl, rfl, ha', rfl, _, _, rfl, rfl, mz _ _ zt' zu, _, _, rfl, rfl,
      _, rfl, a, _, _, _, rfl, rfl, ha', rfl, _, rfl, b, _, _, _, rfl, rfl, hb', rfl, _, _, rfl, rfl, mz _ _ zu zu', _, _, rfl, Int.mul_ne_zero hu hu', ?_, ?_, fun r hr' => ?_⟩
    · exact Sz.add (n := 8600) ((zt.mul zu').mono (by decide)) ((zt'.mul zu).mono (by decide)) (by decide)
    · exact (zu.mul zu').mono (by decide)
    · refine q r _ hr' (Same.new hr') ?_
      show L2.upd H r _ r = _
      rw [upd_same, ← Rat.divInt_add_divInt t t' hu hu']
theorem ok_lby (D : Df K mg "_law_by" s_l_by []) (lo : Ca P w K mg base CX0 1 "_law_low" s_l_low [] ["_law_top", "_law_bottom"] spLow) : Ca P w K mg base CX0 2 "_law_by" s_l_by [] ["_law_one", "_law_two"] (spT2 fun a b => a * b) := by
  refine ca0 (k := 1) D c_l_by (fun vs H Q E h => ?_) fun f cdv A outer s H vs Q E hr h => ?_
  · obtain ⟨a, b, x, y, rfl, _⟩ := h
    rfl
  · obtain ⟨a, b, x, y, rfl, ⟨t, u, ha, hu, rfl, zt, zu⟩, ⟨t', u', hb, hu', rfl, zt', zu'⟩, q⟩ := h
    refine ⟨_, pss_one (ps_ret (pe_ca lo b_l_low hr (by decide) pass0 rfl (pa_cons (pe_op op_mulA (pe_ix ix_tup (pv 0) pe_int (fun _ _ => rfl)) (pe_ix ix_tup (pv 1) pe_int (fun _ _ => rfl)))
      (pa_cons (pe_op op_mulA (pe_ix ix_tup (pv 0) pe_int (fun _ _ => rfl)) (pe_ix ix_tup (pv 1) pe_int (fun _ _ => rfl))) pa_nil)))), ?_⟩
    have mz : ∀ i j : Int, Sz 4300 i → Sz 4300 j → CMulA i j := fun i j hi hj => ⟨hi.mono (by decide), hj.mono (by decide)⟩
    have ha' := SqT.of (K := K) ha
    have hb' := SqT.of (K := K) hb
    refine ⟨_, rfl, a, _, _, _, rfl, rfl, ha', rfl, _, rfl, b, _, _, _, rfl, rfl, hb', rfl, _, _, rfl, rfl, mz _ _ zt zt',
      _, rfl, a, _, _, _, rfl, rfl, ha', rfl, _, rfl, b, _, _, _, rfl, rfl, hb', rfl, _, _, rfl, rfl, mz _ _ zu zu', _, _, rfl, Int.mul_ne_zero hu hu', ?_, ?_, fun r hr' => ?_⟩
    · exact (zt.mul zt').mono (by decide)
    · exact (zu.mul zu').mono (by decide)
    · refine q r _ hr' (Same.new hr') ?_
      show L2.upd H r _ r = _
      rw [upd_same, ← Rat.divInt_mul_divInt t t']
end
/-! the law's calendars -/
def Fo (H : Hp) (r : Addr) (m y o k : Rat) : Prop := ∃ a b c d, H r = some (.tup [.ref a, .ref b, .ref c, .ref d]) ∧ Tp H a m ∧ Tp H b y ∧ Tp H c o ∧ Tp H d k
theorem Fo.same {H H1 : Hp} {r : Addr} {m y o k : Rat} (h : Fo H r m y o k) (s : Same H H1) : Fo H1 r m y o k := by
  obtain ⟨a, b, c, d, e, h1, h2, h3, h4⟩ := h
  exact ⟨a, b, c, d, s _ _ e, h1.same s, h2.same s, h3.same s, h4.same s⟩
def spFloor : Sp := fun vs H Q _ => ∃ (a : Addr) (x : Rat), vs = [.ref a] ∧ Tp H a x ∧ Rz 8700 x ∧ Q (.int x.floor) H
/-- a function of the four and a number -/
def spF1 (n : Nat) (g : Rat → Rat → Rat → Rat → Int → V) : Sp := fun vs H Q _ => ∃ (r : Addr) (i : Int) (m y o k : Rat), vs = [.ref r, .int i] ∧ Fo H r m y o k ∧ Good m y o k ∧ Sz n i ∧ ∀ H', Same H H' → Q (g m y o k i) H'
section
variable {P : Program} {w : World} {K : PySem.W.Frag} {mg : Str → Option Value} {base : Heap}
theorem ok_lfloor (D : Df K mg "_law_floor" s_l_floor []) : Ca P w K mg base CX0 1 "_law_floor" s_l_floor [] ["_law_fraction"] spFloor := by
  refine ca0 (k := 0) D c_l_floor (fun vs H Q E h => ?_) fun f cdv A outer s H vs Q E hr h => ?_
  · obtain ⟨a, x, rfl, _⟩ := h
    rfl
  · obtain ⟨a, x, rfl, ha, zx, q⟩ := h
    refine ⟨_, pss_one (ps_ret (pe_op op_fdivA (pe_ix ix_tup (pv 0) pe_int (fun _ _ => rfl)) (pe_ix ix_tup (pv 0) pe_int (fun _ _ => rfl)))), ?_⟩
    refine ⟨_, rfl, a, _, _, _, rfl, rfl, SqT.of ha, rfl, _, rfl, a, _, _, _, rfl, rfl, SqT.of ha, rfl, _, _, rfl, rfl, ⟨Int.ne_of_gt (den_pos x), zx.2.mono (by decide)⟩, ?_⟩
    have e : x.num.fdiv (x.den : Int) = x.floor := by rw [Rat.floor_def, Int.fdiv_eq_ediv_of_nonneg _ (Int.le_of_lt (den_pos x))]
    show Q (V.int (x.num.fdiv (x.den : Int))) _
    rw [e]
    exact q
theorem ok_lstart (D : Df K mg "_law_start" s_l_start []) (fl : Ca P w K mg base CX0 1 "_law_floor" s_l_floor [] ["_law_fraction"] spFloor) (pl : Ca P w K mg base CX0 2 "_law_plus" s_l_plus [] ["_law_one", "_law_two"] (spT2 fun a b => a + b)) (by' : Ca P w K mg base CX0 2 "_law_by" s_l_by [] ["_law_one", "_law_two"] (spT2 fun a b => a * b)) :
    Ca P w K mg base CX0 3 "_law_start" s_l_start [] ["_law_four_here", "_law_k"] (spF1 3000 fun m _ o _ i => .int (stF m o i)) := by
  refine ca0 (k := 2) D c_l_start (fun vs H Q E h => ?_) fun f cdv A outer s H vs Q E hr h => ?_
  · obtain ⟨r, i, m, y, o, k, rfl, _⟩ := h
    rfl
  · obtain ⟨r, i, m, y, o, k, rfl, ⟨a, b, c, d, e, h1, h2, h3, h4⟩, g, zi, q⟩ := h
    refine ⟨_, pss_one (ps_ret (pe_ca fl b_l_floor hr (by decide) pass0 rfl (pa_cons (pe_ca pl b_l_plus hr (by decide) pass0 rfl (pa_cons (pe_ix ix_tup (pv 0) pe_int (fun _ _ => rfl)) (pa_cons (pe_ca by' b_l_by hr (by decide) pass0 rfl (pa_cons (pe_ix ix_tup (pv 0) pe_int (fun _ _ => rfl)) (pa_cons (pe_tup (pa_cons (pv 1) (pa_cons pe_int pa_nil))) pa_nil))) pa_nil))) pa_nil))), ?_⟩
    refine ⟨_, rfl, r, _, _, _, rfl, rfl, SqT.of e, rfl, _, rfl, r, _, _, _, rfl, rfl, SqT.of e, rfl, _, rfl, (by show 2 ≤ sizeLine; decide), fun t ht => ?_⟩
    have s0 : Same H (L2.upd H t (.tup [.int i, .int 1])) := Same.new ht
    refine ⟨a, t, m, i, rfl, (h1.same s0).tq (g.zm.mono (by decide)), int_div i (zi.mono (by decide)) (by decide), fun t1 H1 n1 s1 e1 => ?_⟩
    have z1 : Rz 3400 (m * i) := g.zm.mul (Rz.int zi (by decide)) (by decide)
    have s01 := s0.trans s1
    refine ⟨c, t1, o, _, rfl, (h3.same s01).tq (g.zo.mono (by decide)), e1.tq (z1.mono (by decide)), fun t2 H2 n2 s2 e2 => ?_⟩
    refine ⟨t2, _, rfl, e2, (g.zo.add z1 (by decide : _ < 3800)).mono (by decide), ?_⟩
    have q2 := q H2 (s01.trans s2)
    have ee : o + m * (i : Rat) = o + i * m := by rw [Rat.mul_comm]
    show Q (V.int (o + m * (i : Rat)).floor) H2
    rw [ee]
    exact q2
end
/-! ### names of months -/
theorem mi_ahead {m y o k : Rat} (f : Fit m y) (i : Int) (h : ¬ mdF y k (jF y k (stF m o i)) < stF m o (i + 1)) : mdF y k (jF y k (stF m o (i - 1))) < stF m o i := by
  have two := two_months (m := m) (y := y) (o := o) (k := k) f i
  apply Int.not_le.mp
  intro hge
  have hlt : mdF y k (jF y k (stF m o (i - 1)) - 1) < stF m o (i - 1) := (md_lt f.ypos).mpr (by omega)
  have st0 := st_step (o := o) f.one (i - 1)
  rw [show i - 1 + 1 = i by omega] at st0
  have h1 : jF y k (stF m o (i - 1)) - 1 < jF y k (stF m o i) := (md_lt f.ypos).mp (by omega)
  have h2 : ¬ jF y k (stF m o (i - 1)) < jF y k (stF m o i) := fun z => by
    have := (md_lt f.ypos).mpr z
    omega
  have h3 : jF y k (stF m o (i - 1)) = jF y k (stF m o i) := by omega
  rw [h3] at two
  exact h two
/-- the mark that names a month, and whether it is the month's own -/
def nmJ (m y o k : Rat) (i : Int) : Int := if mdF y k (jF y k (stF m o i)) < stF m o (i + 1) then jF y k (stF m o i) else jF y k (stF m o (i - 1))
def nmO (m y o k : Rat) (i : Int) : Bool := !decide (mdF y k (jF y k (stF m o i)) < stF m o (i + 1))
def nmL (m y o k : Rat) (i : Int) : List V := [.int (nmJ m y o k i / 12), .int (nmJ m y o k i % 12 + 1), .bl (nmO m y o k i)]
theorem nm_own {m y o k : Rat} {i : Int} (h : mdF y k (jF y k (stF m o i)) < stF m o (i + 1)) : miF m y o k i = .int (nmJ m y o k i) ∧ nmO m y o k i = false := by
  unfold miF nmJ nmO
  rw [if_pos h, if_pos h, decide_eq_true h]
  exact ⟨rfl, rfl⟩
theorem nm_odd {m y o k : Rat} (f : Fit m y) {i : Int} (h : ¬ mdF y k (jF y k (stF m o i)) < stF m o (i + 1)) : miF m y o k i = .non ∧ miF m y o k (i - 1) = .int (nmJ m y o k i) ∧ nmO m y o k i = true ∧ nmO m y o k (i - 1) = false ∧ nmJ m y o k (i - 1) = nmJ m y o k i := by
  have a := mi_ahead f i h
  have a' : mdF y k (jF y k (stF m o (i - 1))) < stF m o (i - 1 + 1) := by rw [show i - 1 + 1 = i by omega]; exact a
  unfold miF nmJ nmO
  rw [if_neg h, if_neg h, decide_eq_false h, if_pos a', if_pos a', decide_eq_true a']
  exact ⟨rfl, rfl, rfl, rfl, rfl⟩
def spName (C Cc : Addr) : Sp := fun vs H Q _ => ∃ (p : Addr) (i : Int) (m y o k : Rat), vs = [.ref p, .int i] ∧ Cl C Cc H p m y o k ∧ Good m y o k ∧ Sz 1390 i ∧ ∀ r H', H r = none → Same H H' → H' r = some (.tup (nmL m y o k i)) → Q (.ref r) H'
def spLName : Sp := fun vs H Q _ => ∃ (r : Addr) (i : Int) (m y o k : Rat), vs = [.ref r, .int i] ∧ Fo H r m y o k ∧ Good m y o k ∧ Sz 1390 i ∧ ∀ r' H', H r' = none → Same H H' → H' r' = some (.tup (nmL m y o k i)) → Q (.ref r') H'
def spIsName : Sp := fun vs H Q _ => ∃ (r : Addr) (a b : Int) (c : Bool), vs = [.ref r] ∧ H r = some (.tup [.int a, .int b, .bl c]) ∧ Q (.bl true) H
section
variable {P : Program} {w : World} {K : PySem.W.Frag} {mg : Str → Option Value} {base : Heap} {C Cc : Addr}
theorem ok_name (D : Dm K Cc "name_of" "Calendar.name_of" s_Calendar_name_of) (f_mark_in : Cm P w K mg base CX0 8 Cc "mark_in" "Calendar.mark_in" s_Calendar_mark_in ["self", "k"] (spM1 C Cc 1400 miF)) {tk : Tok} (h_MARKS : mg "MARKS" = some (.int 12 tk)) : Cm P w K mg base CX0 9 Cc "name_of" "Calendar.name_of" s_Calendar_name_of ["self", "k"] (spName C Cc) := by
  refine cm0 (k := 8) D c_Calendar_name_of (fun vs H Q E h => ?_) fun f cdv A outer s H vs Q E hr h => ?_
  · obtain ⟨p, i, m, y, o, k, rfl, _⟩ := h
    rfl
  · obtain ⟨p, i, m, y, o, k, rfl, hc, g, zi, q⟩ := h
    obtain ⟨dx, a, b, c, d, e, h1, h2, h3, h4⟩ := id hc
    refine ⟨_, (pss_cons (ps_set (i := 2) c_Calendar_name_of.nd rfl (.inl rfl) (pe_cm f_mark_in b_Calendar_mark_in hr (by decide) pass0 (pv 0) (pa_cons (pv 1) pa_nil)))
      (pss_cons (ps_set (i := 3) c_Calendar_name_of.nd rfl (.inl rfl) (pe_cmp (pc_isN (pv 2))))
      (pss_cons (ps_if (pt_val (pv 3)) (pss_one (ps_set (i := 2) c_Calendar_name_of.nd rfl (.inl rfl) (pe_cm f_mark_in b_Calendar_mark_in hr (by decide) pass0 (pv 0) (pa_cons (pe_op op_sub (pv 1) pe_int) pa_nil)))) pss_nil)
      (pss_one (ps_ret (pe_tup (pa_cons (pe_op op_fdiv (pv 2) (pe_glob (v := .int 12) rfl h_MARKS ⟨_, rfl⟩)) (pa_cons (pe_op op_add (pe_op op_mod (pv 2) (pe_glob (v := .int 12) rfl h_MARKS ⟨_, rfl⟩)) pe_int) (pa_cons (pv 3) pa_nil))))))))), ?_⟩
    refine ⟨_, rfl, p, dx, _, rfl, e, cf_no _ _ _ _, _, rfl, p, i, m, y, o, k, rfl, hc, g, zi.mono (by decide), fun H1 s1 => ?_⟩
    refine ⟨_, rfl, _, rfl, _, rfl, ?_⟩
    by_cases hmi : mdF y k (jF y k (stF m o i)) < stF m o (i + 1)
    · obtain ⟨e1, e2⟩ := nm_own hmi
      rw [e1]
      refine iteF ?_
      refine ⟨_, rfl, _, _, rfl, rfl, ⟨by decide, by decide⟩, _, rfl, _, _, rfl, rfl, md, _, _, rfl, rfl, _, rfl, (by show 3 ≤ sizeLine; decide), fun r hr' => ?_⟩
      refine q r _ (s1.free hr') (Same.upd s1 hr') ?_
      rw [upd_same]
      unfold nmL
      rw [e2]
      rfl
    · obtain ⟨e1, e2, e3, _⟩ := nm_odd g.fit hmi
      rw [e1]
      refine iteT ?_
      refine ⟨_, rfl, p, dx, _, rfl, s1 _ _ e, cf_no _ _ _ _, _, rfl, _, _, rfl, rfl, p, _, m, y, o, k, rfl, hc.same s1, g, Sz.sub (n := 1390) zi (szi 1 (Nat.one_lt_two_pow (by decide))) (by decide), fun H2 s2 => ?_⟩
      rw [e2]
      refine ⟨_, rfl, _, _, rfl, rfl, ⟨by decide, by decide⟩, _, rfl, _, _, rfl, rfl, md, _, _, rfl, rfl, _, rfl, (by show 3 ≤ sizeLine; decide), fun r hr' => ?_⟩
      refine q r _ ((s1.trans s2).free hr') (Same.upd (s1.trans s2) hr') ?_
      rw [upd_same]
      unfold nmL
      rw [e3]
      rfl
end
theorem zadd {n l : Nat} {i : Int} (h : Sz n i) (c : Int) (hc : c.natAbs ≤ 16 := by decide) (h4 : 5 ≤ n := by decide) (hl : n < l := by decide) : Sz l (i + c) := by
  refine Sz.add h (n := n) ?_ hl
  exact Nat.lt_of_lt_of_le (Nat.lt_of_le_of_lt hc (by decide : 16 < 2 ^ 5)) (Nat.pow_le_pow_right (by decide) h4)
theorem zsub {n l : Nat} {i : Int} (h : Sz n i) (c : Int) (hc : c.natAbs ≤ 16 := by decide) (h4 : 5 ≤ n := by decide) (hl : n < l := by decide) : Sz l (i - c) := by
  refine Sz.sub h (n := n) ?_ hl
  exact Nat.lt_of_lt_of_le (Nat.lt_of_le_of_lt hc (by decide : 16 < 2 ^ 5)) (Nat.pow_le_pow_right (by decide) h4)
theorem zdiv {n : Nat} {i : Int} (h : Sz n i) : Sz n (i / 12) := Nat.lt_of_le_of_lt (natAbs_ediv_le (b := 12) i) h
theorem Good.znm {m y o k : Rat} (g : Good m y o k) {n l : Nat} {i : Int} (h : Sz n i) (h0 : 5 ≤ n) (hl : n + 320 < l) : Sz l (nmJ m y o k i) := by
  have z1 : Sz (n + 151) (stF m o i) := g.zst h (by omega) (by omega)
  have z2 : Sz (n + 152) (stF m o (i - 1)) := g.zst (zsub (l := n + 1) h 1 (by decide) h0 (by omega)) (by omega) (by omega)
  unfold nmJ
  split
  · exact g.zj z1 (by omega) (by omega)
  · exact g.zj z2 (by omega) (by omega)
theorem znat {n : Nat} (j : Nat) (h : j < 1024) (hn : 10 ≤ n) : Sz n (j : Int) := Nat.lt_of_lt_of_le (show (j : Int).natAbs < 2 ^ 10 by omega) (Nat.pow_le_pow_right (by decide) hn)
theorem Good.zma {m y o k : Rat} (g : Good m y o k) {n l : Nat} {i : Int} (h : Sz n i) (h0 : 0 < n) (hl : n + 150 < l) : Sz l (maF m o i) := by
  have z1 : Sz (n + 1) (i + 1) := Sz.add h (szi 1 (Nat.one_lt_two_pow (by omega))) (by omega)
  have z2 : Sz (n + 146) ((((i + 1 : Int) : Rat) - o) / m).ceil := Sz.ceil (Rz.div (m := n + 146) (Rz.sub (m := n + 75) (Rz.int z1 (by omega)) g.zo (by omega)) g.zm (by have := g.fit.pos; grind) (by omega))
  exact (Sz.sub z2 (szi 1 (Nat.one_lt_two_pow (by omega))) (by omega : n + 146 < n + 150)).mono (by omega)
/-! ### months of dates -/
def pmF (m y o k : Rat) (a b : Int) : Int := maF m o (mdF y k (12 * a + b - 1))
def hasM (m y o k : Rat) (i : Int) : Prop := mdF y k (jF y k (stF m o i)) < stF m o (i + 1)
instance {m y o k : Rat} {i : Int} : Decidable (hasM m y o k i) := by
  unfold hasM
  exact inferInstance
theorem miF_eq (m y o k : Rat) (i : Int) : miF m y o k i = if hasM m y o k i then .int (jF y k (stF m o i)) else .non := rfl
/-- the month of a date, or why there is none -/
def moF (m y o k : Rat) (a b : Int) (od : Bool) : Sum Str Int := if b < 1 then .inl "number" else if 12 < b then .inl "number" else if od = true then (if hasM m y o k (pmF m y o k a b + 1) then .inl "odd" else .inr (pmF m y o k a b + 1)) else .inr (pmF m y o k a b)
def dyF (m y o k : Rat) (a b c : Int) (od : Bool) : Sum Str Int := match moF m y o k a b od with
  | .inl w => .inl w
  | .inr i => if c < 1 then .inl "day" else if stF m o (i + 1) - stF m o i < c then .inl "day" else .inr (stF m o i + c - 1)
theorem Good.zpm {m y o k : Rat} (g : Good m y o k) {a b : Int} (ha : Sz 1300 a) (hb : Sz 1300 b) : Sz 1306 (12 * a + b - 1) ∧ Sz 1618 (pmF m y o k a b) := by
  have h1 : Sz 1304 (12 * a) := Sz.mul (szi (n := 4) 12) ha
  have h2 : Sz 1305 (12 * a + b) := Sz.add h1 (hb.mono (by decide)) (by decide)
  have h3 : Sz 1306 (12 * a + b - 1) := zsub h2 1
  have h4 : Sz 1467 (mdF y k (12 * a + b - 1)) := g.zmd h3 (by decide) (by decide)
  exact ⟨h3, g.zma h4 (by decide) (by decide)⟩
def spPlain (C Cc : Addr) : Sp := fun vs H Q _ => ∃ (p : Addr) (a b : Int) (m y o k : Rat), vs = [.ref p, .int a, .int b] ∧ Cl C Cc H p m y o k ∧ Good m y o k ∧ Sz 1300 a ∧ Sz 1300 b ∧ ∀ H', Same H H' → Q (.int (pmF m y o k a b)) H'
def spOddM (C Cc : Addr) : Sp := fun vs H Q _ => ∃ (p : Addr) (a b : Int) (m y o k : Rat), vs = [.ref p, .int a, .int b] ∧ Cl C Cc H p m y o k ∧ Good m y o k ∧ Sz 1300 a ∧ Sz 1300 b ∧ ∀ H', Same H H' → Q (if hasM m y o k (pmF m y o k a b + 1) then .non else .int (pmF m y o k a b + 1)) H'
def spDayIn (C Cc : Addr) : Sp := fun vs H Q _ => ∃ (p : Addr) (a b : Int) (m y o k : Rat), vs = [.ref p, .int a, .int b] ∧ Cl C Cc H p m y o k ∧ Good m y o k ∧ Sz 2000 a ∧ ∀ H', Same H H' → Q (.int (stF m o a + b - 1)) H'
section
variable {P : Program} {w : World} {K : PySem.W.Frag} {mg : Str → Option Value} {base : Heap} {C Cc Cd CD : Addr}
theorem ok_plain (D : Df K mg "plain_month" s_plain_month []) (f_month_with : Cm P w K mg base CX0 8 Cc "month_with" "Calendar.month_with" s_Calendar_month_with ["self", "j"] (spM1 C Cc 2000 fun m y o k i => .int (maF m o (mdF y k i)))) {tk : Tok} (h_MARKS : mg "MARKS" = some (.int 12 tk)) : Ca P w K mg base CX0 9 "plain_month" s_plain_month [] ["calendar", "year", "number"] (spPlain C Cc) := by
  refine ca0 (k := 8) D c_plain_month (fun vs H Q E h => ?_) fun f cdv A outer s H vs Q E hr h => ?_
  · obtain ⟨p, a, b, m, y, o, k, rfl, _⟩ := h
    rfl
  · obtain ⟨p, a, b, m, y, o, k, rfl, hc, g, za, zb, q⟩ := h
    obtain ⟨dx, a1, b1, c1, d1, e, _⟩ := id hc
    refine ⟨_, (pss_one (ps_ret (pe_cm f_month_with b_Calendar_month_with hr (by decide) pass0 (pv 0) (pa_cons (pe_op op_sub (pe_op op_add (pe_op op_mul (pe_glob (v := .int 12) rfl h_MARKS ⟨_, rfl⟩) (pv 1)) (pv 2)) pe_int) pa_nil)))), ?_⟩
    exact ⟨_, rfl, p, dx, _, rfl, e, cf_no _ _ _ _, _, rfl, _, _, rfl, rfl, .inl ⟨by decide, by decide⟩, _, rfl, _, _, rfl, rfl, _, _, rfl, rfl, p, _, m, y, o, k, rfl, hc, g, (g.zpm za zb).1.mono (by decide), fun H' s' => q H' s'⟩
end
/-! ### first days of years -/
def spFd (C Cc : Addr) : Sp := fun vs H Q _ => ∃ (p : Addr) (a : Int) (m y o k : Rat), vs = [.ref p, .int a] ∧ Cl C Cc H p m y o k ∧ Good m y o k ∧ Sz 1300 a ∧ ∀ H', Same H H' → Q (.int (fdF m y o k a)) H'
theorem pm_one (m y o k : Rat) (a : Int) : pmF m y o k a 1 = maF m o (mdF y k (12 * a)) := by
  unfold pmF
  rw [show 12 * a + 1 - 1 = 12 * a by omega]
theorem Good.zfd {m y o k : Rat} (g : Good m y o k) {n l : Nat} {a : Int} (h : Sz n a) (h5 : 5 ≤ n) (hl : n + 480 < l) : Sz l (fdF m y o k a) := by
  have h1 : Sz (n + 4) (12 * a) := (Sz.mul (szi (n := 4) 12) h).mono (by omega)
  have h2 : Sz (n + 166) (mdF y k (12 * a)) := g.zmd h1 (by omega) (by omega)
  have h3 : Sz (n + 318) (maF m o (mdF y k (12 * a))) := g.zma h2 (by omega) (by omega)
  exact g.zst h3 (by omega) (by omega)
section
variable {P : Program} {w : World} {K : PySem.W.Frag} {mg : Str → Option Value} {base : Heap} {C Cc : Addr}
theorem ok_fd (D : Df K mg "first_day" s_first_day []) (f_start : Cm P w K mg base CX0 7 Cc "start" "Calendar.start" s_Calendar_start ["self", "k"] (spM1 C Cc 3000 fun m _ o _ i => .int (stF m o i))) (f_plain_month : Ca P w K mg base CX0 9 "plain_month" s_plain_month [] ["calendar", "year", "number"] (spPlain C Cc)) : Ca P w K mg base CX0 10 "first_day" s_first_day [] ["calendar", "year"] (spFd C Cc) := by
  refine ca0 (k := 9) D c_first_day (fun vs H Q E h => ?_) fun f cdv A outer s H vs Q E hr h => ?_
  · obtain ⟨p, a, m, y, o, k, rfl, _⟩ := h
    rfl
  · obtain ⟨p, a, m, y, o, k, rfl, hc, g, za, q⟩ := h
    obtain ⟨dx, a1, b1, c1, d1, e, _⟩ := id hc
    refine ⟨_, (pss_one (ps_ret (pe_cm f_start b_Calendar_start hr (by decide) pass0 (pv 0) (pa_cons (pe_ca f_plain_month b_plain_month hr (by decide) pass0 rfl (pa_cons (pv 0) (pa_cons (pv 1) (pa_cons pe_int pa_nil)))) pa_nil)))), ?_⟩
    refine ⟨_, rfl, p, dx, _, rfl, e, cf_no _ _ _ _, _, rfl, _, rfl, p, a, 1, m, y, o, k, rfl, hc, g, za, szi 1 (Nat.one_lt_two_pow (by decide)), fun H1 s1 => ?_⟩
    refine ⟨p, _, m, y, o, k, rfl, hc.same s1, g, (g.zpm za (szi 1 (Nat.one_lt_two_pow (by decide)))).2.mono (by decide), fun H2 s2 => ?_⟩
    rw [pm_one]
    exact q H2 (s1.trans s2)
end
/-! ### Date -/
def dfs (y n d o : V) : List (Str × V) := putF "odd" o (putF "day" d (putF "number" n (putF "year" y [])))
theorem dyn_ : ¬ (("year" : Str) = "number") := by decide +kernel
theorem dyd_ : ¬ (("year" : Str) = "day") := by decide +kernel
theorem dyo_ : ¬ (("year" : Str) = "odd") := by decide +kernel
theorem dnd_ : ¬ (("number" : Str) = "day") := by decide +kernel
theorem dno_ : ¬ (("number" : Str) = "odd") := by decide +kernel
theorem ddo_ : ¬ (("day" : Str) = "odd") := by decide +kernel
theorem df_year (y n d o : V) : (dfs y n d o).lookup ("year" : Str) = some y := by
  unfold dfs
  rw [lookup_putF, if_neg dyo_, lookup_putF, if_neg dyd_, lookup_putF, if_neg dyn_, lookup_putF, if_pos rfl]
theorem df_number (y n d o : V) : (dfs y n d o).lookup ("number" : Str) = some n := by
  unfold dfs
  rw [lookup_putF, if_neg dno_, lookup_putF, if_neg dnd_, lookup_putF, if_pos rfl]
theorem df_day (y n d o : V) : (dfs y n d o).lookup ("day" : Str) = some d := by
  unfold dfs
  rw [lookup_putF, if_neg ddo_, lookup_putF, if_pos rfl]
theorem df_odd (y n d o : V) : (dfs y n d o).lookup ("odd" : Str) = some o := by
  unfold dfs
  rw [lookup_putF, if_pos rfl]
/-- what the top says of the class -/
structure DaT (K : PySem.W.Frag) (Cd : Addr) : Prop where
  cl : Cls K Cd
  n1 : NoAttr K Cd "year"
  n2 : NoAttr K Cd "number"
  n3 : NoAttr K Cd "day"
  n4 : NoAttr K Cd "odd"
  ty : ∀ (H : Hp) (a dx : Addr) (fs : List (Str × V)), H a = some (.ins Cd dx fs) → TyX K H (.ref a) (.ref Cd)
/-- at p a Date -/
def Da (Cd : Addr) (H : Hp) (p : Addr) (y n d : Int) (o : Bool) : Prop := ∃ dx, H p = some (.ins Cd dx (dfs (.int y) (.int n) (.int d) (.bl o)))
theorem Da.same {Cd p : Addr} {H H1 : Hp} {y n d : Int} {o : Bool} (h : Da Cd H p y n d o) (s : Same H H1) : Da Cd H1 p y n d o := by
  obtain ⟨dx, e⟩ := h
  exact ⟨dx, s _ _ e⟩
def spDaI (Cd : Addr) : Sp := fun vs H Q _ => ∃ (p dx : Addr) (y n d o : V), vs = [.ref p, y, n, d, o] ∧ H p = some (.ins Cd dx []) ∧ Q .non (L2.upd H p (.ins Cd dx (dfs y n d o)))
def spDaE (Cd : Addr) : Sp := fun vs H Q _ => ∃ (p r : Addr) (y n d y' n' d' : Int) (o o' : Bool), vs = [.ref p, .ref r] ∧ Da Cd H p y n d o ∧ Da Cd H r y' n' d' o' ∧ Q (.bl (decide (y = y') && (decide (n = n') && (decide (d = d') && decide (o = o'))))) H
theorem dec_int (a b : Int) : decide (V.int a = V.int b) = decide (a = b) := by
  by_cases h : a = b
  · rw [decide_eq_true h, decide_eq_true (congrArg V.int h)]
  · rw [decide_eq_false h, decide_eq_false (fun z => h (V.int.inj z))]
theorem dec_bl (a b : Bool) : decide (V.bl a = V.bl b) = decide (a = b) := by
  by_cases h : a = b
  · rw [decide_eq_true h, decide_eq_true (congrArg V.bl h)]
  · rw [decide_eq_false h, decide_eq_false (fun z => h (V.bl.inj z))]
section
variable {P : Program} {w : World} {K : PySem.W.Frag} {mg : Str → Option Value} {base : Heap} {Cd : Addr}
theorem ok_daI (D : Di K mg "Date" Cd "Date.__init__" s_Date_init [.bl false]) (T : DaT K Cd) : Ci P w K mg base CX0 1 "Date" Cd "Date.__init__" s_Date_init [.bl false] ["self", "year", "number", "day", "odd"] (spDaI Cd) := by
  refine ci0 (k := 0) D c_Date_init (fun vs H Q E h => ?_) fun f cdv A outer s H vs Q E hr h => ?_
  · obtain ⟨p, dx, y, n, d, o, rfl, _⟩ := h
    rfl
  · obtain ⟨p, dx, y, n, d, o, rfl, hp, q⟩ := h
    refine ⟨_, (pss_cons (ps_fld (pv 0) (pv 1) rfl)
      (pss_cons (ps_fld (pv 0) (pv 2) rfl)
      (pss_cons (ps_fld (pv 0) (pv 3) rfl)
      (pss_one (ps_fld (pv 0) (pv 4) rfl))))), ?_⟩
    refine ⟨_, rfl, _, rfl, p, Cd, dx, _, rfl, hp, T.cl, T.n1, (by show 0 < 1000; decide), ?_⟩
    refine ⟨_, rfl, _, rfl, p, Cd, dx, _, rfl, upd_same, T.cl, T.n2, (by show 1 < 1000; decide), ?_⟩
    refine ⟨_, rfl, _, rfl, p, Cd, dx, _, rfl, upd_same, T.cl, T.n3, (by show 2 < 1000; decide), ?_⟩
    refine ⟨_, rfl, _, rfl, p, Cd, dx, _, rfl, upd_same, T.cl, T.n4, (by show 3 < 1000; decide), ?_⟩
    rw [upd_upd, upd_upd, upd_upd]
    exact q
theorem bd_Date4 : Bd1 "__init__" "Date.__init__" s_Date_init ["self", "year", "number", "day", "odd"] 5 1 1 := fun _ _ _ _ _ _ _ us its hu hi => match us, hu, its, hi with | [_, _, _, _, _], _, [_], _ => ⟨_, rfl, rfl⟩
theorem ok_daE (D : Dm K Cd "__eq__" "Date.__eq__" s_Date_eq) (T : DaT K Cd) (g_isinstance : mg "isinstance" = none) (h_Date : mg "Date" = some (.ref Cd)) : Cm P w K mg base CX0 1 Cd "__eq__" "Date.__eq__" s_Date_eq ["self", "other"] (spDaE Cd) := by
  refine cm0 (k := 0) D c_Date_eq (fun vs H Q E h => ?_) fun f cdv A outer s H vs Q E hr h => ?_
  · obtain ⟨p, r, y, n, d, y', n', d', o, o', rfl, _⟩ := h
    rfl
  · obtain ⟨p, r, y, n, d, y', n', d', o, o', rfl, ⟨dx, hp⟩, ⟨dx', hr'⟩, q⟩ := h
    refine ⟨_, (pss_one (ps_ret (pe_and (pe_callB call_isi rfl g_isinstance (by decide +kernel) (pa_cons (pv 1) (pa_cons (pe_glob (v := .ref Cd) rfl h_Date rfl) pa_nil))) (pe_and (pe_cmpR op_eq (pe_fld (pv 0) rfl) (pe_fld (pv 1) rfl) (nomark _)) (pe_and (pe_cmpR op_eq (pe_fld (pv 0) rfl) (pe_fld (pv 1) rfl) (nomark _)) (pe_and (pe_cmpR op_eq (pe_fld (pv 0) rfl) (pe_fld (pv 1) rfl) (nomark _)) (pe_one (pe_cmpR op_eq (pe_fld (pv 0) rfl) (pe_fld (pv 1) rfl) (nomark _))))))))), ?_⟩
    refine ⟨_, rfl, _, _, _, _, _, rfl, .own Cd, T.ty _ _ _ _ hr', kit_self, _, rfl, iteT ?_⟩
    refine ⟨_, rfl, p, Cd, dx, _, _, rfl, hp, T.cl, T.n1, df_year _ _ _ _, _, rfl, r, Cd, dx', _, _, rfl, hr', T.cl, T.n1, df_year _ _ _ _, rfl, _, rfl, ?_⟩
    rw [dec_int]
    by_cases h1 : y = y'
    · rw [decide_eq_true h1] at q ⊢
      refine iteT ?_
      refine ⟨_, rfl, p, Cd, dx, _, _, rfl, hp, T.cl, T.n2, df_number _ _ _ _, _, rfl, r, Cd, dx', _, _, rfl, hr', T.cl, T.n2, df_number _ _ _ _, rfl, _, rfl, ?_⟩
      rw [dec_int]
      by_cases h2 : n = n'
      · rw [decide_eq_true h2] at q ⊢
        refine iteT ?_
        refine ⟨_, rfl, p, Cd, dx, _, _, rfl, hp, T.cl, T.n3, df_day _ _ _ _, _, rfl, r, Cd, dx', _, _, rfl, hr', T.cl, T.n3, df_day _ _ _ _, rfl, _, rfl, ?_⟩
        rw [dec_int]
        by_cases h3 : d = d'
        · rw [decide_eq_true h3] at q ⊢
          refine iteT ?_
          refine ⟨_, rfl, p, Cd, dx, _, _, rfl, hp, T.cl, T.n4, df_odd _ _ _ _, _, rfl, r, Cd, dx', _, _, rfl, hr', T.cl, T.n4, df_odd _ _ _ _, rfl, ?_⟩
          rw [dec_bl]
          exact q
        · rw [decide_eq_false h3] at q ⊢
          exact iteF q
      · rw [decide_eq_false h2] at q ⊢
        exact iteF q
    · rw [decide_eq_false h1] at q ⊢
      exact iteF q
end
/-- a new Date, read as its maker's caller wants it -/
theorem made_da {Cd : Addr} {H : Hp} {R : Addr → Hp → Prop} {E : XK} {y n d o : V} (h : ∀ p dx H', H p = none → Same H H' → H' p = some (.ins Cd dx (dfs y n d o)) → R p H') :
    ∀ x dx, H x = none → H dx = none → dx ≠ x → spDaI Cd [.ref x, y, n, d, o] (L2.upd (L2.upd H dx (.own x)) x (.ins Cd dx [])) (fun v H2 => v = .non ∧ R x H2) E := by
  intro x dx hx hd ne
  refine ⟨x, dx, y, n, d, o, rfl, upd_same, rfl, ?_⟩
  rw [upd_upd]
  refine h x dx _ hx (Same.upd (Same.new hd) ?_) upd_same
  rw [upd_ne ne.symm]
  exact hx
/-! ### dates of days -/
def dtY (m y o k : Rat) (i : Int) : Int := nmJ m y o k (maF m o i) / 12
def dtN (m y o k : Rat) (i : Int) : Int := nmJ m y o k (maF m o i) % 12 + 1
def dtD (m o : Rat) (i : Int) : Int := i - stF m o (maF m o i) + 1
def dtO (m y o k : Rat) (i : Int) : Bool := nmO m y o k (maF m o i)
def spDateOf (C Cc Cd : Addr) : Sp := fun vs H Q _ => ∃ (p : Addr) (i : Int) (m y o k : Rat), vs = [.ref p, .int i] ∧ Cl C Cc H p m y o k ∧ Good m y o k ∧ Sz 1200 i ∧
  ∀ r H', H r = none → Same H H' → Da Cd H' r (dtY m y o k i) (dtN m y o k i) (dtD m o i) (dtO m y o k i) → Q (.ref r) H'
section
variable {P : Program} {w : World} {K : PySem.W.Frag} {mg : Str → Option Value} {base : Heap} {C Cc Cd : Addr}
theorem ok_date_of (D : Df K mg "date_of" s_date_of []) (f_month_at : Cm P w K mg base CX0 7 Cc "month_at" "Calendar.month_at" s_Calendar_month_at ["self", "day"] (spM1 C Cc 2900 fun m _ o _ i => .int (maF m o i))) (f_name_of : Cm P w K mg base CX0 9 Cc "name_of" "Calendar.name_of" s_Calendar_name_of ["self", "k"] (spName C Cc)) (f_start : Cm P w K mg base CX0 7 Cc "start" "Calendar.start" s_Calendar_start ["self", "k"] (spM1 C Cc 3000 fun m _ o _ i => .int (stF m o i))) (f_Date : Ci P w K mg base CX0 1 "Date" Cd "Date.__init__" s_Date_init [.bl false] ["self", "year", "number", "day", "odd"] (spDaI Cd)) : Ca P w K mg base CX0 10 "date_of" s_date_of [] ["calendar", "day"] (spDateOf C Cc Cd) := by
  refine ca0 (k := 9) D c_date_of (fun vs H Q E h => ?_) fun f cdv A outer s H vs Q E hr h => ?_
  · obtain ⟨p, i, m, y, o, k, rfl, _⟩ := h
    rfl
  · obtain ⟨p, i, m, y, o, k, rfl, hc, g, zi, q⟩ := h
    obtain ⟨dx, a, b, c, d, e, h1, h2, h3, h4⟩ := id hc
    refine ⟨_, (pss_cons (ps_set (i := 2) c_date_of.nd rfl (.inl rfl) (pe_cm f_month_at b_Calendar_month_at hr (by decide) pass0 (pv 0) (pa_cons (pv 1) pa_nil)))
      (pss_cons (ps_asg (pe_cm f_name_of b_Calendar_name_of hr (by decide) pass0 (pv 0) (pa_cons (pv 2) pa_nil)) (pg_tup rfl (pgs_cons (pg_name (i := 3) c_date_of.nd rfl (.inl rfl)) (pgs_cons (pg_name (i := 4) c_date_of.nd rfl (.inl rfl)) (pgs_cons (pg_name (i := 5) c_date_of.nd rfl (.inl rfl)) pgs_nil)))))
      (pss_one (ps_ret (pe_ci f_Date bd_Date4 (by decide) rfl hr (by decide) pass0 rfl (pa_cons (pv 3) (pa_cons (pv 4) (pa_cons (pe_op op_add (pe_op op_sub (pv 1) (pe_cm f_start b_Calendar_start hr (by decide) pass0 (pv 0) (pa_cons (pv 2) pa_nil))) pe_int) (pa_cons (pv 5) pa_nil))))))))), ?_⟩
    have zk : Sz 1360 (maF m o i) := g.zma zi (by decide) (by decide)
    refine ⟨_, rfl, p, dx, _, rfl, e, cf_no _ _ _ _, _, rfl, p, i, m, y, o, k, rfl, hc, g, zi.mono (by decide), fun H1 s1 => ?_⟩
    refine ⟨_, rfl, p, dx, _, rfl, s1 _ _ e, cf_no _ _ _ _, _, rfl, p, _, m, y, o, k, rfl, hc.same s1, g, zk.mono (by decide), fun t H2 nt s2 et => ?_⟩
    refine ⟨t, _, rfl, SqT.of et, rfl, _, _, rfl, _, _, rfl, _, _, rfl, rfl, ?_⟩
    have s12 := s1.trans s2
    refine ⟨_, rfl, _, rfl, _, rfl, _, rfl, p, dx, _, rfl, s12 _ _ e, cf_no _ _ _ _, _, rfl, p, _, m, y, o, k, rfl, hc.same s12, g, zk.mono (by decide), fun H3 s3 => ⟨_, _, rfl, rfl, _, _, rfl, rfl, _, rfl, ?_⟩⟩
    exact made_da fun r dx H4 nr s4 er => q r H4 ((s12.trans s3).free nr) ((s12.trans s3).trans s4) ⟨dx, er⟩
end
def spYw (C Cc : Addr) : Sp := fun vs H Q _ => ∃ (p : Addr) (a : Int) (m y o k : Rat), vs = [.ref p, .int a] ∧ Cl C Cc H p m y o k ∧ Good m y o k ∧ Sz 1200 a ∧ ∀ H', Same H H' → Q (.int (dtY m y o k a)) H'
/-- a year is no greater than its day, but for what month and mark bring -/
theorem Good.zdY {m y o k : Rat} (g : Good m y o k) {n : Nat} {i : Int} (h : Sz n i) (hn : 75 ≤ n) : Sz (n + 2) (dtY m y o k i) := by
  have f := g.fit
  have s1 := st_ma (o := o) f.pos i
  have s2 := ma_st (o := o) f.pos i
  have w1 := st_w (o := o) f (maF m o i)
  have w0 := st_w (o := o) f (maF m o i - 1)
  rw [show maF m o i - 1 + 1 = maF m o i by omega] at w0
  have zc : Sz 70 m.ceil := Sz.ceil g.zm
  have zk : Sz 70 k.floor := Sz.floor g.zk
  have mk : stF m o (maF m o i - 1) ≤ mdF y k (nmJ m y o k (maF m o i)) ∧ mdF y k (nmJ m y o k (maF m o i)) < stF m o (maF m o i + 1) := by
    by_cases hm : mdF y k (jF y k (stF m o (maF m o i))) < stF m o (maF m o i + 1)
    · have e1 : nmJ m y o k (maF m o i) = jF y k (stF m o (maF m o i)) := by unfold nmJ; rw [if_pos hm]
      rw [e1]
      have a1 := md_ge (y := y) (k := k) f.ypos (stF m o (maF m o i))
      have a2 := st_step (o := o) f.one (maF m o i - 1)
      rw [show maF m o i - 1 + 1 = maF m o i by omega] at a2
      exact ⟨by omega, hm⟩
    · have e1 : nmJ m y o k (maF m o i) = jF y k (stF m o (maF m o i - 1)) := by unfold nmJ; rw [if_neg hm]
      rw [e1]
      have a1 := md_ge (y := y) (k := k) f.ypos (stF m o (maF m o i - 1))
      have a2 := mi_ahead (o := o) (k := k) f (maF m o i) hm
      have a3 := st_step (o := o) f.one (maF m o i)
      exact ⟨a1, by omega⟩
  have t1 : 1 ≤ y / 12 := by
    have b1 := f.one
    have b2 := f.between
    have b3 : m ≤ (m.ceil : Rat) := by
      apply Rat.not_lt.mp
      intro z
      have := lt_ceil_iff (q := m) (i := m.ceil) |>.mpr z
      omega
    grind
  generalize hJ : nmJ m y o k (maF m o i) = J at mk
  have md1 := int_le_floor (i := mdF y k J) (x := k + (J : Rat) * (y / 12)) |>.mp (Int.le_refl _)
  have md2 := floor_le_iff (q := k + (J : Rat) * (y / 12)) (i := mdF y k J) |>.mp (Int.le_refl _)
  rw [cast_add1] at md2
  have kf := int_le_floor (i := k.floor) (x := k) |>.mp (Int.le_refl _)
  have kl := floor_le_iff (q := k) (i := k.floor) |>.mp (Int.le_refl _)
  rw [cast_add1] at kl
  have up : 0 ≤ J → J ≤ mdF y k J - k.floor + 1 := fun h0 => by
    have c0 : (0 : Rat) ≤ (J : Rat) := by exact_mod_cast h0
    have c1 := Rat.mul_le_mul_of_nonneg_left t1 c0
    have c2 : ((J : Int) : Rat) ≤ ((mdF y k J - k.floor + 1 : Int) : Rat) := by
      rw [cast_add1, Rat.intCast_sub]
      grind
    exact_mod_cast c2
  have dn : J ≤ 0 → mdF y k J - k.floor - 1 ≤ J := fun h0 => by
    have c0 : (J : Rat) ≤ 0 := by exact_mod_cast h0
    have c1 : (J : Rat) * (y / 12) ≤ (J : Rat) := by
      have := Rat.mul_le_mul_of_nonneg_left t1 (show (0 : Rat) ≤ -(J : Rat) by grind)
      grind
    have c2 : ((mdF y k J - k.floor - 1 : Int) : Rat) ≤ ((J : Int) : Rat) := by
      rw [Rat.intCast_sub, Rat.intCast_sub]
      have : ((1 : Int) : Rat) = 1 := rfl
      grind
    exact_mod_cast c2
  have zJ : Sz (n + 2) J := by
    have p1 : (2 : Nat) ^ 75 ≤ 2 ^ n := Nat.pow_le_pow_right (by decide) hn
    have p2 : (2 : Nat) ^ (n + 2) = 2 ^ n * 4 := by rw [Nat.pow_add]
    have p3 : (2 : Nat) ^ 75 = 2 ^ 70 * 32 := by decide
    unfold Sz at *
    omega
  unfold dtY
  rw [hJ]
  exact Nat.lt_of_le_of_lt (Int.natAbs_ediv_le_natAbs _ _) zJ
section
variable {P : Program} {w : World} {K : PySem.W.Frag} {mg : Str → Option Value} {base : Heap} {C Cc : Addr}
theorem ok_yw (D : Df K mg "year_with" s_year_with []) (f_month_at : Cm P w K mg base CX0 7 Cc "month_at" "Calendar.month_at" s_Calendar_month_at ["self", "day"] (spM1 C Cc 2900 fun m _ o _ i => .int (maF m o i))) (f_name_of : Cm P w K mg base CX0 9 Cc "name_of" "Calendar.name_of" s_Calendar_name_of ["self", "k"] (spName C Cc)) : Ca P w K mg base CX0 10 "year_with" s_year_with [] ["calendar", "day"] (spYw C Cc) := by
  refine ca0 (k := 9) D c_year_with (fun vs H Q E h => ?_) fun f cdv A outer s H vs Q E hr h => ?_
  · obtain ⟨p, a, m, y, o, k, rfl, _⟩ := h
    rfl
  · obtain ⟨p, i, m, y, o, k, rfl, hc, g, zi, q⟩ := h
    obtain ⟨dx, a1, b1, c1, d1, e, _⟩ := id hc
    have zk : Sz 1360 (maF m o i) := g.zma zi (by decide) (by decide)
    refine ⟨_, (pss_one (ps_ret (pe_ix ix_tup (pe_cm f_name_of b_Calendar_name_of hr (by decide) pass0 (pv 0) (pa_cons (pe_cm f_month_at b_Calendar_month_at hr (by decide) pass0 (pv 0) (pa_cons (pv 1) pa_nil)) pa_nil)) pe_int (fun _ _ => rfl)))), ?_⟩
    refine ⟨_, rfl, p, dx, _, rfl, e, cf_no _ _ _ _, _, rfl, p, dx, _, rfl, e, cf_no _ _ _ _, _, rfl, p, i, m, y, o, k, rfl, hc, g, zi.mono (by decide), fun H1 s1 => ?_⟩
    refine ⟨p, _, m, y, o, k, rfl, hc.same s1, g, zk.mono (by decide), fun t H2 nt s2 et => ?_⟩
    exact ⟨t, _, _, _, rfl, rfl, SqT.of et, rfl, q H2 (s1.trans s2)⟩
end
/-! ### Shifted -/
structure SfT (K : PySem.W.Frag) (Cs : Addr) : Prop where
  cl : Cls K Cs
  n1 : NoAttr K Cs "calendar"
  n2 : NoAttr K Cs "rules"
def sfs (p l : Addr) : List (Str × V) := putF "rules" (.ref l) (putF "calendar" (.ref p) [])
theorem nrc : ¬ (("calendar" : Str) = "rules") := by decide +kernel
theorem sf_cal (p l : Addr) : (sfs p l).lookup ("calendar" : Str) = some (.ref p) := by
  unfold sfs
  rw [lookup_putF, if_neg nrc, lookup_putF, if_pos rfl]
theorem sf_rules (p l : Addr) : (sfs p l).lookup ("rules" : Str) = some (.ref l) := by
  unfold sfs
  rw [lookup_putF, if_pos rfl]
theorem sf_no (p l : Addr) {x : Str} (h1 : ¬ (x = ("rules" : Str))) (h2 : ¬ (x = ("calendar" : Str))) : (sfs p l).lookup x = none := by
  unfold sfs
  rw [lookup_putF, if_neg h1, lookup_putF, if_neg h2]
  rfl
/-- f is called with a day d and tells g d, now and later -/
def Rl (P : Program) (w : World) (K : PySem.W.Frag) (mg : Str → Option Value) (base : Heap) (k : Nat) (H : Hp) (f : Addr) (g : Int → Int) : Prop := ∀ H1, Same H H1 → ∀ (d : Int) (Q : VK), Q (.int (g d)) H1 → Doe P w K mg base k f [.int d] H1 Q
theorem Rl.same {P : Program} {w : World} {K : PySem.W.Frag} {mg : Str → Option Value} {base : Heap} {k : Nat} {H H1 : Hp} {f : Addr} {g : Int → Int} (h : Rl P w K mg base k H f g) (s : Same H H1) : Rl P w K mg base k H1 f g := fun H2 s2 => h H2 (s.trans s2)
/-- put off by one rule behind the other -/
def putG (gs : List (Int → Int)) (d : Int) : Int := gs.foldl (fun e g => e + g e) d
theorem putG_snoc (gs : List (Int → Int)) (g : Int → Int) (d : Int) : putG (gs ++ [g]) d = putG gs d + g (putG gs d) := by
  unfold putG
  rw [List.foldl_append]
  rfl
/-- at q a Shifted of the calendar at p with such rules -/
structure Sf (P : Program) (w : World) (K : PySem.W.Frag) (mg : Str → Option Value) (base : Heap) (kk : Nat) (C Cc Cs : Addr) (H : Hp) (q p : Addr) (m y o k : Rat) (fs : List Addr) (gs : List (Int → Int)) : Prop where
  ob : ∃ dx l, H q = some (.ins Cs dx (sfs p l)) ∧ H l = some (.lst (fs.map V.ref))
  c : Cl C Cc H p m y o k
  g : Good m y o k
  n : fs.length = gs.length
  z : gs.length ≤ 60
  r : ∀ (j : Nat) f g, fs[j]? = some f → gs[j]? = some g → Rl P w K mg base kk H f g
theorem Sf.same {P : Program} {w : World} {K : PySem.W.Frag} {mg : Str → Option Value} {base : Heap} {kk : Nat} {C Cc Cs : Addr} {H H1 : Hp} {q p : Addr} {m y o k : Rat} {fs : List Addr} {gs : List (Int → Int)} (h : Sf P w K mg base kk C Cc Cs H q p m y o k fs gs) (s : Same H H1) : Sf P w K mg base kk C Cc Cs H1 q p m y o k fs gs :=
  ⟨let ⟨dx, l, e1, e2⟩ := h.ob
   ⟨dx, l, s _ _ e1, s _ _ e2⟩, h.c.same s, h.g, h.n, h.z, fun j f g a b => (h.r j f g a b).same s⟩
def spNy46 (P : Program) (w : World) (K : PySem.W.Frag) (mg : Str → Option Value) (base : Heap) (kk : Nat) (C Cc Cs : Addr) : Sp := fun vs H Q _ => ∃ (q p : Addr) (a : Int) (m y o k : Rat) (fs : List Addr) (gs : List (Int → Int)), vs = [.ref q, .int a] ∧ Sf P w K mg base kk C Cc Cs H q p m y o k fs gs ∧ Sz 1300 a ∧ ∀ H', Same H H' → Q (.int (putG gs (fdF m y o k a))) H'
section
variable {P : Program} {w : World} {K : PySem.W.Frag} {mg : Str → Option Value} {base : Heap} {C Cc Cs : Addr} {kk : Nat}
theorem ok_ny46 (D : Dm K Cs "new_year" "Shifted.new_year" s_Shifted_new_year) (T : SfT K Cs) (f_first_day : Ca P w K mg base CX0 10 "first_day" s_first_day [] ["calendar", "year"] (spFd C Cc)) (hkk : kk ≤ 10) :
    Cm P w K mg base CX0 11 Cs "new_year" "Shifted.new_year" s_Shifted_new_year ["self", "year"] (spNy46 P w K mg base kk C Cc Cs) := by
  refine cm0 (k := 10) D c_Shifted_new_year (fun vs H Q E h => ?_) fun f cdv A outer s H vs Q E hr h => ?_
  · obtain ⟨q, p, a, m, y, o, k, fs, gs, rfl, _⟩ := h
    rfl
  · obtain ⟨q, p, a, m, y, o, k, fs, gs, rfl, hs, za, qq⟩ := h
    obtain ⟨dx, l, eq, el⟩ := hs.ob
    refine ⟨_, (pss_cons (ps_set (i := 2) c_Shifted_new_year.nd rfl (.inl rfl) (pe_ca f_first_day b_first_day hr (by decide) pass0 rfl (pa_cons (pe_fld (pv 0) rfl) (pa_cons (pv 1) pa_nil))))
      (pss_cons (ps_for PassesOwn.never rfl (pi_list (pe_fld (pv 0) rfl)) (pg_name (i := 3) c_Shifted_new_year.nd rfl (.inl rfl)) (pss_one (ps_set (i := 2) c_Shifted_new_year.nd rfl (.inl rfl) (pe_op op_add (pv 2) (pe_doe (i := 3) (k := kk) hr hkk rfl (.inl rfl) (pa_cons (pv 2) pa_nil))))))
      (pss_one (ps_ret (pv 2))))), ?_⟩
    refine ⟨_, rfl, q, Cs, dx, _, _, rfl, eq, T.cl, T.n1, sf_cal _ _, _, rfl, p, a, m, y, o, k, rfl, hs.c, hs.g, za, fun H1 s1 => ?_⟩
    have hs1 := hs.same s1
    refine ⟨_, rfl, q, Cs, dx, _, _, rfl, s1 _ _ eq, T.cl, T.n2, sf_rules _ _, l, rfl, ⟨_, SqL.of (s1 _ _ el)⟩, for_list (K := K) (a := l) (xs := fs.map V.ref) (fun i σ H' => ∃ v3 : Option V, σ = [some (.ref q), some (.int a), some (.int (putG (gs.take i) (fdF m y o k a))), v3] ∧ Same H1 H') ⟨_, rfl, Same.refl _⟩ (fun i σ H' _ ⟨_, _, s2⟩ => SqL.of (s2 _ _ (s1 _ _ el))) ?_ ?_⟩
    · rintro i v σ H2 hv ⟨v3, rfl, s2⟩
      rw [List.getElem?_map] at hv
      cases hf : fs[i]? with
      | none => rw [hf] at hv; cases hv
      | some f =>
        rw [hf] at hv
        cases hv
        have hi : i < gs.length := by
          rw [← hs.n]
          exact (List.getElem?_eq_some_iff.mp hf).1
        have hg := List.getElem?_eq_getElem hi
        have rl := (hs1.same s2).r i f _ hf hg H2 (Same.refl _)
        refine ⟨_, rfl, f, rfl, ?_, _, rfl, ?_⟩
        · exact (rl 0 (fun _ _ => True) trivial).1
        refine rl _ _ ?_
        refine ⟨_, _, rfl, rfl, some (.ref f), ?_, s2⟩
        rw [List.take_succ, hg]
        show _ = [_, _, some (V.int (putG (gs.take i ++ [gs[i]]) _)), _]
        rw [putG_snoc]
        rfl
    · rintro σ H2 ⟨v3, rfl, s2⟩
      refine ⟨_, rfl, ?_⟩
      have e : (fs.map V.ref).length = gs.length := by rw [List.length_map, hs.n]
      rw [e, List.take_length]
      exact qq H2 (s1.trans s2)
end
/-! ### Shifted made; how long its years are -/
def spSfI (Cs : Addr) : Sp := fun vs H Q _ => ∃ (q dx p l : Addr) (fs : List Addr), vs = [.ref q, .ref p, .ref l] ∧ H q = some (.ins Cs dx []) ∧ H l = some (.lst (fs.map V.ref)) ∧ fs.length ≤ 60 ∧
  ∀ l' H', But q H H' → H l' = none → H' q = some (.ins Cs dx (sfs p l')) → H' l' = some (.lst (fs.map V.ref)) → Q .non H'
def lnG (m y o k : Rat) (gs : List (Int → Int)) (a : Int) : Int := putG gs (fdF m y o k (a + 1)) - putG gs (fdF m y o k a)
def spLo46 (P : Program) (w : World) (K : PySem.W.Frag) (mg : Str → Option Value) (base : Heap) (kk : Nat) (C Cc Cs : Addr) : Sp := fun vs H Q _ => ∃ (q p : Addr) (a : Int) (m y o k : Rat) (fs : List Addr) (gs : List (Int → Int)), vs = [.ref q, .int a] ∧ Sf P w K mg base kk C Cc Cs H q p m y o k fs gs ∧ Sz 1299 a ∧ ∀ H', Same H H' → Q (.int (lnG m y o k gs a)) H'
section
variable {P : Program} {w : World} {K : PySem.W.Frag} {mg : Str → Option Value} {base : Heap} {C Cc Cs : Addr} {kk : Nat}
theorem ok_sfI (D : Di K mg "Shifted" Cs "Shifted.__init__" s_Shifted_init []) (T : SfT K Cs) (g_list : mg "list" = none) : Ci P w K mg base CX0 3 "Shifted" Cs "Shifted.__init__" s_Shifted_init [] ["self", "calendar", "rules"] (spSfI Cs) := by
  refine ci0 (k := 2) D c_Shifted_init (fun vs H Q E h => ?_) fun f cdv A outer s H vs Q E hr h => ?_
  · obtain ⟨q, dx, p, l, fs, rfl, _⟩ := h
    rfl
  · obtain ⟨q, dx, p, l, fs, rfl, hq, hl, hn, qq⟩ := h
    refine ⟨_, (pss_cons (ps_fld (pv 0) (pv 1) rfl)
      (pss_one (ps_fld (pv 0) (pe_callTy call_list_of rfl g_list (by decide +kernel) (pa_cons (pv 2) pa_nil)) rfl))), ?_⟩
    refine ⟨_, rfl, _, rfl, q, Cs, dx, _, rfl, hq, T.cl, T.n1, (by show 0 < 1000; decide), ?_⟩
    have nlq : l ≠ q := ne_of hl hq (by intro z; cases z)
    refine ⟨_, rfl, l, _, rfl, .inl (SqL.of (by rw [upd_ne nlq]; exact hl)), fun l' nl' => ?_⟩
    have nlq' : q ≠ l' := fun z => by rw [← z, upd_same] at nl'; cases nl'
    have nl0 : H l' = none := by
      rw [upd_ne nlq'.symm] at nl'
      exact nl'
    refine ⟨_, rfl, q, Cs, dx, _, rfl, (by rw [upd_ne nlq']; exact upd_same), T.cl, T.n2, (by show 1 < 1000; decide), ?_⟩
    refine qq l' _ (fun b o hb e => ?_) nl0 upd_same ?_
    · rw [upd_ne hb, upd_ne (ne_of_none e nl0), upd_ne hb]
      exact e
    · rw [upd_ne nlq'.symm]
      exact upd_same
theorem ok_lo46 (D : Dm K Cs "length_of" "Shifted.length_of" s_Shifted_length_of) (f_new_year : Cm P w K mg base CX0 11 Cs "new_year" "Shifted.new_year" s_Shifted_new_year ["self", "year"] (spNy46 P w K mg base kk C Cc Cs)) :
    Cm P w K mg base CX0 12 Cs "length_of" "Shifted.length_of" s_Shifted_length_of ["self", "year"] (spLo46 P w K mg base kk C Cc Cs) := by
  refine cm0 (k := 11) D c_Shifted_length_of (fun vs H Q E h => ?_) fun f cdv A outer s H vs Q E hr h => ?_
  · obtain ⟨q, p, a, m, y, o, k, fs, gs, rfl, _⟩ := h
    rfl
  · obtain ⟨q, p, a, m, y, o, k, fs, gs, rfl, hs, za, qq⟩ := h
    obtain ⟨dx, l, eq, el⟩ := hs.ob
    refine ⟨_, (pss_one (ps_ret (pe_op op_sub (pe_cm f_new_year b_Shifted_new_year hr (by decide) pass0 (pv 0) (pa_cons (pe_op op_add (pv 1) pe_int) pa_nil)) (pe_cm f_new_year b_Shifted_new_year hr (by decide) pass0 (pv 0) (pa_cons (pv 1) pa_nil))))), ?_⟩
    refine ⟨_, rfl, q, dx, _, rfl, eq, sf_no _ _ (by decide +kernel) (by decide +kernel), _, rfl, _, _, rfl, rfl, q, p, _, m, y, o, k, fs, gs, rfl, hs, Sz.add za ((szi (n := 2) 1).mono (by decide)) (by decide), fun H1 s1 => ?_⟩
    refine ⟨_, rfl, q, dx, _, rfl, s1 _ _ eq, sf_no _ _ (by decide +kernel) (by decide +kernel), _, rfl, q, p, _, m, y, o, k, fs, gs, rfl, hs.same s1, za.mono (by decide), fun H2 s2 => ?_⟩
    exact ⟨_, _, rfl, rfl, qq H2 (s1.trans s2)⟩
end
def spPart : Sp := fun vs H Q _ => ∃ (l : Addr) (n : Nat), vs = [.ref l] ∧ Dr H l n ∧ n ≤ 100000 ∧ ∀ r H' q, 0 ≤ q → q ≤ 1 → Rz 18 q → But l H H' → Dr H' l (n + 2) → Tp H' r q → Q (.ref r) H'
def spMom : Sp := fun vs H Q _ => ∃ (l : Addr) (n : Nat), vs = [.ref l] ∧ Dr H l n ∧ n ≤ 10000 ∧ ∀ r H' q, Rz 60 q → But l H H' → Dr H' l (n + 3) → Tp H' r q → Q (.ref r) H'
def spFour : Sp := fun vs H Q _ => ∃ (l : Addr) (n : Nat), vs = [.ref l] ∧ Dr H l n ∧ n ≤ 1000 ∧ ∀ r H' m y o k, Good m y o k → But l H H' → Dr H' l (n + 11) → Fo H' r m y o k → Q (.ref r) H'
theorem Tp.but {l : Addr} {H H1 : Hp} {n : Nat} {a : Addr} {q : Rat} (h : Tp H a q) (b : But l H H1) (d : Dr H l n) : Tp H1 a q := b.tup d h
section
variable {P : Program} {w : World} {K : PySem.W.Frag} {mg : Str → Option Value} {base : Heap}
theorem ok_lpart (D : Df K mg "_law_part" s_l_part []) (f_l_next : Ca P w K mg base CX0 1 "_law_next" s_l_next [] ["_law_draws_here"] spNext) (f_l_low : Ca P w K mg base CX0 1 "_law_low" s_l_low [] ["_law_top", "_law_bottom"] spLow) : Ca P w K mg base CX0 2 "_law_part" s_l_part [] ["_law_draws_here"] spPart := by
  refine ca0 (k := 1) D c_l_part (fun vs H Q E h => ?_) fun f cdv A outer s H vs Q E hr h => ?_
  · obtain ⟨l, n, rfl, _⟩ := h
    rfl
  · obtain ⟨l, n, rfl, d, hn, q⟩ := h
    refine ⟨_, (pss_cons (ps_set (i := 1) c_l_part.nd rfl (.inl rfl) (pe_ca f_l_next b_l_next hr (by decide) pass0 rfl (pa_cons (pv 0) pa_nil)))
      (pss_cons (ps_set (i := 2) c_l_part.nd rfl (.inl rfl) (pe_op op_add (pe_op op_pow pe_int pe_int) (pe_op op_mod (pe_op op_fdiv (pv 1) pe_int) (pe_op op_pow pe_int pe_int))))
      (pss_cons (ps_set (i := 3) c_l_part.nd rfl (.inl rfl) (pe_ix ix_list (pe_lst (pa_cons (pe_op op_add pe_int (pe_op op_mod (pe_op op_fdiv (pv 1) pe_int) pe_int)) (pa_cons (pe_op op_add pe_int (pe_op op_mod (pe_op op_fdiv (pv 1) pe_int) pe_int)) (pa_cons (pe_op op_add pe_int (pe_op op_mod (pe_op op_fdiv (pv 1) pe_int) pe_int)) (pa_cons (pv 2) pa_nil))))) (pe_op op_mod (pv 1) pe_int) (fun _ _ => rfl)))
      (pss_one (ps_ret (pe_ca f_l_low b_l_low hr (by decide) pass0 rfl (pa_cons (pe_op op_mod (pe_ca f_l_next b_l_next hr (by decide) pass0 rfl (pa_cons (pv 0) pa_nil)) (pe_op op_add (pv 3) pe_int)) (pa_cons (pv 3) pa_nil)))))))), ?_⟩
    refine ⟨_, rfl, l, n, rfl, d, by omega, fun v H1 v0 v1 b1 d1 => ?_⟩
    refine ⟨_, _, rfl, rfl, ⟨by decide, by decide, by decide⟩, _, rfl, _, _, rfl, rfl, ⟨by decide, by decide⟩, _, _, rfl, rfl, ⟨by decide, by decide, by decide⟩, _, _, rfl, rfl, md, _, _, rfl, rfl, ?_⟩
    refine ⟨_, rfl, _, _, rfl, rfl, ⟨by decide, by decide⟩, _, _, rfl, rfl, md, _, _, rfl, rfl, _, rfl, _, _, rfl, rfl, ⟨by decide, by decide⟩, _, _, rfl, rfl, md, _, _, rfl, rfl, _, rfl, _, _, rfl, rfl, ⟨by decide, by decide⟩, _, _, rfl, rfl, md, _, _, rfl, rfl, _, rfl, (by show 4 ≤ sizeLine; decide), fun p hp => ?_⟩
    have h1 := Int.emod_nonneg v (show (4 : Int) ≠ 0 by decide)
    have h2 := Int.emod_lt_of_pos v (show (0 : Int) < 4 by decide)
    obtain ⟨x, hx, b, rfl, zb0, zb1⟩ := pick (P := fun x => ∃ i : Int, x = V.int i ∧ 1 ≤ i ∧ i ≤ 200000) (xs := [.int (1 + v / 4 % 3), .int (1 + v / 4 % 40), .int (1 + v / 4 % 1000), .int (10 ^ (5 : Int).toNat + v / 4 % 10 ^ (5 : Int).toNat)]) h1 h2 (by
      have e5 : (10 : Int) ^ (5 : Int).toNat = 100000 := by decide
      intro x hx
      rcases List.mem_cons.mp hx with rfl | hx
      · exact ⟨_, rfl, by omega, by omega⟩
      rcases List.mem_cons.mp hx with rfl | hx
      · exact ⟨_, rfl, by omega, by omega⟩
      rcases List.mem_cons.mp hx with rfl | hx
      · exact ⟨_, rfl, by omega, by omega⟩
      rcases List.mem_cons.mp hx with rfl | hx
      · exact ⟨_, rfl, by rw [e5]; omega, by rw [e5]; omega⟩
      · cases hx)
    refine ⟨_, rfl, _, _, rfl, rfl, md, p, _, _, _, rfl, rfl, SqL.of upd_same, hx, ?_⟩
    refine ⟨_, rfl, l, n + 1, rfl, d1.new hp, by omega, fun u H2 u0 u1 b2 d2 => ?_⟩
    have t0 := Int.emod_nonneg u (show b + 1 ≠ 0 by omega)
    have t1 := Int.emod_lt_of_pos u (show 0 < b + 1 by omega)
    refine ⟨_, rfl, _, _, rfl, rfl, _, _, rfl, rfl, (show 0 < b + 1 by omega), _, rfl, u % (b + 1), b, rfl, by omega, ?_, ?_, fun r hr' => ?_⟩
    · exact (Sz.of (n := 18) (by omega) (by have : (2 : Int) ^ 18 = 262144 := by decide
                                            omega)).mono (by decide)
    · exact (Sz.of (n := 18) (by omega) (by have : (2 : Int) ^ 18 = 262144 := by decide
                                            omega)).mono (by decide)
    · obtain ⟨q0, q1⟩ := unit_divInt t0 (show u % (b + 1) ≤ b by omega) (show 0 < b by omega)
      have e18 : (2 : Int) ^ 18 = 262144 := by decide
      exact q r _ _ q0 q1 (Rz.divInt (Sz.of (by omega) (by omega)) (Sz.of (by omega) (by omega)) (by decide)) (((b1.upd hp).trans b2).upd hr') (d2.new hr') upd_same
end
section
variable {P : Program} {w : World} {K : PySem.W.Frag} {mg : Str → Option Value} {base : Heap}
theorem ok_lmom (D : Df K mg "_law_moment" s_l_moment []) (f_l_next : Ca P w K mg base CX0 1 "_law_next" s_l_next [] ["_law_draws_here"] spNext) (f_l_part : Ca P w K mg base CX0 2 "_law_part" s_l_part [] ["_law_draws_here"] spPart) (f_l_plus : Ca P w K mg base CX0 2 "_law_plus" s_l_plus [] ["_law_one", "_law_two"] (spT2 fun a b => a + b)) : Ca P w K mg base CX0 3 "_law_moment" s_l_moment [] ["_law_draws_here"] spMom := by
  refine ca0 (k := 2) D c_l_moment (fun vs H Q E h => ?_) fun f cdv A outer s H vs Q E hr h => ?_
  · obtain ⟨l, n, rfl, _⟩ := h
    rfl
  · obtain ⟨l, n, rfl, d, hn, q⟩ := h
    refine ⟨_, (pss_cons (ps_set (i := 1) c_l_moment.nd rfl (.inl rfl) (pe_ca f_l_part b_l_part hr (by decide) pass0 rfl (pa_cons (pv 0) pa_nil)))
      (pss_cons (ps_set (i := 2) c_l_moment.nd rfl (.inl rfl) (pe_ca f_l_next b_l_next hr (by decide) pass0 rfl (pa_cons (pv 0) pa_nil)))
      (pss_cons (ps_set (i := 3) c_l_moment.nd rfl (.inl rfl) (pe_ix ix_list (pe_lst (pa_cons pe_int (pa_cons (pe_op op_mod (pe_op op_fdiv (pv 2) pe_int) pe_int) (pa_cons (pe_op op_add (pe_op op_pow pe_int pe_int) (pe_op op_fdiv (pv 2) pe_int)) (pa_cons (pe_op op_sub pe_int (pe_op op_mod (pe_op op_fdiv (pv 2) pe_int) (pe_op op_pow pe_int pe_int))) pa_nil))))) (pe_op op_mod (pv 2) pe_int) (fun _ _ => rfl)))
      (pss_one (ps_ret (pe_ca f_l_plus b_l_plus hr (by decide) pass0 rfl (pa_cons (pv 1) (pa_cons (pe_tup (pa_cons (pv 3) (pa_cons pe_int pa_nil))) pa_nil)))))))), ?_⟩
    refine ⟨_, rfl, l, n, rfl, d, by omega, fun a H1 x x0 x1 zx b1 d1 e1 => ?_⟩
    refine ⟨_, rfl, l, n + 2, rfl, d1, by omega, fun v H2 v0 v1 b2 d2 => ?_⟩
    refine ⟨_, rfl, _, _, rfl, rfl, ⟨by decide, by decide⟩, _, _, rfl, rfl, md, _, _, rfl, rfl, ⟨by decide, by decide, by decide⟩, _, rfl, _, _, rfl, rfl, ⟨by decide, by decide⟩, _, _, rfl, rfl, _, rfl, _, _, rfl, rfl, ⟨by decide, by decide⟩, _, _, rfl, rfl, ⟨by decide, by decide, by decide⟩, _, _, rfl, rfl, md, _, _, rfl, rfl, (by show 4 ≤ sizeLine; decide), fun p hp => ?_⟩
    have h1 := Int.emod_nonneg v (show (4 : Int) ≠ 0 by decide)
    have h2 := Int.emod_lt_of_pos v (show (0 : Int) < 4 by decide)
    obtain ⟨z, hz, i, rfl, zi⟩ := pick (P := fun x => ∃ i : Int, x = V.int i ∧ Sz 30 i) (xs := [.int 0, .int (v / 4 % 100), .int (10 ^ (6 : Int).toNat + v / 4), .int (0 - v / 4 % 10 ^ (5 : Int).toNat)]) h1 h2 (by
      have e5 : (10 : Int) ^ (5 : Int).toNat = 100000 := by decide
      have e6 : (10 : Int) ^ (6 : Int).toNat = 1000000 := by decide
      have e30 : (2 : Int) ^ 30 = 1073741824 := by decide
      intro x hx
      rcases List.mem_cons.mp hx with rfl | hx
      · exact ⟨_, rfl, Sz.of (by omega) (by omega)⟩
      rcases List.mem_cons.mp hx with rfl | hx
      · exact ⟨_, rfl, Sz.of (by omega) (by omega)⟩
      rcases List.mem_cons.mp hx with rfl | hx
      · exact ⟨_, rfl, Sz.of (by rw [e6, e30]; omega) (by rw [e6, e30]; omega)⟩
      rcases List.mem_cons.mp hx with rfl | hx
      · exact ⟨_, rfl, Sz.of (by rw [e5, e30]; omega) (by rw [e5, e30]; omega)⟩
      · cases hx)
    refine ⟨_, rfl, _, _, rfl, rfl, md, p, _, _, _, rfl, rfl, SqL.of upd_same, hz, ?_⟩
    refine ⟨_, rfl, _, rfl, (by show 2 ≤ sizeLine; decide), fun t ht => ?_⟩
    have ea : Tp _ a x := ((e1.but b2 d1).same (Same.new hp)).same (Same.new (o := .tup [.int i, .int 1]) ht)
    refine ⟨a, t, x, (i : Rat), rfl, ea.tq (zx.mono (by decide)), int_div i (zi.mono (by decide)) (by decide), fun r H3 nr s3 e3 => ?_⟩
    exact q r H3 _ (zx.add (Rz.int zi (by decide)) (by decide)) (((((b1.trans b2).upd hp).upd ht)).trans (But.same s3)) (((d2.new hp).new ht).same s3 (by omega)) e3
end
theorem Fo.but {l : Addr} {H H1 : Hp} {r : Addr} {n : Nat} {m y o k : Rat} (h : Fo H r m y o k) (b : But l H H1) (d : Dr H l n) : Fo H1 r m y o k := by
  obtain ⟨a, b', c, d', e, h1, h2, h3, h4⟩ := h
  exact ⟨a, b', c, d', b.tup d e, h1.but b d, h2.but b d, h3.but b d, h4.but b d⟩
/-- a month and a year of the law's -/
structure MY (m y : Rat) : Prop where
  fit : Fit m y
  zm : Rz 60 m
  zy : Rz 60 y
def qm1 : Rat := ⟨27759, 940, by decide, by decide⟩
def qy1 : Rat := ⟨1461, 4, by decide, by decide⟩
def qm2 : Rat := ⟨765433, 25920, by decide, by decide⟩
def qy2 : Rat := ⟨35975351, 98496, by decide, by decide⟩
def qm3 : Rat := ⟨59, 2, by decide, by decide⟩
def qy3 : Rat := ⟨365, 1, by decide, by decide⟩
def qm4 : Rat := ⟨30, 1, by decide, by decide⟩
def qy4 : Rat := ⟨366, 1, by decide, by decide⟩
theorem my1 : MY qm1 qy1 := ⟨⟨by decide +kernel, by decide +kernel, by decide +kernel⟩, ⟨szi _, szi _⟩, ⟨szi _, szi _⟩⟩
theorem my2 : MY qm2 qy2 := ⟨⟨by decide +kernel, by decide +kernel, by decide +kernel⟩, ⟨szi _, szi _⟩, ⟨szi _, szi _⟩⟩
theorem my3 : MY qm3 qy3 := ⟨⟨by decide +kernel, by decide +kernel, by decide +kernel⟩, ⟨szi _, szi _⟩, ⟨szi _, szi _⟩⟩
theorem my4 : MY qm4 qy4 := ⟨⟨by decide +kernel, by decide +kernel, by decide +kernel⟩, ⟨szi _, szi _⟩, ⟨szi _, szi _⟩⟩
section
variable {P : Program} {w : World} {K : PySem.W.Frag} {mg : Str → Option Value} {base : Heap}
theorem ok_lfour (D : Df K mg "_law_four" s_l_four []) (f_l_next : Ca P w K mg base CX0 1 "_law_next" s_l_next [] ["_law_draws_here"] spNext) (f_l_part : Ca P w K mg base CX0 2 "_law_part" s_l_part [] ["_law_draws_here"] spPart) (f_l_plus : Ca P w K mg base CX0 2 "_law_plus" s_l_plus [] ["_law_one", "_law_two"] (spT2 fun a b => a + b)) (f_l_by : Ca P w K mg base CX0 2 "_law_by" s_l_by [] ["_law_one", "_law_two"] (spT2 fun a b => a * b)) (f_l_moment : Ca P w K mg base CX0 3 "_law_moment" s_l_moment [] ["_law_draws_here"] spMom) : Ca P w K mg base CX0 4 "_law_four" s_l_four [] ["_law_draws_here"] spFour := by
  refine ca0 (k := 3) D c_l_four (fun vs H Q E h => ?_) fun f cdv A outer s H vs Q E hr h => ?_
  · obtain ⟨l, n, rfl, _⟩ := h
    rfl
  · obtain ⟨l, n, rfl, d, hn, q⟩ := h
    refine ⟨_, (pss_cons (ps_set (i := 1) c_l_four.nd rfl (.inl rfl) (pe_ca f_l_next b_l_next hr (by decide) pass0 rfl (pa_cons (pv 0) pa_nil)))
      (pss_cons (ps_if (pt_cmpR op_eq (pe_op op_mod (pv 1) pe_int) pe_int (nomark _)) (pss_cons (ps_set (i := 2) c_l_four.nd rfl (.inl rfl) (pe_lst (pa_cons (pe_tup (pa_cons (pe_tup (pa_cons pe_int (pa_cons pe_int pa_nil))) (pa_cons (pe_tup (pa_cons pe_int (pa_cons pe_int pa_nil))) pa_nil))) (pa_cons (pe_tup (pa_cons (pe_tup (pa_cons pe_int (pa_cons pe_int pa_nil))) (pa_cons (pe_tup (pa_cons pe_int (pa_cons pe_int pa_nil))) pa_nil))) pa_nil))))
      (pss_one (ps_asg (pe_ix ix_list (pe_op op_cat (pv 2) (pe_lst (pa_cons (pe_tup (pa_cons (pe_tup (pa_cons pe_int (pa_cons pe_int pa_nil))) (pa_cons (pe_tup (pa_cons pe_int (pa_cons pe_int pa_nil))) pa_nil))) (pa_cons (pe_tup (pa_cons (pe_tup (pa_cons pe_int (pa_cons pe_int pa_nil))) (pa_cons (pe_tup (pa_cons pe_int (pa_cons pe_int pa_nil))) pa_nil))) pa_nil)))) (pe_op op_mod (pe_op op_fdiv (pv 1) pe_int) pe_int) (fun _ _ => rfl)) (pg_tup rfl (pgs_cons (pg_name (i := 3) c_l_four.nd rfl (.inl rfl)) (pgs_cons (pg_name (i := 4) c_l_four.nd rfl (.inl rfl)) pgs_nil)))))) (pss_cons (ps_set (i := 5) c_l_four.nd rfl (.inl rfl) (pe_lst (pa_cons (pe_op op_add pe_int (pe_op op_mod (pe_op op_fdiv (pv 1) pe_int) pe_int)) (pa_cons (pe_op op_add pe_int (pe_op op_mod (pe_op op_fdiv (pv 1) pe_int) pe_int)) (pa_cons (pe_op op_add pe_int (pe_op op_mod (pe_op op_fdiv (pv 1) pe_int) pe_int)) pa_nil)))))
      (pss_cons (ps_set (i := 5) c_l_four.nd rfl (.inl rfl) (pe_ix ix_list (pe_op op_cat (pv 5) (pe_lst (pa_cons pe_int (pa_cons pe_int pa_nil)))) (pe_op op_mod (pe_op op_fdiv (pv 1) pe_int) pe_int) (fun _ _ => rfl)))
      (pss_cons (ps_set (i := 6) c_l_four.nd rfl (.inl rfl) (pe_ca f_l_part b_l_part hr (by decide) pass0 rfl (pa_cons (pv 0) pa_nil)))
      (pss_cons (ps_set (i := 7) c_l_four.nd rfl (.inl rfl) (pe_ca f_l_part b_l_part hr (by decide) pass0 rfl (pa_cons (pv 0) pa_nil)))
      (pss_cons (ps_set (i := 3) c_l_four.nd rfl (.inl rfl) (pe_ca f_l_by b_l_by hr (by decide) pass0 rfl (pa_cons (pe_ca f_l_plus b_l_plus hr (by decide) pass0 rfl (pa_cons (pe_tup (pa_cons (pe_op op_add (pe_op op_mul pe_int (pv 5)) pe_int) (pa_cons pe_int pa_nil))) (pa_cons (pe_ca f_l_by b_l_by hr (by decide) pass0 rfl (pa_cons (pv 6) (pa_cons (pe_tup (pa_cons (pe_op op_sub (pv 5) pe_int) (pa_cons pe_int pa_nil))) pa_nil))) pa_nil))) (pa_cons (pe_tup (pa_cons pe_int (pa_cons pe_int pa_nil))) pa_nil))))
      (pss_one (ps_set (i := 4) c_l_four.nd rfl (.inl rfl) (pe_ca f_l_plus b_l_plus hr (by decide) pass0 rfl (pa_cons (pe_tup (pa_cons (pe_op op_mul pe_int (pv 5)) (pa_cons pe_int pa_nil))) (pa_cons (pe_ca f_l_by b_l_by hr (by decide) pass0 rfl (pa_cons (pe_ca f_l_by b_l_by hr (by decide) pass0 rfl (pa_cons (pv 7) (pa_cons (pv 6) pa_nil))) (pa_cons (pe_tup (pa_cons (pe_op op_sub (pv 5) pe_int) (pa_cons pe_int pa_nil))) pa_nil))) pa_nil)))))))))))
      (pss_one (ps_ret (pe_tup (pa_cons (pv 3) (pa_cons (pv 4) (pa_cons (pe_ca f_l_moment b_l_moment hr (by decide) pass0 rfl (pa_cons (pv 0) pa_nil)) (pa_cons (pe_ca f_l_moment b_l_moment hr (by decide) pass0 rfl (pa_cons (pv 0) pa_nil)) pa_nil))))))))), ?_⟩
    have fin : ∀ (x1 x2 x5 x6 x7 : Option V) (a b : Addr) (m y : Rat) (H1 : Hp), MY m y → But l H H1 → Dr H1 l (n + 5) → Tp H1 a m → Tp H1 b y →
        tRet (tTup (tCons (tVar 3) (tCons (tVar 4) (tCons (tCall spMom [] E0 (tCons (tVar 0) tNil)) (tCons (tCall spMom [] E0 (tCons (tVar 0) tNil)) tNil))))) { nx := fun _ H' => Q .non H', rt := Q } [some (.ref l), x1, x2, some (.ref a), some (.ref b), x5, x6, x7] H1 := by
      intro x1 x2 x5 x6 x7 a b m y H1 my b1 d1 ea eb
      refine ⟨_, rfl, _, rfl, _, rfl, l, n + 5, rfl, d1, by omega, fun c H2 o zo b2 d2 ec => ?_⟩
      refine ⟨_, rfl, l, n + 8, rfl, d2, by omega, fun e H3 k zk b3 d3 ee => ?_⟩
      refine ⟨(by show 4 ≤ sizeLine; decide), fun r hr' => ?_⟩
      have bb : But l H1 H3 := b2.trans b3
      refine q r _ m y o k ⟨my.fit, my.zm.mono (by decide), my.zy.mono (by decide), zo.mono (by decide), zk.mono (by decide)⟩ ((b1.trans bb).upd hr') ((d3.new hr').mono (by omega)) ?_
      exact ⟨a, b, c, e, upd_same, (ea.but bb d1).same (Same.new hr'), (eb.but bb d1).same (Same.new hr'), (ec.but b3 d2).same (Same.new hr'), ee.same (Same.new hr')⟩
    refine ⟨_, rfl, l, n, rfl, d, by omega, fun v H1 v0 v1 b1 d1 => ?_⟩
    refine ⟨_, rfl, _, _, rfl, rfl, md, rfl, _, rfl, ?_⟩
    refine ite2 (fun _ => ?_) (fun _ => ?_)
    · refine ⟨(by show 2 ≤ sizeLine; decide), fun a1 n1 => ⟨(by show 2 ≤ sizeLine; decide), fun c1 n2 => ⟨(by show 2 ≤ sizeLine; decide), fun r1 n3 => ⟨(by show 2 ≤ sizeLine; decide), fun a2 n4 => ⟨(by show 2 ≤ sizeLine; decide), fun c2 n5 => ⟨(by show 2 ≤ sizeLine; decide), fun r2 n6 => ⟨(by show 2 ≤ sizeLine; decide), fun l1 n7 => ?_⟩⟩⟩⟩⟩⟩⟩
      refine ⟨_, rfl, (by show 2 ≤ sizeLine; decide), fun a3 n8 => ⟨(by show 2 ≤ sizeLine; decide), fun c3 n9 => ⟨(by show 2 ≤ sizeLine; decide), fun r3 n10 => ⟨(by show 2 ≤ sizeLine; decide), fun a4 n11 => ⟨(by show 2 ≤ sizeLine; decide), fun c4 n12 => ⟨(by show 2 ≤ sizeLine; decide), fun r4 n13 => ⟨(by show 2 ≤ sizeLine; decide), fun l2 n14 => ?_⟩⟩⟩⟩⟩⟩⟩
      have s2 := Same.new (o := .tup [.int 1461, .int 4]) n2
      have s3 := Same.new (o := .tup [.ref a1, .ref c1]) n3
      have s4 := Same.new (o := .tup [.int 765433, .int 25920]) n4
      have s5 := Same.new (o := .tup [.int 35975351, .int 98496]) n5
      have s6 := Same.new (o := .tup [.ref a2, .ref c2]) n6
      have s7 := Same.new (o := .lst [.ref r1, .ref r2]) n7
      have s8 := Same.new (o := .tup [.int 59, .int 2]) n8
      have s9 := Same.new (o := .tup [.int 365, .int 1]) n9
      have s10 := Same.new (o := .tup [.ref a3, .ref c3]) n10
      have s11 := Same.new (o := .tup [.int 30, .int 1]) n11
      have s12 := Same.new (o := .tup [.int 366, .int 1]) n12
      have s13 := Same.new (o := .tup [.ref a4, .ref c4]) n13
      have s14 := Same.new (o := .lst [.ref r3, .ref r4]) n14
      have t13 := s14
      have t12 := s13.trans t13
      have t11 := s12.trans t12
      have t10 := s11.trans t11
      have t9 := s10.trans t10
      have t8 := s9.trans t9
      have t7 := s8.trans t8
      have t6 := s7.trans t7
      have t5 := s6.trans t6
      have t4 := s5.trans t5
      have t3 := s4.trans t4
      have t2 := s3.trans t3
      have t1 := s2.trans t2
      have t0 := (Same.new (o := .tup [.int 27759, .int 940]) n1).trans t1
      refine ⟨l1, l2, _, _, rfl, rfl, t7 _ _ upd_same, upd_same, (by show 4 ≤ sizeLine; decide), fun l3 n15 => ?_⟩
      have sz := Same.new (o := .lst ([.ref r1, .ref r2] ++ [.ref r3, .ref r4])) n15
      have h1 := Int.emod_nonneg (v / 8) (show (4 : Int) ≠ 0 by decide)
      have h2 := Int.emod_lt_of_pos (v / 8) (show (0 : Int) < 4 by decide)
      obtain ⟨x, hx, r, a, c, m, y, rfl, er, ea, ec, my⟩ := pick (P := fun x => ∃ (r a c : Addr) (m y : Rat), x = V.ref r ∧ (L2.upd _ l3 (.lst ([.ref r1, .ref r2] ++ [.ref r3, .ref r4]))) r = some (.tup [.ref a, .ref c]) ∧ Tp (L2.upd _ l3 (.lst ([.ref r1, .ref r2] ++ [.ref r3, .ref r4]))) a m ∧ Tp (L2.upd _ l3 (.lst ([.ref r1, .ref r2] ++ [.ref r3, .ref r4]))) c y ∧ MY m y) (xs := [.ref r1, .ref r2, .ref r3, .ref r4]) h1 h2 (by
        intro x hx
        rcases List.mem_cons.mp hx with rfl | hx
        · exact ⟨r1, a1, c1, qm1, qy1, rfl, sz _ _ (t3 _ _ upd_same), sz _ _ (t1 _ _ upd_same), sz _ _ (t2 _ _ upd_same), my1⟩
        rcases List.mem_cons.mp hx with rfl | hx
        · exact ⟨r2, a2, c2, qm2, qy2, rfl, sz _ _ (t6 _ _ upd_same), sz _ _ (t4 _ _ upd_same), sz _ _ (t5 _ _ upd_same), my2⟩
        rcases List.mem_cons.mp hx with rfl | hx
        · exact ⟨r3, a3, c3, qm3, qy3, rfl, sz _ _ (t10 _ _ upd_same), sz _ _ (t8 _ _ upd_same), sz _ _ (t9 _ _ upd_same), my3⟩
        rcases List.mem_cons.mp hx with rfl | hx
        · exact ⟨r4, a4, c4, qm4, qy4, rfl, sz _ _ (t13 _ _ upd_same), sz _ _ (t11 _ _ upd_same), sz _ _ (t12 _ _ upd_same), my4⟩
        · cases hx)
      refine ⟨_, rfl, _, _, rfl, rfl, ⟨by decide, by decide⟩, _, _, rfl, rfl, md, l3, _, _, _, rfl, rfl, SqL.of upd_same, hx, ?_⟩
      refine ⟨r, _, rfl, SqT.of er, rfl, _, _, rfl, _, _, rfl, rfl, ?_⟩
      exact fin _ _ _ _ _ a c m y _ my (b1.trans (But.same (t0.trans sz))) (d1.same (t0.trans sz) (by omega)) ea ec
    · refine ⟨_, rfl, _, _, rfl, rfl, ⟨by decide, by decide⟩, _, _, rfl, rfl, md, _, _, rfl, rfl, _, rfl, _, _, rfl, rfl, ⟨by decide, by decide⟩, _, _, rfl, rfl, md, _, _, rfl, rfl, _, rfl, _, _, rfl, rfl, ⟨by decide, by decide⟩, _, _, rfl, rfl, md, _, _, rfl, rfl, (by show 3 ≤ sizeLine; decide), fun p0 np0 => ?_⟩
      refine ⟨_, rfl, (by show 2 ≤ sizeLine; decide), fun p9 np9 => ?_⟩
      have ne09 : p0 ≠ p9 := ne_of_none upd_same np9
      refine ⟨p0, p9, _, _, rfl, rfl, (by rw [upd_ne ne09]; exact upd_same), upd_same, (by show 5 ≤ sizeLine; decide), fun p hp => ?_⟩
      have sp := ((Same.new (o := .lst [.int (1 + v / 8 % 4), .int (2 + v / 8 % 30), .int (28 + v / 8 % 5)]) np0).trans (Same.new (o := .lst [.int 30, .int 30]) np9)).trans (Same.new (o := .lst ([.int (1 + v / 8 % 4), .int (2 + v / 8 % 30), .int (28 + v / 8 % 5)] ++ [.int 30, .int 30])) hp)
      have ep := upd_same (H := L2.upd (L2.upd H1 p0 (.lst [.int (1 + v / 8 % 4), .int (2 + v / 8 % 30), .int (28 + v / 8 % 5)])) p9 (.lst [.int 30, .int 30])) (a := p) (o := .lst ([.int (1 + v / 8 % 4), .int (2 + v / 8 % 30), .int (28 + v / 8 % 5)] ++ [.int 30, .int 30]))
      generalize L2.upd _ p (.lst ([.int (1 + v / 8 % 4), .int (2 + v / 8 % 30), .int (28 + v / 8 % 5)] ++ [.int 30, .int 30])) = Hp' at *
      have h1 := Int.emod_nonneg (v / 400) (show (5 : Int) ≠ 0 by decide)
      have h2 := Int.emod_lt_of_pos (v / 400) (show (0 : Int) < 5 by decide)
      obtain ⟨z, hz, i, rfl, i0, i1⟩ := pick (P := fun x => ∃ i : Int, x = V.int i ∧ 1 ≤ i ∧ i ≤ 32) (xs := [.int (1 + v / 8 % 4), .int (2 + v / 8 % 30), .int (28 + v / 8 % 5), .int 30, .int 30]) h1 h2 (by
        intro x hx
        rcases List.mem_cons.mp hx with rfl | hx
        · exact ⟨_, rfl, by omega, by omega⟩
        rcases List.mem_cons.mp hx with rfl | hx
        · exact ⟨_, rfl, by omega, by omega⟩
        rcases List.mem_cons.mp hx with rfl | hx
        · exact ⟨_, rfl, by omega, by omega⟩
        rcases List.mem_cons.mp hx with rfl | hx
        · exact ⟨_, rfl, by omega, by omega⟩
        rcases List.mem_cons.mp hx with rfl | hx
        · exact ⟨_, rfl, by omega, by omega⟩
        · cases hx)
      refine ⟨_, rfl, _, _, rfl, rfl, ⟨by decide, by decide⟩, _, _, rfl, rfl, md, p, _, _, _, rfl, rfl, SqL.of ep, hz, ?_⟩
      refine ⟨_, rfl, l, n + 1, rfl, d1.same sp (Nat.le_refl _), by omega, fun a2 H2 sq s0 s1 zs b2 d2 e2 => ?_⟩
      refine ⟨_, rfl, l, n + 3, rfl, d2, by omega, fun a3 H3 rq r0 r1 zr b3 d3 e3 => ?_⟩
      have b13 : But l H H3 := ((b1.trans (But.same sp)).trans b2).trans b3
      have e2' : Tp H3 a2 sq := e2.but b3 d2
      have p6 : (2 : Int) ^ 6 = 64 := by decide
      have p10 : (2 : Int) ^ 10 = 1024 := by decide
      have z1 : Rz 6 ((i - 1 : Int) : Rat) := Rz.int (n := 6) (Sz.of (by omega) (by omega)) (by decide)
      have z12 : Rz 10 ((12 * i : Int) : Rat) := Rz.int (n := 10) (Sz.of (by omega) (by omega)) (by decide)
      have z121 : Rz 10 ((12 * i + 1 : Int) : Rat) := Rz.int (n := 10) (Sz.of (by omega) (by omega)) (by decide)
      have zsw : Rz 25 (sq * ((i - 1 : Int) : Rat)) := zs.mul z1 (by decide)
      have zp : Rz 36 (((12 * i + 1 : Int) : Rat) + sq * ((i - 1 : Int) : Rat)) := z121.add zsw (by decide)
      have z13 : Rz 4 (Rat.divInt 1 13) := Rz.divInt (szi 1) (szi 13) (by decide)
      have zm : Rz 60 ((((12 * i + 1 : Int) : Rat) + sq * ((i - 1 : Int) : Rat)) * Rat.divInt 1 13) := zp.mul z13 (by decide)
      have zrs : Rz 37 (rq * sq) := zr.mul zs (by decide)
      have zrw : Rz 44 (rq * sq * ((i - 1 : Int) : Rat)) := zrs.mul z1 (by decide)
      have zy : Rz 60 (((12 * i : Int) : Rat) + rq * sq * ((i - 1 : Int) : Rat)) := z12.add zrw (by decide)
      refine ⟨_, rfl, _, _, rfl, rfl, .inl ⟨by decide, by decide⟩, _, _, rfl, rfl, (by show 2 ≤ sizeLine; decide), fun t1 n1 => ?_⟩
      refine ⟨_, rfl, _, rfl, _, _, rfl, rfl, (by show 2 ≤ sizeLine; decide), fun t2 n2 => ?_⟩
      have u1 := Same.new (o := .tup [.int (12 * i + 1), .int 1]) n1
      have u2 := Same.new (o := .tup [.int (i - 1), .int 1]) n2
      refine ⟨a2, t2, sq, _, rfl, ((e2'.same u1).same u2).tq (zs.mono (by decide)), int_div (i - 1) (z1.1.mono (by decide)) (by decide), fun t3 H4 n3 u3 e4 => ?_⟩
      refine ⟨t1, t3, _, _, rfl, ((int_div (12 * i + 1) (z121.1.mono (by decide)) (by decide)).same u2).same u3, e4.tq (zsw.mono (by decide)), fun t4 H5 n4 u4 e5 => ?_⟩
      refine ⟨(by show 2 ≤ sizeLine; decide), fun t5 n5 => ?_⟩
      have u5 := Same.new (o := .tup [.int 1, .int 13]) n5
      refine ⟨t4, t5, _, Rat.divInt 1 13, rfl, (e5.same u5).tq (zp.mono (by decide)), ⟨1, 13, upd_same, by decide, rfl, szi 1 (Nat.one_lt_two_pow (by decide)), (szi (n := 4) 13).mono (by decide)⟩, fun t6 H6 n6 u6 e6 => ?_⟩
      have v16 : Same H3 H6 := u1.trans (u2.trans (u3.trans (u4.trans (u5.trans u6))))
      refine ⟨_, rfl, _, _, rfl, rfl, .inl ⟨by decide, by decide⟩, (by show 2 ≤ sizeLine; decide), fun t7 n7 => ?_⟩
      have u7 := Same.new (o := .tup [.int (12 * i), .int 1]) n7
      refine ⟨_, rfl, _, rfl, a3, a2, rq, sq, rfl, ((e3.same v16).same u7).tq (zr.mono (by decide)), ((e2'.same v16).same u7).tq (zs.mono (by decide)), fun t8 H8 n8 u8 e8 => ?_⟩
      refine ⟨_, rfl, _, _, rfl, rfl, (by show 2 ≤ sizeLine; decide), fun t9 n9 => ?_⟩
      have u9 := Same.new (o := .tup [.int (i - 1), .int 1]) n9
      refine ⟨t8, t9, _, _, rfl, (e8.same u9).tq (zrs.mono (by decide)), int_div (i - 1) (z1.1.mono (by decide)) (by decide), fun t10 H10 n10 u10 e10 => ?_⟩
      refine ⟨t7, t10, _, _, rfl, ((int_div (12 * i) (z12.1.mono (by decide)) (by decide)).same (u8.trans u9)).same u10, e10.tq (zrw.mono (by decide)), fun t11 H11 n11 u11 e11 => ?_⟩
      have v6 : Same H6 H11 := u7.trans (u8.trans (u9.trans (u10.trans u11)))
      exact fin _ _ _ _ _ t6 t11 _ _ H11 ⟨fit_drawn i0 s0 s1 r0 r1, zm, zy⟩ (b13.trans (But.same (v16.trans v6))) (d3.same (v16.trans v6) (by omega)) (e6.same v6) e11
end
/-! ### calendars made, the second way -/
def gC4 {α : Type} : List α → List α → List α → List α := fun us _ ws => us ++ (match ws with | [a, b, c, d] => [d, c, b, a] | _ => [])
def gC2 {α : Type} : List α → List α → List α → List α := fun us _ ws => us ++ ws
theorem gC4_rel {vs ds zs : List V} {us its ws : List Value} (h : Vals vs us) (_ : Vals ds its) (k : Vals zs ws) : Vals (gC4 vs ds zs) (gC4 us its ws) := by
  refine h.append ?_
  cases k with
  | nil => exact .nil
  | cons a k => cases k with
    | nil => exact .nil
    | cons b k => cases k with
      | nil => exact .nil
      | cons c k => cases k with
        | nil => exact .nil
        | cons d k => cases k with
          | nil => exact .cons d (.cons c (.cons b (.cons a .nil)))
          | cons e k => exact .nil
theorem gC2_rel {vs ds zs : List V} {us its ws : List Value} (h : Vals vs us) (_ : Vals ds its) (k : Vals zs ws) : Vals (gC2 vs ds zs) (gC2 us its ws) := h.append k
theorem kb_Calendar_0_mark_moon_year_month : Kd "Calendar.__init__" s_Calendar_init 2 1 ["mark", "moon", "year", "month"] ["self", "month", "year", "moon", "mark"] gC4 :=
  ⟨fun _ _ _ _ _ _ _ us its ws hu hi hw => match us, hu, its, hi, ws, hw with | [_], _, [_, _], _, [_, _, _, _], _ => ⟨_, rfl, rfl⟩, gC4_rel⟩
theorem kb_Calendar_2_moon_mark : Kd "Calendar.__init__" s_Calendar_init 2 3 ["moon", "mark"] ["self", "month", "year", "moon", "mark"] gC2 :=
  ⟨fun _ _ _ _ _ _ _ us its ws hu hi hw => match us, hu, its, hi, ws, hw with | [_, _, _], _, [_, _], _, [_, _], _ => ⟨_, rfl, rfl⟩, gC2_rel⟩
theorem bd_Calendar4 : Bd1 "__init__" "Calendar.__init__" s_Calendar_init ["self", "month", "year", "moon", "mark"] 5 2 2 := fun _ _ _ _ _ _ _ us its hu hi => match us, hu, its, hi with | [_, _, _, _, _], _, [_, _], _ => ⟨_, rfl, rfl⟩
theorem made_ca {C Cc : Addr} {H : Hp} {R : Addr → Hp → Prop} {E : XK} {v u x z : V} {m y o k : Rat} (hv : Rv C H v m) (hu : Rv C H u y) (hx : Mv C H x o) (hz : Mv C H z k) (g : Good m y o k) (h : ∀ p H', H p = none → Same H H' → Cl C Cc H' p m y o k → R p H') :
    ∀ a dx, H a = none → H dx = none → dx ≠ a → spCaI C Cc [.ref a, v, u, x, z] (L2.upd (L2.upd H dx (.own a)) a (.ins Cc dx [])) (fun r H2 => r = .non ∧ R a H2) E := by
  intro a dx ha hd ne
  have s0 : Same H (L2.upd (L2.upd H dx (.own a)) a (.ins Cc dx [])) := Same.upd (Same.new hd) (by rw [upd_ne ne.symm]; exact ha)
  refine ⟨a, dx, v, u, x, z, m, y, o, k, rfl, upd_same, hv.same s0, hu.same s0, hx.same s0, hz.same s0, g, fun H' b hc => ⟨rfl, ?_⟩⟩
  exact h a H' ha (fun c w e => b c w (ne_of_none e ha) (s0 c w e)) hc
def spMade (C Cc : Addr) : Sp := fun vs H Q _ => ∃ (r : Addr) (i : Int) (m y o k : Rat), vs = [.ref r, .int i] ∧ Fo H r m y o k ∧ Good m y o k ∧ ∀ p H', H p = none → Same H H' → Cl C Cc H' p m y o k → Q (.ref p) H'
theorem Sh.mv {C p : Addr} {H : Hp} {q : Rat} (h : Sh C H p q) : Mv C H (.ref p) q := .inr h.rv
/-- a comprehension's turn without a test -/
theorem yes {σ : L2.St} {H : Hp} {A B : Hp → Prop} (h : A H) : tYes σ H fun b H3 => if b = true then A H3 else B H3 := by
  show if true = true then A H else B H
  rw [if_pos rfl]
  exact h
/-- what the law's four hold, one by one -/
theorem four_at {H : Hp} {r a b c d : Addr} {m y o k : Rat} (g : Good m y o k) (h1 : Tp H a m) (h2 : Tp H b y) (h3 : Tp H c o) (h4 : Tp H d k) {i : Nat} {x : V} (hi : [V.ref a, V.ref b, V.ref c, V.ref d][i]? = some x) : ∃ (t : Addr) (q : Rat), x = V.ref t ∧ [m, y, o, k][i]? = some q ∧ Tp H t q ∧ Rz 70 q := by
  match i, hi with
  | 0, hi => cases hi; exact ⟨a, m, rfl, rfl, h1, g.zm⟩
  | 1, hi => cases hi; exact ⟨b, y, rfl, rfl, h2, g.zy⟩
  | 2, hi => cases hi; exact ⟨c, o, rfl, rfl, h3, g.zo⟩
  | 3, hi => cases hi; exact ⟨d, k, rfl, rfl, h4, g.zk⟩
  | j + 4, hi => simp at hi
section
variable {P : Program} {w : World} {K : PySem.W.Frag} {mg : Str → Option Value} {base : Heap} {C Cc : Addr}
abbrev TE_l_made1 (C : Addr) : TE := tMake C (spShI C) (([.int 1] : List V).drop 1) E0 (tCons (tVar 6) (tCons (tVar 7) tNil))
theorem ok_lmade2 (D : Df K mg "_law_made" s_l_made []) (f_Share : Ci P w K mg base CX0 2 "Share" C "Share.__init__" s_Share_init [.int 1] ["self", "top", "bottom"] (spShI C)) (f_Calendar : Ci P w K mg base CX0 8 "Calendar" Cc "Calendar.__init__" s_Calendar_init [.non, .non] ["self", "month", "year", "moon", "mark"] (spCaI C Cc)) : Ca P w K mg base CX0 10 "_law_made" s_l_made [] ["_law_four_here", "_law_way"] (spMade C Cc) := by
  refine ca0 (k := 9) D c_l_made (fun vs H Q E h => ?_) fun f cdv A outer s H vs Q E hr h => ?_
  · obtain ⟨r, i, m, y, o, k, rfl, _⟩ := h
    rfl
  · obtain ⟨r, i, m, y, o, k, rfl, fo, g, q⟩ := h
    obtain ⟨a, b, c, d, e, h1, h2, h3, h4⟩ := id fo
    refine ⟨_, (pss_cons (ps_asg (pe_lc (own := [("_law_top", 6), ("_law_bottom", 7)]) (g := gTup K 2 (gCons (gName 6) (gCons (gName 7) gNil))) (tt := tYes) (te := TE_l_made1 C) rfl c_l_made.nd (pi_tup (pv 0)) (blkOk_by (N := ["_law_four_here", "_law_way", "_law_lune", "_law_sun", "_law_come", "_law_begun", "_law_top", "_law_bottom"]) (sc := defScope s_l_made) (by decide +kernel)) (fun _ _ _ _ _ => (pg_tup rfl (pgs_cons (pg_name (i := 6) c_l_made.nd rfl (.inl rfl)) (pgs_cons (pg_name (i := 7) c_l_made.nd rfl (.inl rfl)) pgs_nil)))) (fun _ _ _ _ _ => by exact pts_nil) (fun _ _ _ _ _ => by exact (pe_ci f_Share bd_Share2 (by decide) rfl hr (by decide) pass0 rfl (pa_cons (pv 6) (pa_cons (pv 7) pa_nil))))) (pg_unl rfl (pgs_cons (pg_name (i := 2) c_l_made.nd rfl (.inl rfl)) (pgs_cons (pg_name (i := 3) c_l_made.nd rfl (.inl rfl)) (pgs_cons (pg_name (i := 4) c_l_made.nd rfl (.inl rfl)) (pgs_cons (pg_name (i := 5) c_l_made.nd rfl (.inl rfl)) pgs_nil))))))
      (pss_cons (ps_if (pt_cmpR op_eq (pe_op op_mod (pv 1) pe_int) pe_int (nomark _)) (pss_one (ps_ret (pe_ci f_Calendar bd_Calendar4 (by decide) rfl hr (by decide) pass0 rfl (pa_cons (pv 2) (pa_cons (pv 3) (pa_cons (pv 4) (pa_cons (pv 5) pa_nil))))))) pss_nil)
      (pss_cons (ps_if (pt_cmpR op_eq (pe_op op_mod (pv 1) pe_int) pe_int (nomark _)) (pss_one (ps_ret (pe_ciK f_Calendar kb_Calendar_2_moon_mark (by decide) hr (by decide) pass0 rfl (pa_cons (pv 2) (pa_cons (pv 3) pa_nil)) (pk_cons (pv 4) (pk_cons (pv 5) pk_nil))))) pss_nil)
      (pss_one (ps_ret (pe_ciK0 f_Calendar kb_Calendar_0_mark_moon_year_month (by decide) hr (by decide) pass0 rfl (pk_cons (pv 5) (pk_cons (pv 4) (pk_cons (pv 3) (pk_cons (pv 2) pk_nil)))))))))), ?_⟩
    refine ⟨_, rfl, r, rfl, ⟨_, SqT.of e⟩, fun D0 hD => ?_⟩
    refine lc_all (walk_tup (K := K) (a := r) (xs := [.ref a, .ref b, .ref c, .ref d])) yAt_same hD (by show 4 < sizeLine; decide) (fun j v H' => ∃ (p : Addr) (x : Rat), v = .ref p ∧ [m, y, o, k][j]? = some x ∧ Sh C H' p x)
      (fun j v H1 H2 s ⟨p, x, e1, e2, e3⟩ => ⟨p, x, e1, e2, e3.same s⟩) (fun j v H1 acc acc' hacc ⟨p, x, e1, e2, dx, e3⟩ => ⟨p, x, e1, e2, dx, ?_⟩) (fun H' s' => SqT.of (s' _ _ e)) ?_ ?_
    · rw [upd_ne (ne_of e3 hacc (by intro z; cases z))]
      exact e3
    · rintro i x H1 H2 R hi s1 ⟨rfl, hx⟩ k1
      obtain ⟨t, xq, rfl, hq, ht, zq⟩ := four_at (r := r) g (h1.same s1) (h2.same s1) (h3.same s1) (h4.same s1) hx
      refine ⟨t, _, rfl, SqT.of ht, rfl, _, _, rfl, _, _, rfl, rfl, rfl, ?_⟩
      refine ⟨_, rfl, _, rfl, ?_⟩
      refine made_sh (Int.ne_of_gt (den_pos xq)) (zq.1.mono (by decide)) (zq.2.mono (by decide)) fun p H3 np s3 h3' => ?_
      rw [Rat.num_divInt_den] at h3'
      exact k1 _ H3 s3 ⟨p, xq, rfl, hq, h3'⟩
    · intro us H' hl hD' hs hp
      match us, hl with
      | [u1, u2, u3, u4], _ =>
        obtain ⟨p1, x1, rfl, e1, g1⟩ := hp 0 _ rfl
        obtain ⟨p2, x2, rfl, e2, g2⟩ := hp 1 _ rfl
        obtain ⟨p3, x3, rfl, e3, g3⟩ := hp 2 _ rfl
        obtain ⟨p4, x4, rfl, e4, g4⟩ := hp 3 _ rfl
        cases e1
        cases e2
        cases e3
        cases e4
        refine ⟨D0, _, rfl, SqL.of hD', rfl, _, _, rfl, _, _, rfl, _, _, rfl, _, _, rfl, rfl, ?_⟩
        have fin : ∀ a dx, H' a = none → H' dx = none → dx ≠ a → spCaI C Cc [.ref a, .ref p1, .ref p2, .ref p3, .ref p4] (L2.upd (L2.upd H' dx (.own a)) a (.ins Cc dx [])) (fun r H2 => r = .non ∧ Q (.ref a) H2) E0 :=
          made_ca g1.rv g2.rv g3.mv g4.mv g fun p H2 np s2 hc => q p H2 (hs.free np) (hs.trans s2) hc
        refine ⟨_, rfl, _, _, rfl, rfl, md, rfl, _, rfl, ite2 (fun _ => ?_) (fun _ => ?_)⟩
        · exact ⟨_, rfl, _, rfl, _, rfl, _, rfl, fin⟩
        refine ⟨_, rfl, _, _, rfl, rfl, md, rfl, _, rfl, ite2 (fun _ => ?_) (fun _ => ?_)⟩
        · exact ⟨_, rfl, _, rfl, _, rfl, _, rfl, rfl, rfl, fin⟩
        · exact ⟨_, rfl, _, rfl, _, rfl, _, rfl, rfl, rfl, fin⟩
end
/-- the law's four and the calendar made of them, of these fractions -/
structure Pr (C Cc : Addr) (H : Hp) (r p : Addr) (m y o k : Rat) : Prop where
  fo : Fo H r m y o k
  cl : Cl C Cc H p m y o k
  g : Good m y o k
theorem Pr.same {C Cc : Addr} {H H1 : Hp} {r p : Addr} {m y o k : Rat} (h : Pr C Cc H r p m y o k) (s : Same H H1) : Pr C Cc H1 r p m y o k := ⟨h.fo.same s, h.cl.same s, h.g⟩
theorem Pr.but {C Cc l : Addr} {H H1 : Hp} {r p : Addr} {n : Nat} {m y o k : Rat} (h : Pr C Cc H r p m y o k) (b : But l H H1) (d : Dr H l n) : Pr C Cc H1 r p m y o k := by
  refine ⟨h.fo.but b d, ?_, h.g⟩
  obtain ⟨dx, a, b', c, d', e, ⟨x1, h1⟩, ⟨x2, h2⟩, ⟨x3, h3⟩, ⟨x4, h4⟩⟩ := h.cl
  exact ⟨dx, a, b', c, d', b.ins d e, ⟨x1, b.ins d h1⟩, ⟨x2, b.ins d h2⟩, ⟨x3, b.ins d h3⟩, ⟨x4, b.ins d h4⟩⟩
/-! ### the law -/
def spLaw (K : PySem.W.Frag) : Sp := fun vs H Q _ => ∃ (a : Addr) (ns : List Int), vs = [.ref a] ∧ SqL K H a (ns.map V.int) ∧ ns.length ≤ 63 ∧ ∀ H', Q (.bl true) H'
theorem cut_ints {ns : List Int} {lo hi : Option Int} {j : Nat} {x : V} (h : (cutV (ns.map V.int) lo hi ++ [V.int 0])[j]? = some x) : ∃ c : Int, x = .int c := by
  have hx : x ∈ cutV (ns.map V.int) lo hi ++ [V.int 0] := List.mem_of_getElem? h
  rcases List.mem_append.mp hx with hx | hx
  · have h1 := List.mem_of_mem_take hx
    have h2 := List.mem_of_mem_drop h1
    obtain ⟨c, _, e⟩ := List.mem_map.mp h2
    exact ⟨c, e.symm⟩
  · exact ⟨0, List.mem_singleton.mp hx⟩
theorem cut_len {ns : List Int} {lo hi : Option Int} (h : ns.length ≤ 63) : (cutV (ns.map V.int) lo hi).length + ([V.int 0] : List V).length ≤ sizeLine := by
  have h1 := cutV_length (ns.map V.int) lo hi
  rw [List.length_map] at h1
  have h2 : ([V.int 0] : List V).length = 1 := rfl
  exact Nat.le_trans (show _ ≤ 64 by omega) (by decide)
/-! what is drawn -/
def spDay : Sp := fun vs H Q _ => ∃ (l : Addr) (n : Nat), vs = [.ref l] ∧ Dr H l n ∧ n ≤ 1000000 ∧ ∀ v H', Sz 64 v → But l H H' → Dr H' l (n + 1) → Q (.int v) H'
section
variable {P : Program} {w : World} {K : PySem.W.Frag} {mg : Str → Option Value} {base : Heap}
theorem ok_lday (D : Df K mg "_law_day" s_l_day []) (nx : Ca P w K mg base CX0 1 "_law_next" s_l_next [] ["_law_draws_here"] spNext) : Ca P w K mg base CX0 2 "_law_day" s_l_day [] ["_law_draws_here"] spDay := by
  refine ca0 (k := 1) D c_l_day (fun vs H Q E h => ?_) fun f cdv A outer s H vs Q E hr h => ?_
  · obtain ⟨l, n, rfl, _⟩ := h
    rfl
  · obtain ⟨l, n, rfl, d, hn, q⟩ := h
    refine ⟨_, pss_cons (ps_set (i := 1) c_l_day.nd rfl (.inl rfl) (pe_ca nx b_l_next hr (by decide) pass0 rfl (pa_cons (pv 0) pa_nil)))
      (pss_cons (ps_set (i := 2) c_l_day.nd rfl (.inl rfl) (pe_lst (pa_cons (pe_op op_mod (pe_op op_fdiv (pv 1) pe_int) pe_int) (pa_cons (pe_op op_sub pe_int (pe_op op_mod (pe_op op_fdiv (pv 1) pe_int) pe_int)) (pa_cons (pe_op op_sub (pe_op op_mul (pe_op op_fdiv (pv 1) pe_int) (pe_op op_pow pe_int pe_int)) (pe_op op_pow pe_int pe_int)) pa_nil)))))
      (pss_one (ps_ret (pe_ix ix_list (pe_op op_cat (pv 2) (pe_lst (pa_cons (pe_op op_sub (pe_op op_pow pe_int pe_int) (pe_op op_fdiv (pv 1) pe_int)) pa_nil))) (pe_op op_mod (pv 1) pe_int) (fun _ _ => rfl))))), ?_⟩
    refine ⟨_, rfl, l, n, rfl, d, hn, fun v H1 v0 v1 b1 d1 => ?_⟩
    refine ⟨_, rfl, _, _, rfl, rfl, ⟨by decide, by decide⟩, _, _, rfl, rfl, md, _, rfl, _, _, rfl, rfl, ⟨by decide, by decide⟩, _, _, rfl, rfl, md, _, _, rfl, rfl, _, rfl, _, _, rfl, rfl, ⟨by decide, by decide⟩, _, _, rfl, rfl, ⟨by decide, by decide, by decide⟩, _, _, rfl, rfl, .inl ⟨by omega, by omega⟩, _, _, rfl, rfl, ⟨by decide, by decide, by decide⟩, _, _, rfl, rfl, (by show 3 ≤ sizeLine; decide), fun p hp => ?_⟩
    refine ⟨_, rfl, _, _, rfl, rfl, ⟨by decide, by decide, by decide⟩, _, rfl, _, _, rfl, rfl, ⟨by decide, by decide⟩, _, _, rfl, rfl, (by show 1 ≤ sizeLine; decide), fun p2 hp2 => ?_⟩
    have nep : p ≠ p2 := ne_of_none upd_same hp2
    refine ⟨p, p2, _, _, rfl, rfl, (by rw [upd_ne nep]; exact upd_same), upd_same, (by show 4 ≤ sizeLine; decide), fun p3 hp3 => ?_⟩
    have h1 := Int.emod_nonneg v (show (4 : Int) ≠ 0 by decide)
    have h2 := Int.emod_lt_of_pos v (show (0 : Int) < 4 by decide)
    have a1 := Int.emod_nonneg (v / 4) (show (800 : Int) ≠ 0 by decide)
    have a2 := Int.emod_lt_of_pos (v / 4) (show (0 : Int) < 800 by decide)
    obtain ⟨x, hx, x', rfl, zx⟩ := pick (P := fun x => ∃ i : Int, x = V.int i ∧ Sz 64 i) (xs := [.int (v / 4 % 800), .int (0 - v / 4 % 800), .int (v / 4 * 10 ^ (9 : Int).toNat - 10 ^ (17 : Int).toNat), .int (10 ^ (19 : Int).toNat - v / 4)]) h1 h2 (by
      have e9 : (10 : Int) ^ (9 : Int).toNat = 1000000000 := by decide
      have e17 : (10 : Int) ^ (17 : Int).toNat = 100000000000000000 := by decide
      have e19 : (10 : Int) ^ (19 : Int).toNat = 10000000000000000000 := by decide
      have e64 : (2 : Int) ^ 64 = 18446744073709551616 := by decide
      intro x hx
      rcases List.mem_cons.mp hx with rfl | hx
      · exact ⟨_, rfl, Sz.of (by omega) (by omega)⟩
      rcases List.mem_cons.mp hx with rfl | hx
      · exact ⟨_, rfl, Sz.of (by omega) (by omega)⟩
      rcases List.mem_cons.mp hx with rfl | hx
      · exact ⟨_, rfl, Sz.of (by rw [e9, e17, e64]; omega) (by rw [e9, e17, e64]; omega)⟩
      rcases List.mem_cons.mp hx with rfl | hx
      · exact ⟨_, rfl, Sz.of (by rw [e19, e64]; omega) (by rw [e19, e64]; omega)⟩
      · cases hx)
    refine ⟨_, rfl, _, _, rfl, rfl, md, p3, _, _, _, rfl, rfl, SqL.of upd_same, hx, ?_⟩
    exact q x' _ zx (((b1.upd hp).upd hp2).upd hp3) (((d1.new hp).new hp2).new hp3)
end
/-! ### the law's numbers -/
def puL (v : Int) : List Int := ([v / 8 % 4, v / 32 % 4, v / 128 % 4] ++ [v / 512 % 4, v / 2048 % 4, 0]).take (2 + v % 5).toNat
theorem puL_ne {v : Int} (h : 0 ≤ v) : puL v ≠ [] := by
  intro e
  have : (puL v).length = 0 := by rw [e]; rfl
  unfold puL at this
  rw [List.length_take] at this
  have h5 := Int.emod_nonneg v (show (5 : Int) ≠ 0 by decide)
  have e6 : ([v / 8 % 4, v / 32 % 4, v / 128 % 4] ++ [v / 512 % 4, v / 2048 % 4, 0]).length = 6 := rfl
  rw [e6] at this
  omega
def spPu46 : Sp := fun vs H Q _ => ∃ v : Int, vs = [.int v] ∧ 0 ≤ v ∧ ∀ p H', Same H H' → H p = none → H' p = some (.lst ((puL v).map V.int)) → Q (.ref p) H'
theorem cutI_lo (ys : List Int) (i : Nat) : cutV (ys.map V.int) none (some ((i : Nat) : Int)) = (ys.take i).map V.int := by
  have e1 : HT.sIx ys.length 0 none = 0 := rfl
  have e2 : HT.sIx ys.length ys.length (some ((i : Nat) : Int)) = min i ys.length := HT.sIx_nat _ _ i
  unfold cutV
  rw [List.length_map, e1, e2, List.drop_zero, Nat.sub_zero, List.map_take]
  by_cases h : i ≤ ys.length
  · rw [Nat.min_eq_left h]
  · rw [Nat.min_eq_right (by omega), List.take_of_length_le (by rw [List.length_map]; omega), List.take_of_length_le (by rw [List.length_map]; omega)]
section
variable {P : Program} {w : World} {K : PySem.W.Frag} {mg : Str → Option Value} {base : Heap}
theorem ok_pu46 (D : Df K mg "_law_putting" s_l_putting []) : Ca P w K mg base CX0 1 "_law_putting" s_l_putting [] ["_law_number"] spPu46 := by
  refine ca0 (k := 0) D c_l_putting (fun vs H Q E h => ?_) fun f cdv A outer s H vs Q E hr h => ?_
  · obtain ⟨v, rfl, _⟩ := h
    rfl
  · obtain ⟨v, rfl, hv, q⟩ := h
    refine ⟨_, (pss_cons (ps_set (i := 1) c_l_putting.nd rfl (.inl rfl) (pe_op op_add pe_int (pe_op op_mod (pv 0) pe_int)))
      (pss_cons (ps_set (i := 2) c_l_putting.nd rfl (.inl rfl) (pe_lst (pa_cons (pe_op op_mod (pe_op op_fdiv (pv 0) pe_int) pe_int) (pa_cons (pe_op op_mod (pe_op op_fdiv (pv 0) pe_int) pe_int) (pa_cons (pe_op op_mod (pe_op op_fdiv (pv 0) pe_int) pe_int) pa_nil)))))
      (pss_one (ps_ret (pe_slice sl_list (pe_op op_cat (pv 2) (pe_lst (pa_cons (pe_op op_mod (pe_op op_fdiv (pv 0) pe_int) pe_int) (pa_cons (pe_op op_mod (pe_op op_fdiv (pv 0) pe_int) pe_int) (pa_cons pe_int pa_nil))))) po_none (po_some (pv 1))))))), ?_⟩
    repeat (first | refine ⟨_, rfl, ?_⟩ | refine ⟨_, _, rfl, rfl, md, ?_⟩ | refine ⟨_, _, rfl, rfl, ⟨by decide, by decide⟩, ?_⟩ | refine ⟨_, _, rfl, rfl, ⟨by decide, by decide, by decide⟩, ?_⟩ | refine ⟨_, _, rfl, rfl, .inr ⟨by decide, by decide⟩, ?_⟩ | refine ⟨_, _, rfl, rfl, ?_⟩)
    refine ⟨(by show 3 ≤ sizeLine; decide), fun p np => ?_⟩
    repeat (first | refine ⟨_, rfl, ?_⟩ | refine ⟨_, _, rfl, rfl, md, ?_⟩ | refine ⟨_, _, rfl, rfl, ⟨by decide, by decide⟩, ?_⟩ | refine ⟨_, _, rfl, rfl, ⟨by decide, by decide, by decide⟩, ?_⟩ | refine ⟨_, _, rfl, rfl, .inr ⟨by decide, by decide⟩, ?_⟩ | refine ⟨_, _, rfl, rfl, ?_⟩)
    have s1 := Same.new (o := .lst [.int (v / 8 % 4), .int (v / 32 % 4), .int (v / 128 % 4)]) np
    refine ⟨(by show 3 ≤ sizeLine; decide), fun p2 np2 => ?_⟩
    have s2 := s1.trans (Same.new (o := .lst [.int (v / 512 % 4), .int (v / 2048 % 4), .int 0]) np2)
    refine ⟨p, p2, _, _, rfl, rfl, Same.new np2 _ _ upd_same, upd_same, (by show 6 ≤ sizeLine; decide), fun p3 np3 => ?_⟩
    have s3 := s2.trans (Same.new (o := .lst ([.int (v / 8 % 4), .int (v / 32 % 4), .int (v / 128 % 4)] ++ [.int (v / 512 % 4), .int (v / 2048 % 4), .int 0])) np3)
    have e3 := upd_same (H := L2.upd (L2.upd H p (.lst [.int (v / 8 % 4), .int (v / 32 % 4), .int (v / 128 % 4)])) p2 (.lst [.int (v / 512 % 4), .int (v / 2048 % 4), .int 0])) (a := p3) (o := .lst ([.int (v / 8 % 4), .int (v / 32 % 4), .int (v / 128 % 4)] ++ [.int (v / 512 % 4), .int (v / 2048 % 4), .int 0]))
    generalize L2.upd (L2.upd (L2.upd H p _) p2 _) p3 _ = H3 at *
    dsimp only [tNoPart]
    refine ⟨_, rfl, _, rfl, p3, _, rfl, SqL.of e3, fun p4 np4 => ?_⟩
    have h5 := Int.emod_nonneg v (show (5 : Int) ≠ 0 by decide)
    have en : (2 : Int) + v % 5 = (((2 + v % 5).toNat : Nat) : Int) := by omega
    refine q p4 _ (s3.trans (Same.new np4)) (s3.free np4) ?_
    rw [upd_same]
    show some (HO.lst (cutV (([v / 8 % 4, v / 32 % 4, v / 128 % 4] ++ [v / 512 % 4, v / 2048 % 4, 0] : List Int).map V.int) none (some (2 + v % 5)))) = _
    rw [en, cutI_lo]
    rfl
end
/-! ### the lists of numbers drawn -/
theorem ne_of_none' {H : Hp} {l p : Addr} {n : Nat} (d : Dr H l n) (e : H p = none) : p ≠ l := by
  obtain ⟨_, _, _, h, _⟩ := d
  exact (ne_of_none h e).symm
theorem But.putN {l p : Addr} {H H1 : Hp} {o : HO} (a : But l H H1) (h : H p = none) : But l H (L2.upd H1 p o) := fun c u hc e => by
  rw [upd_ne (ne_of_none e h)]
  exact a c u hc e
theorem Dr.put {H : Hp} {l p : Addr} {n : Nat} {o : HO} (d : Dr H l n) (h : p ≠ l) : Dr (L2.upd H p o) l n := by
  obtain ⟨a, k, f, e, z⟩ := d
  exact ⟨a, k, f, by rw [upd_ne (fun z => h z.symm)]; exact e, z⟩
/-- lists of numbers, each by itself -/
def Nus (H : Hp) (l p : Addr) (ls : List Addr) (nss : List (List Int)) : Prop := ls.length = nss.length ∧ ∀ (j : Nat) ln ns, ls[j]? = some ln → nss[j]? = some ns → H ln = some (.lst (ns.map V.int)) ∧ ns ≠ [] ∧ ln ≠ l ∧ ln ≠ p
theorem puL_rg {v x : Int} (h : x ∈ puL v) : 0 ≤ x ∧ x ≤ 3 := by
  have h := List.mem_of_mem_take h
  simp only [List.cons_append, List.nil_append, List.mem_cons, List.not_mem_nil, or_false] at h
  rcases h with rfl | rfl | rfl | rfl | rfl | rfl <;> omega
def spNus46 : Sp := fun vs H Q _ => ∃ (l : Addr) (n : Nat), vs = [.ref l] ∧ Dr H l n ∧ n ≤ 1000 ∧ ∀ p ls nss H', But l H H' → Dr H' l (n + 5) → H p = none → H' p = some (.lst (ls.map V.ref)) → Nus H' l p ls nss → nss.length ≤ 3 → (∀ ns ∈ nss, ∀ x ∈ ns, 0 ≤ x ∧ x ≤ 3) → Q (.ref p) H'
abbrev TE_l_numbers1 : TE := tCall spPu46 [] E0 (tCons (tCall spNext [] E0 (tCons (tVar 0) tNil)) tNil)
section
variable {P : Program} {w : World} {K : PySem.W.Frag} {mg : Str → Option Value} {base : Heap}
theorem ok_nus46 (D : Df K mg "_law_numbers" s_l_numbers []) (f_l_next : Ca P w K mg base CX0 1 "_law_next" s_l_next [] ["_law_draws_here"] spNext) (g_range : mg "range" = none) (f_l_putting : Ca P w K mg base CX0 1 "_law_putting" s_l_putting [] ["_law_number"] spPu46) : Ca P w K mg base CX0 2 "_law_numbers" s_l_numbers [] ["_law_draws_here"] spNus46 := by
  refine ca0 (k := 1) D c_l_numbers (fun vs H Q E h => ?_) fun f cdv A outer s H vs Q E hr h => ?_
  · obtain ⟨l, n, rfl, _⟩ := h
    rfl
  · obtain ⟨l, n, rfl, d, hn, q⟩ := h
    refine ⟨_, (pss_one (ps_ret (pe_lc (own := [("_law_k", 1)]) (g := gName 1) (tt := tYes) (te := TE_l_numbers1 ) rfl c_l_numbers.nd (pi_range1 rfl g_range (pa_cons (pe_op op_mod (pe_ca f_l_next b_l_next hr (by decide) pass0 rfl (pa_cons (pv 0) pa_nil)) pe_int) pa_nil)) (blkOk_by (N := ["_law_draws_here", "_law_k"]) (sc := defScope s_l_numbers) (by decide +kernel)) (fun _ _ _ _ _ => (pg_name (i := 1) c_l_numbers.nd rfl (.inl rfl))) (fun _ _ _ _ _ => by exact pts_nil) (fun _ _ _ _ _ => by exact (pe_ca f_l_putting b_l_putting hr (by decide) pass0 rfl (pa_cons (pe_ca f_l_next b_l_next hr (by decide) pass0 rfl (pa_cons (pv 0) pa_nil)) pa_nil)))))), ?_⟩
    refine ⟨_, rfl, l, n, rfl, d, by omega, fun v H1 v0 v1 b1 d1 => ?_⟩
    have m0 := Int.emod_nonneg v (show (4 : Int) ≠ 0 by decide)
    have m1 := Int.emod_lt_of_pos v (show (0 : Int) < 4 by decide)
    refine ⟨_, _, rfl, rfl, md, _, rfl, by omega, by omega, fun D0 nD => ?_⟩
    have nDl := ne_of_none' d1 nD
    have nDH : H D0 = none := by
      cases h : H D0 with
      | none => rfl
      | some o => exact absurd (b1 D0 o nDl h) (by rw [nD]; simp)
    obtain ⟨m, hm⟩ : ∃ m : Nat, (v % 4).toNat = m := ⟨_, rfl⟩
    rw [hm]
    refine lc_it (walk_range (lo := 0) (n := m)) (fun i Hx => ∃ (ls : List Addr) (nss : List (List Int)), Hx D0 = some (.lst (ls.map V.ref)) ∧ ls.length = i ∧ But l H Hx ∧ Dr Hx l (n + 1 + i) ∧ Nus Hx l D0 ls nss ∧ (∀ ns ∈ nss, ∀ x ∈ ns, 0 ≤ x ∧ x ≤ 3)) ⟨[], [], upd_same, rfl, b1.upd nD, (d1.new nD).mono (by omega), ⟨rfl, fun j ln ns h => by simp at h⟩, fun ns h => by cases h⟩ (fun i Hx _ _ => trivial) ?_ ?_
    · rintro i x Ha Hb hi ⟨ls, nss, ea, la, ba, da, nu, rg⟩ ⟨rfl, rfl⟩
      refine ⟨rfl, ?_⟩
      refine ⟨_, rfl, l, _, rfl, da, by omega, fun u Hc u0 u1 bc dc => ?_⟩
      have ec := bc _ _ nDl ea
      refine ⟨u, rfl, u0, fun p Hd sd np ep => ?_⟩
      have ed := sd _ _ ec
      have pl := ne_of_none' dc np
      have pD : p ≠ D0 := (ne_of_none ec np).symm
      refine ⟨_, ed, ?_, ls ++ [p], nss ++ [puL u], ?_, by rw [List.length_append, la]; rfl, ((ba.trans bc).trans (But.same sd)).putN nDH, ((dc.same sd (Nat.le_refl _)).put nDl).mono (by omega), ⟨?_, ?_⟩, fun ns hns => ?_⟩
      · rw [List.length_map, la]
        exact Nat.lt_of_lt_of_le (show i < 10 by omega) (by decide)
      · rw [upd_same, List.map_append]
        rfl
      · rw [List.length_append, List.length_append, nu.1]
        rfl
      · intro j ln ns hj hns
        by_cases hl : j < ls.length
        · rw [List.getElem?_append_left hl] at hj
          rw [List.getElem?_append_left (by rw [← nu.1]; exact hl)] at hns
          obtain ⟨e1, e2, e3, e4⟩ := nu.2 j ln ns hj hns
          refine ⟨?_, e2, e3, e4⟩
          rw [upd_ne e4]
          exact sd _ _ (bc _ _ e3 e1)
        · have ej : j = ls.length := by
            have := (List.getElem?_eq_some_iff.mp hj).1
            rw [List.length_append, List.length_cons, List.length_nil] at this
            omega
          subst ej
          rw [List.getElem?_append_right (Nat.le_refl _), Nat.sub_self] at hj
          rw [nu.1, List.getElem?_append_right (Nat.le_refl _), Nat.sub_self] at hns
          cases hj
          cases hns
          refine ⟨?_, puL_ne u0, pl, pD⟩
          rw [upd_ne pD]
          exact ep
      · rcases List.mem_append.mp hns with h | h
        · exact rg ns h
        · rw [List.mem_singleton.mp h]
          exact fun x hx => puL_rg hx
    · rintro Hx ⟨ls, nss, ex, lx, bx, dx, nu, rg⟩
      exact q D0 ls nss Hx bx (dx.mono (by omega)) nDH ex nu (by have := nu.1; omega) rg
end
/-! ### the law's rules: a lambda, and a def -/
def lamE : Expr := match defBody s_l_rule with
  | [.Return (some (.Lambda _ e _ _)) _] => e
  | _ => .Constant .none 0 ⟨0, 0, 0, 0⟩
def lamA : Arguments := match defBody s_l_rule with
  | [.Return (some (.Lambda a _ _ _)) _] => a
  | _ => defArgs s_l_rule
def lamSc : Scope := match defBody s_l_rule with
  | [.Return (some (.Lambda _ _ s _)) _] => s
  | _ => defScope s_l_rule
/-- by the rest of the day -/
def puN (ns : List Int) (d : Int) : Int := ns.getD (d % (ns.length : Int)).toNat 0
def spLam47 (v0 : V) : Sp := fun vs H Q _ => ∃ (ln : Addr) (ns : List Int) (d : Int), v0 = .ref ln ∧ vs = [.int d] ∧ H ln = some (.lst (ns.map V.int)) ∧ ns ≠ [] ∧ Q (.int (puN ns d)) H
theorem lamSc_ok : NdefX.NScope ["_law_a_day", "_law_numbers_here"] ["_law_a_day"] ["_law_numbers_here"] lamSc := NdefX.nscope_by (by decide +kernel)
section
variable {P : Program} {w : World} {K : PySem.W.Frag} {mg : Str → Option Value} {base : Heap} {cc c' : Addr}
theorem pu_at {ns : List Int} (h : ns ≠ []) (d : Int) : atI (ns.map V.int) (d % ((ns.map V.int).length : Int)) = some (.int (puN ns d)) := by
  have l0 : 0 < ns.length := List.length_pos_iff.mpr h
  rw [List.length_map]
  have h0 := Int.emod_nonneg d (show (ns.length : Int) ≠ 0 by omega)
  have h1 := Int.emod_lt_of_pos d (show (0 : Int) < (ns.length : Int) by omega)
  unfold puN
  rw [List.getD_eq_getElem?_getD]
  generalize hz : d % (ns.length : Int) = z at *
  unfold atI ixN
  rw [if_pos h0, if_pos (by rw [List.length_map]; omega)]
  show (ns.map V.int)[z.toNat]? = _
  rw [List.getElem?_map, List.getElem?_eq_getElem (by omega)]
  rfl
theorem ok_lam47 (g_len : mg "len" = none) : LOk P w K mg base CX0 2 (lmF (lamQ "_law_rule") lamA lamSc [("_law_numbers_here", cc)] c') lamE cc ["_law_a_day"] spLam47 := by
  refine lok_of (k := 1) (y := "_law_numbers_here") (N := ["_law_a_day", "_law_numbers_here"]) lamSc_ok rfl (fun pm ctv us hu => match us, hu with | [_], _ => rfl) fun f v0 A outer s H E vs Q hr hl h => ?_
  obtain ⟨ln, ns, d, rfl, rfl, hl, hn, q⟩ := h
  refine ⟨_, (pe_ix ix_list (pv 1) (pe_op op_mod (pv 0) (pe_callB call_len_seq rfl g_len (by decide +kernel) (pa_cons (pv 1) pa_nil))) (fun _ _ => rfl)), ?_⟩
  have l0 : 0 < ns.length := List.length_pos_iff.mpr hn
  refine ⟨_, rfl, _, rfl, _, rfl, ln, _, rfl, .inl (SqL.of hl), _, _, rfl, rfl, ?_, ln, _, _, .int (puN ns d), rfl, rfl, SqL.of hl, pu_at hn d, q⟩
  show (0 : Int) < ((ns.map V.int).length : Int)
  rw [List.length_map]
  omega
theorem ok_rule47 {c Pt : Addr} {T : List (Addr × Str)} (D : DfC K mg "_law_rule" s_l_rule c) (TB : LamX.TabB base mg c Pt) (hm : (Pt, lamQ "_law_rule") ∈ T) (hu : ∀ p ∈ T, p.1 = Pt → p.2 = lamQ "_law_rule") : Ca P w K mg base CX0 2 "_law_rule" s_l_rule [] ["_law_numbers_here"] (spMkL T "_law_rule" "_law_numbers_here" lamA lamE lamSc) := by
  obtain ⟨lpos, rpos, e⟩ : ∃ lpos rpos, defBody s_l_rule = [.Return (some (.Lambda lamA lamE lamSc lpos)) rpos] := ⟨_, _, rfl⟩
  exact ca_mkL (k := 1) D c_l_rule e (by decide +kernel) (fun _ => rfl) (by decide +kernel) (fun _ => rfl) TB hm hu
/-- a lambda of the law's, known, is a rule -/
theorem rl_lam (g_len : mg "len" = none) {H : Hp} {f cc c' ln : Addr} {ns : List Int} (hn : ns ≠ []) (hf : H f = some (LmO f (lmF (lamQ "_law_rule") lamA lamSc [("_law_numbers_here", cc)] c') lamE)) (hc : H c' = some (LamX.CodeO c' (lamQ "_law_rule"))) (hcc : H cc = some (CelO cc (.ref ln))) (hl : H ln = some (.lst (ns.map V.int))) :
    Rl P w K mg base 2 H f (puN ns) := fun H1 s1 d Q q => by
  have h1 := s1 _ _ hcc
  have nlc : ln ≠ cc := ne_of hl hcc (by intro z; unfold CelO at z; cases z)
  refine doe_lam (v0 := .ref ln) (ok_lam47 (P := P) (w := w) (K := K) (mg := mg) (base := base) (cc := cc) (c' := c') g_len) (s1 _ _ hf) (s1 _ _ hc) h1 rfl ⟨ln, ns, d, rfl, rfl, (del_ne nlc).trans (s1 _ _ hl), hn, ?_⟩
  have e : L2.upd (del H1 cc) cc (CelO cc (.ref ln)) = H1 := by
    funext b
    by_cases hb : b = cc
    · rw [hb, upd_same, h1]
    · rw [upd_ne hb, del_ne hb]
  show Q _ (L2.upd (del H1 cc) cc (CelO cc (.ref ln)))
  rw [e]
  exact q
end
/-! ### the other rule: a lambda with two captured names -/
def lamE2 : Expr := match defBody s_l_other_rule with
  | [_, .Return (some (.Lambda _ e _ _)) _] => e
  | _ => .Constant .none 0 ⟨0, 0, 0, 0⟩
def lamA2 : Arguments := match defBody s_l_other_rule with
  | [_, .Return (some (.Lambda a _ _ _)) _] => a
  | _ => defArgs s_l_other_rule
def lamS2 : Scope := match defBody s_l_other_rule with
  | [_, .Return (some (.Lambda _ _ s _)) _] => s
  | _ => defScope s_l_other_rule
def spLam2 (v1 v2 : V) : Sp := fun vs H Q _ => ∃ (ln : Addr) (ns : List Int) (d : Int), v2 = .int ((ns.map V.int).length : Nat) ∧ v1 = .ref ln ∧ vs = [.int d] ∧ H ln = some (.lst (ns.map V.int)) ∧ ns ≠ [] ∧ Q (.int (puN ns d)) H
theorem lamS2_ok : NdefX.NScope ["_law_a_day", "_law_numbers_here", "_law_many"] ["_law_a_day"] ["_law_numbers_here", "_law_many"] lamS2 := NdefX.nscope_by (by decide +kernel)
def preN (v0 v1 : V) (H : Hp) : Prop := ∃ (ln : Addr) (ns : List Int), v0 = .ref ln ∧ H ln = some (.lst (ns.map V.int)) ∧ v1 = .int ((ns.map V.int).length : Nat)
section
variable {P : Program} {w : World} {K : PySem.W.Frag} {mg : Str → Option Value} {base : Heap} {c1 c2 c' : Addr}
theorem ok_lam2 (n12 : c1 ≠ c2) : LOk2 P w K mg base CX0 2 (lmF (lamQ "_law_other_rule") lamA2 lamS2 [("_law_numbers_here", c1), ("_law_many", c2)] c') lamE2 c1 c2 ["_law_a_day"] spLam2 := by
  refine lok2_of (k := 1) (y1 := "_law_numbers_here") (y2 := "_law_many") (N := ["_law_a_day", "_law_numbers_here", "_law_many"]) lamS2_ok rfl (by decide) n12 (fun pm ctv us hu => match us, hu with | [_], _ => rfl) fun f v1 v2 A outer s H E vs Q hr hl h => ?_
  obtain ⟨ln, ns, d, rfl, rfl, rfl, hl, hn, q⟩ := h
  refine ⟨_, (pe_ix ix_list (pv 1) (pe_op op_mod (pe_op op_add (pv 0) (pe_op op_mul pe_int (pv 2))) (pv 2)) (fun _ _ => rfl)), ?_⟩
  have l0 : 0 < ns.length := List.length_pos_iff.mpr hn
  have e := pu_at hn d
  rw [List.length_map] at e
  refine ⟨_, rfl, _, rfl, _, rfl, _, _, rfl, rfl, .inl ⟨by decide, by decide⟩, _, _, rfl, rfl, _, rfl, _, _, rfl, rfl, ?_, ln, _, _, .int (puN ns d), rfl, rfl, SqL.of hl, ?_, q⟩
  · show (0 : Int) < (((ns.map V.int).length : Nat) : Int)
    rw [List.length_map]
    omega
  · show atI (ns.map V.int) ((d + 60 * (((ns.map V.int).length : Nat) : Int)) % (((ns.map V.int).length : Nat) : Int)) = _
    rw [List.length_map, Int.add_mul_emod_self_right]
    exact e
theorem ok_rule2 {c Pt : Addr} {T : List (Addr × Str)} (D : DfC K mg "_law_other_rule" s_l_other_rule c) (g_len : mg "len" = none) (TB : LamX.TabB base mg c Pt) (hm : (Pt, lamQ "_law_other_rule") ∈ T) (hu : ∀ p ∈ T, p.1 = Pt → p.2 = lamQ "_law_other_rule") :
    Ca P w K mg base CX0 2 "_law_other_rule" s_l_other_rule [] ["_law_numbers_here"] (spMkL2 T "_law_other_rule" "_law_numbers_here" "_law_many" lamA2 lamE2 lamS2 preN false) := by
  obtain ⟨s1, lpos, rpos, e⟩ : ∃ s1 lpos rpos, defBody s_l_other_rule = [s1, .Return (some (.Lambda lamA2 lamE2 lamS2 lpos)) rpos] := ⟨_, _, _, rfl⟩
  refine ca_mkL2 (k := 1) (ya := "_law_numbers_here") (yb := "_law_many") (sw := false) D c_l_other_rule e (by decide +kernel) (by decide +kernel) (by decide) ⟨rfl, rfl⟩ (fun _ => rfl) (by decide +kernel) (fun _ => rfl) TB hm hu fun f A outer s H E hr => ?_
  cases e
  refine ⟨_, ps_set (i := 1) c_l_other_rule.nd rfl (.inr rfl) (pe_callB call_len_seq rfl g_len (by decide +kernel) (pa_cons (pv 0) pa_nil)), ?_⟩
  rintro v0 v1 H1 D ⟨ln, ns, rfl, hl, rfl⟩ q
  exact ⟨_, rfl, ln, _, rfl, .inl (SqL.of hl), q⟩
/-- it is a rule -/
theorem rl_lam2 {H : Hp} {f ln : Addr} {ns : List Int} (n12 : c1 ≠ c2) (hn : ns ≠ []) (hf : H f = some (LmO f (lmF (lamQ "_law_other_rule") lamA2 lamS2 [("_law_numbers_here", c1), ("_law_many", c2)] c') lamE2)) (hc : H c' = some (LamX.CodeO c' (lamQ "_law_other_rule"))) (h2 : H c2 = some (CelO c2 (.int ((ns.map V.int).length : Nat)))) (h1 : H c1 = some (CelO c1 (.ref ln))) (hl : H ln = some (.lst (ns.map V.int))) :
    Rl P w K mg base 2 H f (puN ns) := fun H1 s1 d Q q => by
  have e1 := s1 _ _ h1
  have e2 := s1 _ _ h2
  have nl1 : ln ≠ c1 := ne_of hl h1 (by intro z; unfold CelO at z; cases z)
  have nl2 : ln ≠ c2 := ne_of hl h2 (by intro z; unfold CelO at z; cases z)
  refine doe_lam2 (v2 := .int ((ns.map V.int).length : Nat)) (v1 := .ref ln) (ok_lam2 (P := P) (w := w) (K := K) (mg := mg) (base := base) (c' := c') n12) (s1 _ _ hf) (s1 _ _ hc) e1 e2 rfl ⟨ln, ns, d, rfl, rfl, rfl, (del_ne nl2).trans ((del_ne nl1).trans (s1 _ _ hl)), hn, ?_⟩
  have e : L2.upd (L2.upd (del (del H1 c1) c2) c2 (CelO c2 (.int ((ns.map V.int).length : Nat)))) c1 (CelO c1 (.ref ln)) = H1 := by
    funext b
    by_cases hb : b = c1
    · rw [hb, upd_same, e1]
    · rw [upd_ne hb]
      by_cases hb2 : b = c2
      · rw [hb2, upd_same, e2]
      · rw [upd_ne hb2, del_ne hb2, del_ne hb]
  show Q _ (L2.upd (L2.upd (del (del H1 c1) c2) c2 (CelO c2 (.int ((ns.map V.int).length : Nat)))) c1 (CelO c1 (.ref ln)))
  rw [e]
  exact q
end
/-! ### the months of a year -/
/-- the month with a mark -/
def mwF (m y o k : Rat) (j : Int) : Int := maF m o (mdF y k j)
theorem mw_in {m y o k : Rat} (f : Fit m y) (j : Int) : stF m o (mwF m y o k j) ≤ mdF y k j ∧ mdF y k j < stF m o (mwF m y o k j + 1) := ⟨st_ma f.pos _, ma_st f.pos _⟩
theorem mw_step {m y o k : Rat} (f : Fit m y) (j : Int) : mwF m y o k j + 1 ≤ mwF m y o k (j + 1) := by
  have h1 := mw_in (o := o) (k := k) f j
  have h2 := mw_in (o := o) (k := k) f (j + 1)
  have h3 : mdF y k j ≤ mdF y k (j + 1) := md_mono f.ypos (by omega)
  have h4 : mwF m y o k j ≤ mwF m y o k (j + 1) := (st_le f.pos).mp (Int.le_trans h1.1 h3)
  rcases Int.lt_or_eq_of_le h4 with h | h
  · omega
  · rw [← h] at h2
    have a := one_mark f h1.1 h1.2
    have b := one_mark f h2.1 h2.2
    omega
theorem mw_add {m y o k : Rat} (f : Fit m y) (j : Int) : ∀ t : Nat, mwF m y o k j + t ≤ mwF m y o k (j + t)
  | 0 => by rw [show j + ((0 : Nat) : Int) = j by omega]; omega
  | t + 1 => by
    have h1 := mw_add (o := o) (k := k) f j t
    have h2 := mw_step (o := o) (k := k) f (j + t)
    rw [show j + ((t + 1 : Nat) : Int) = j + t + 1 by omega]
    omega
theorem mw_lt {m y o k : Rat} (f : Fit m y) {i j : Int} (h : i < j) : mwF m y o k i < mwF m y o k j := by
  obtain ⟨t, rfl⟩ : ∃ t : Nat, j = i + t := ⟨(j - i).toNat, by omega⟩
  have := mw_add (o := o) (k := k) f i t
  omega
theorem mw_most {m y o k : Rat} (f : Fit m y) (j : Int) : mwF m y o k (j + 12) ≤ mwF m y o k j + 13 := by
  have h1 := mw_in (o := o) (k := k) f j
  have h2 := mw_in (o := o) (k := k) f (j + 12)
  generalize mwF m y o k j = M at *
  apply Int.not_lt.mp
  intro hlt
  have h3 : stF m o (M + 14) ≤ mdF y k (j + 12) := Int.le_trans ((st_le f.pos).mpr (by rw [show mwF m y o k (j + 12) = maF m o (mdF y k (j + 12)) from rfl] at hlt; rw [show maF m o (mdF y k (j + 12)) = maF m o (mdF y k (j + 12)) from rfl]; omega)) (Int.le_refl _)
  have f13 := f.thirteen
  have a1 : k + (j : Rat) * (y / 12) < ((stF m o (M + 1) : Int) : Rat) := by
    have := (floor_le_iff (q := k + (j : Rat) * (y / 12)) (i := stF m o (M + 1) - 1)).mp (by have : mdF y k j < stF m o (M + 1) := h1.2; unfold mdF at this; omega)
    rw [show stF m o (M + 1) - 1 + 1 = stF m o (M + 1) by omega] at this
    exact this
  have a2 : ((stF m o (M + 1) : Int) : Rat) ≤ o + ((M + 1 : Int) : Rat) * m := int_le_floor.mp (Int.le_refl _)
  have a3 : ((stF m o (M + 14) : Int) : Rat) ≤ k + ((j + 12 : Int) : Rat) * (y / 12) := int_le_floor.mp h3
  have a4 : o + ((M + 14 : Int) : Rat) * m < ((stF m o (M + 14) + 1 : Int) : Rat) := floor_le_iff.mp (Int.le_refl _)
  have c1 : ((M + 1 : Int) : Rat) = (M : Rat) + 1 := cast_add1 M
  have c14 : ((M + 14 : Int) : Rat) = (M : Rat) + 14 := by rw [Rat.intCast_add]; rfl
  have c12 : ((j + 12 : Int) : Rat) = (j : Rat) + 12 := by rw [Rat.intCast_add]; rfl
  rw [cast_add1] at a4
  rw [c1] at a2
  rw [c14] at a4
  rw [c12] at a3
  generalize ((stF m o (M + 1) : Int) : Rat) = S1 at *
  generalize ((stF m o (M + 14) : Int) : Rat) = S2 at *
  generalize (M : Rat) = Mq at *
  generalize (j : Rat) = jq at *
  grind
/-- a month with a mark, and one without -/
theorem nm_with {m y o k : Rat} (f : Fit m y) {i j : Int} (h : mwF m y o k j = i) : nmJ m y o k i = j ∧ nmO m y o k i = false := by
  have h1 := mw_in (o := o) (k := k) f j
  rw [h] at h1
  have e := one_mark f h1.1 h1.2
  have h2 : mdF y k (jF y k (stF m o i)) < stF m o (i + 1) := by rw [e]; exact h1.2
  unfold nmJ nmO
  rw [if_pos h2, e, decide_eq_true (by rw [← e]; exact h2)]
  exact ⟨rfl, rfl⟩
theorem nm_without {m y o k : Rat} (f : Fit m y) {i : Int} (h : ∀ j, mwF m y o k j ≠ i) : nmO m y o k i = true ∧ nmJ m y o k i = nmJ m y o k (i - 1) := by
  by_cases c : mdF y k (jF y k (stF m o i)) < stF m o (i + 1)
  · exact absurd (ma_of f.pos (md_ge f.ypos _) c) (h _)
  · obtain ⟨_, _, h3, _, h5⟩ := nm_odd f c
    exact ⟨h3, h5.symm⟩
/-! ### the year that has a day -/
theorem st_up {m o : Rat} (h1 : 1 ≤ m) (i : Int) : ∀ n : Nat, stF m o i + (n : Int) ≤ stF m o (i + (n : Int))
  | 0 => by
    rw [show i + ((0 : Nat) : Int) = i by omega]
    omega
  | n + 1 => by
    have a := st_up (o := o) h1 i n
    have b := st_step (o := o) h1 (i + (n : Int))
    rw [show i + ((n + 1 : Nat) : Int) = i + (n : Int) + 1 by omega]
    omega
theorem st_upI {m o : Rat} (h1 : 1 ≤ m) {i j : Int} (h : i ≤ j) : stF m o i + (j - i) ≤ stF m o j := by
  have := st_up (o := o) h1 i (j - i).toNat
  rw [show i + (((j - i).toNat : Nat) : Int) = j by omega] at this
  omega
/-- a year has twelve days at least -/
theorem fd_up {m y o k : Rat} (f : Fit m y) (a : Int) : fdF m y o k a + 12 ≤ fdF m y o k (a + 1) := by
  have h2 := mw_add (o := o) (k := k) f (12 * a) 12
  have e1 : fdF m y o k a = stF m o (mwF m y o k (12 * a)) := rfl
  have e2 : fdF m y o k (a + 1) = stF m o (mwF m y o k (12 * a + 12)) := by
    show stF m o (mwF m y o k (12 * (a + 1))) = _
    rw [show 12 * (a + 1) = 12 * a + 12 by omega]
  have h2 : mwF m y o k (12 * a) + 12 ≤ mwF m y o k (12 * a + 12) := h2
  rw [e1, e2]
  have := st_upI (o := o) f.one (i := mwF m y o k (12 * a)) (j := mwF m y o k (12 * a + 12)) (by omega)
  omega
/-- it begins on or ahead of its days, and the next one behind them -/
theorem yw_in {m y o k : Rat} (f : Fit m y) (d : Int) : fdF m y o k (dtY m y o k d) ≤ d ∧ d < fdF m y o k (dtY m y o k d + 1) := by
  have h1 := st_ma (o := o) f.pos d
  have h2 := ma_st (o := o) f.pos d
  have e1 : fdF m y o k (dtY m y o k d) = stF m o (mwF m y o k (12 * dtY m y o k d)) := rfl
  have e2 : fdF m y o k (dtY m y o k d + 1) = stF m o (mwF m y o k (12 * (dtY m y o k d) + 12)) := by
    show stF m o (mwF m y o k (12 * (dtY m y o k d + 1))) = _
    rw [show 12 * (dtY m y o k d + 1) = 12 * dtY m y o k d + 12 by omega]
  rw [e1, e2]
  have ey : dtY m y o k d = nmJ m y o k (maF m o d) / 12 := rfl
  rw [ey]
  generalize maF m o d = i at *
  have two : mwF m y o k (12 * (nmJ m y o k i / 12)) ≤ i ∧ i + 1 ≤ mwF m y o k (12 * (nmJ m y o k i / 12) + 12) := by
    by_cases c : ∃ j, mwF m y o k j = i
    · obtain ⟨j, hj⟩ := c
      rw [(nm_with f hj).1]
      have a1 := Int.emod_nonneg j (show (12 : Int) ≠ 0 by decide)
      have a2 := Int.emod_lt_of_pos j (show (0 : Int) < 12 by decide)
      have b1 : mwF m y o k (12 * (j / 12)) ≤ mwF m y o k j := by
        rcases Int.lt_or_eq_of_le (show 12 * (j / 12) ≤ j by omega) with h | h
        · exact Int.le_of_lt (mw_lt f h)
        · rw [h]
          exact Int.le_refl _
      have b2 := mw_lt (o := o) (k := k) f (show j < 12 * (j / 12) + 12 by omega)
      omega
    · have no : ∀ j, mwF m y o k j ≠ i := fun j hj => c ⟨j, hj⟩
      have e := (nm_without f no).2
      -- the month ahead has a mark
      have hm : ¬ mdF y k (jF y k (stF m o i)) < stF m o (i + 1) := fun z => no _ (ma_of f.pos (md_ge f.ypos _) z)
      have ah := mi_ahead (o := o) (k := k) f i hm
      have hj : mwF m y o k (jF y k (stF m o (i - 1))) = i - 1 := ma_of f.pos (md_ge f.ypos _) (by rw [show i - 1 + 1 = i by omega]; exact ah)
      rw [e, (nm_with f hj).1]
      generalize jF y k (stF m o (i - 1)) = j at *
      have b1 : mwF m y o k (12 * (j / 12)) ≤ mwF m y o k j := by
        rcases Int.lt_or_eq_of_le (show 12 * (j / 12) ≤ j by omega) with h | h
        · exact Int.le_of_lt (mw_lt f h)
        · rw [h]
          exact Int.le_refl _
      have b2 := mw_lt (o := o) (k := k) f (show j < 12 * (j / 12) + 12 by omega)
      have b3 := no (12 * (j / 12) + 12)
      omega
  have u1 := st_upI (o := o) f.one two.1
  have u2 := st_upI (o := o) f.one two.2
  have := two.1
  have := two.2
  omega
/-- the first day of a year, as its date tells -/
theorem dt_first {m y o k : Rat} (f : Fit m y) (a : Int) : dtY m y o k (fdF m y o k a) = a ∧ dtN m y o k (fdF m y o k a) = 1 ∧ dtD m o (fdF m y o k a) = 1 ∧ dtO m y o k (fdF m y o k a) = false := by
  have e : maF m o (fdF m y o k a) = mwF m y o k (12 * a) := ma_st' f.one _
  obtain ⟨h1, h2⟩ := nm_with (m := m) (y := y) (o := o) (k := k) f (j := 12 * a) rfl
  unfold dtY dtN dtD dtO
  rw [e, h1, h2]
  have e1 : fdF m y o k a = stF m o (mwF m y o k (12 * a)) := rfl
  refine ⟨by omega, by omega, by rw [e1]; omega, rfl⟩
/-! ### new years rise -/
theorem puN_rg {ns : List Int} (h : ∀ x ∈ ns, 0 ≤ x ∧ x ≤ 3) (d : Int) : 0 ≤ puN ns d ∧ puN ns d ≤ 3 := by
  unfold puN
  rw [List.getD_eq_getElem?_getD]
  cases e : ns[(d % (ns.length : Int)).toNat]? with
  | none => exact ⟨by decide, by decide⟩
  | some x => exact h x (List.mem_of_getElem? e)
theorem putG_rg : ∀ {gs : List (Int → Int)}, (∀ g ∈ gs, ∀ d, 0 ≤ g d ∧ g d ≤ 3) → ∀ d, d ≤ putG gs d ∧ putG gs d ≤ d + 3 * (gs.length : Int)
  | [], _, d => by
    show d ≤ d ∧ d ≤ d + 3 * ((0 : Nat) : Int)
    omega
  | g :: gs, h, d => by
    have h1 := h g List.mem_cons_self d
    have h2 := putG_rg (gs := gs) (fun g' hg => h g' (List.mem_cons_of_mem _ hg)) (d + g d)
    have e : putG (g :: gs) d = putG gs (d + g d) := rfl
    rw [e, List.length_cons]
    omega
/-- what the rules put off: by no less than nought, and by nine days at most -/
structure Rg (gs : List (Int → Int)) : Prop where
  z : gs.length ≤ 3
  r : ∀ g ∈ gs, ∀ d, 0 ≤ g d ∧ g d ≤ 3
def nwF (m y o k : Rat) (gs : List (Int → Int)) (a : Int) : Int := putG gs (fdF m y o k a)
def yaF (m y o k : Rat) (gs : List (Int → Int)) (d : Int) : Int := if d < nwF m y o k gs (dtY m y o k d) then dtY m y o k d - 1 else dtY m y o k d
theorem nw_in {m y o k : Rat} {gs : List (Int → Int)} (r : Rg gs) (a : Int) : fdF m y o k a ≤ nwF m y o k gs a ∧ nwF m y o k gs a ≤ fdF m y o k a + 9 := by
  have := putG_rg r.r (fdF m y o k a)
  have z := r.z
  unfold nwF
  omega
theorem nw_up {m y o k : Rat} (f : Fit m y) {gs : List (Int → Int)} (r : Rg gs) (a : Int) : nwF m y o k gs a < nwF m y o k gs (a + 1) := by
  have h1 := nw_in (m := m) (y := y) (o := o) (k := k) r a
  have h2 := nw_in (m := m) (y := y) (o := o) (k := k) r (a + 1)
  have h3 := fd_up (o := o) (k := k) f a
  omega
theorem nw_le {m y o k : Rat} (f : Fit m y) {gs : List (Int → Int)} (r : Rg gs) {a b : Int} (h : a ≤ b) : nwF m y o k gs a ≤ nwF m y o k gs b := by
  obtain ⟨n, rfl⟩ : ∃ n : Nat, b = a + n := ⟨(b - a).toNat, by omega⟩
  clear h
  induction n with
  | zero => rw [show a + ((0 : Nat) : Int) = a by omega]; exact Int.le_refl _
  | succ n ih =>
    have := nw_up (o := o) (k := k) f r (a + n)
    rw [show a + ((n + 1 : Nat) : Int) = a + (n : Int) + 1 by omega]
    omega
theorem ya_in {m y o k : Rat} (f : Fit m y) {gs : List (Int → Int)} (r : Rg gs) (d : Int) : nwF m y o k gs (yaF m y o k gs d) ≤ d ∧ d < nwF m y o k gs (yaF m y o k gs d + 1) := by
  obtain ⟨h1, h2⟩ := yw_in (o := o) (k := k) f d
  have n1 := nw_in (m := m) (y := y) (o := o) (k := k) r (dtY m y o k d)
  have n2 := nw_in (m := m) (y := y) (o := o) (k := k) r (dtY m y o k d + 1)
  have n0 := nw_in (m := m) (y := y) (o := o) (k := k) r (dtY m y o k d - 1)
  have u0 := fd_up (o := o) (k := k) f (dtY m y o k d - 1)
  rw [show dtY m y o k d - 1 + 1 = dtY m y o k d by omega] at u0
  unfold yaF
  split
  · rw [show dtY m y o k d - 1 + 1 = dtY m y o k d by omega]
    omega
  · omega
theorem ya_one {m y o k : Rat} (f : Fit m y) {gs : List (Int → Int)} (r : Rg gs) {a d : Int} (h1 : nwF m y o k gs a ≤ d) (h2 : d < nwF m y o k gs (a + 1)) : yaF m y o k gs d = a := by
  obtain ⟨g1, g2⟩ := ya_in (o := o) (k := k) f r d
  generalize yaF m y o k gs d = b at *
  by_cases c : b < a
  · have := nw_le (o := o) (k := k) f r (show b + 1 ≤ a by omega)
    omega
  · by_cases c2 : a < b
    · have := nw_le (o := o) (k := k) f r (show a + 1 ≤ b by omega)
      omega
    · omega
theorem nw_nil (m y o k : Rat) (a : Int) : nwF m y o k [] a = fdF m y o k a := rfl
theorem ya_nil {m y o k : Rat} (f : Fit m y) (d : Int) : yaF m y o k [] d = dtY m y o k d := by
  unfold yaF
  rw [nw_nil, if_neg (by have := (yw_in (o := o) (k := k) f d).1; omega)]
/-! ### the year whose new year is the last one -/
def muD (i : Nat) (K : Int) : L2.St → Hp → Nat := fun σ _ => match σ[i]? with
  | some (some (.int k)) => (k - K).toNat
  | _ => 0
def spYa47 (P : Program) (w : World) (K : PySem.W.Frag) (mg : Str → Option Value) (base : Heap) (kk : Nat) (C Cc Cs : Addr) : Sp := fun vs H Q _ => ∃ (q p : Addr) (d : Int) (m y o k : Rat) (fs : List Addr) (gs : List (Int → Int)), vs = [.ref q, .int d] ∧ Sf P w K mg base kk C Cc Cs H q p m y o k fs gs ∧ Rg gs ∧ Sz 1100 d ∧ ∀ H', Same H H' → Q (.int (yaF m y o k gs d)) H'
theorem Good.zya {m y o k : Rat} (g : Good m y o k) {gs : List (Int → Int)} {n : Nat} {d : Int} (h : Sz n d) (hn : 75 ≤ n) : Sz (n + 3) (yaF m y o k gs d) := by
  have h1 := g.zdY h hn
  unfold yaF
  split
  · exact Sz.sub h1 (szi 1 (Nat.one_lt_two_pow (by omega))) (by omega)
  · exact h1.mono (by omega)
section
variable {P : Program} {w : World} {K : PySem.W.Frag} {mg : Str → Option Value} {base : Heap} {C Cc Cs Cd : Addr} {kk : Nat}
theorem ok_ya47 (D : Dm K Cs "year_at" "Shifted.year_at" s_Shifted_year_at) (T : SfT K Cs) (f_year_with : Ca P w K mg base CX0 10 "year_with" s_year_with [] ["calendar", "day"] (spYw C Cc)) (f_new_year : Cm P w K mg base CX0 11 Cs "new_year" "Shifted.new_year" s_Shifted_new_year ["self", "year"] (spNy46 P w K mg base kk C Cc Cs)) :
    Cm P w K mg base CX0 12 Cs "year_at" "Shifted.year_at" s_Shifted_year_at ["self", "day"] (spYa47 P w K mg base kk C Cc Cs) := by
  refine cm0 (k := 11) D c_Shifted_year_at (fun vs H Q E h => ?_) fun f cdv A outer s H vs Q E hr h => ?_
  · obtain ⟨q, p, a, m, y, o, k, fs, gs, rfl, _⟩ := h
    rfl
  · obtain ⟨q, p, d, m, y, o, k, fs, gs, rfl, hs, rg, zd, qq⟩ := h
    obtain ⟨dx, l, eq, el⟩ := hs.ob
    have g := hs.g
    refine ⟨_, (pss_cons (ps_set (i := 2) c_Shifted_year_at.nd rfl (.inl rfl) (pe_ca f_year_with b_year_with hr (by decide) pass0 rfl (pa_cons (pe_fld (pv 0) rfl) (pa_cons (pv 1) pa_nil))))
      (pss_cons (ps_while PassesOwn.never (pt_cmpR op_gt (pe_cm f_new_year b_Shifted_new_year hr (by decide) pass0 (pv 0) (pa_cons (pv 2) pa_nil)) (pv 1) (nomark _)) (pss_one (ps_set (i := 2) c_Shifted_year_at.nd rfl (.inl rfl) (pe_op op_sub (pv 2) pe_int))))
      (pss_one (ps_ret (pv 2))))), ?_⟩
    refine ⟨_, rfl, q, Cs, dx, _, _, rfl, eq, T.cl, T.n1, sf_cal _ _, _, rfl, p, d, m, y, o, k, rfl, hs.c, hs.g, zd.mono (by decide), fun H1 s1 => ?_⟩
    have zY : Sz 1102 (dtY m y o k d) := g.zdY zd (by decide)
    have zA : Sz 1103 (yaF m y o k gs d) := g.zya zd (by decide)
    have hA : yaF m y o k gs d ≤ dtY m y o k d := by
      unfold yaF
      split <;> omega
    refine while_by (fun σ H' => ∃ v : Int, σ = [some (.ref q), some (.int d), some (.int v)] ∧ (v = dtY m y o k d ∨ v = yaF m y o k gs d) ∧ Same H H') (muD 2 (yaF m y o k gs d)) ⟨_, rfl, .inl rfl, s1⟩ ?_ ?_
    · rintro σ H' ⟨v, rfl, hv, sv⟩
      have zv : Sz 1103 v := by
        rcases hv with rfl | rfl
        · exact zY.mono (by decide)
        · exact zA
      refine ⟨_, rfl, q, dx, _, rfl, sv _ _ eq, sf_no _ _ (by decide +kernel) (by decide +kernel), _, rfl, q, p, v, m, y, o, k, fs, gs, rfl, hs.same sv, zv.mono (by decide), fun H3 s3 => ⟨_, rfl, _, _, rfl, rfl, _, rfl, ?_⟩⟩
      refine ite2 (fun hb => ?_) (fun hb => ?_)
      · have hlt : d < nwF m y o k gs v := of_decide_eq_true hb
        have hv' : v = dtY m y o k d ∧ yaF m y o k gs d = v - 1 := by
          rcases hv with rfl | rfl
          · refine ⟨rfl, ?_⟩
            unfold yaF
            rw [if_pos hlt]
          · have := (ya_in (o := o) (k := k) g.fit rg d).1
            omega
        refine ⟨_, rfl, _, _, rfl, rfl, ⟨v - 1, rfl, .inr hv'.2.symm, sv.trans s3⟩, ?_⟩
        show ((v - 1) - yaF m y o k gs d).toNat < (v - yaF m y o k gs d).toNat
        omega
      · have hge : ¬ d < nwF m y o k gs v := fun z => hb (decide_eq_true z)
        have ev : v = yaF m y o k gs d := by
          rcases hv with rfl | rfl
          · unfold yaF
            rw [if_neg hge]
          · rfl
        subst ev
        exact ⟨_, rfl, qq H3 (sv.trans s3)⟩
    · rintro σ H' R R' hq ⟨v, h1, a, dx', fs', e1, e2, e3, w', h2, q', p', a', m', y', o', k', fs2, gs2, e4, hs', z', hc⟩
      refine ⟨v, h1, a, dx', fs', e1, e2, e3, w', h2, q', p', a', m', y', o', k', fs2, gs2, e4, hs', z', fun H3 s3 => ?_⟩
      obtain ⟨v3, h3, i2, j2, e5, e6, b', e7, hb⟩ := hc H3 s3
      exact ⟨v3, h3, i2, j2, e5, e6, b', e7, hq _ _ hb⟩
/-! ### what the law asks of a day -/
def spDr47 (P : Program) (w : World) (K : PySem.W.Frag) (mg : Str → Option Value) (base : Heap) (kk : Nat) (C Cc Cs : Addr) : Sp := fun vs H Q _ => ∃ (q p : Addr) (d : Int) (m y o k : Rat) (fs : List Addr) (gs : List (Int → Int)), vs = [.ref q, .int d] ∧ Sf P w K mg base kk C Cc Cs H q p m y o k fs gs ∧ Rg gs ∧ Sz 1100 d ∧ ∀ H', Same H H' → Q (.bl true) H'
theorem ok_dr47 (D : Df K mg "_law_day_right" s_l_day_right []) (f_year_at : Cm P w K mg base CX0 12 Cs "year_at" "Shifted.year_at" s_Shifted_year_at ["self", "day"] (spYa47 P w K mg base kk C Cc Cs)) (f_new_year : Cm P w K mg base CX0 11 Cs "new_year" "Shifted.new_year" s_Shifted_new_year ["self", "year"] (spNy46 P w K mg base kk C Cc Cs)) :
    Ca P w K mg base CX0 13 "_law_day_right" s_l_day_right [] ["_law_shifted", "_law_a_day"] (spDr47 P w K mg base kk C Cc Cs) := by
  refine ca0 (k := 12) D c_l_day_right (fun vs H Q E h => ?_) fun f cdv A outer s H vs Q E hr h => ?_
  · obtain ⟨q, p, a, m, y, o, k, fs, gs, rfl, _⟩ := h
    rfl
  · obtain ⟨q, p, d, m, y, o, k, fs, gs, rfl, hs, rg, zd, qq⟩ := h
    obtain ⟨dx, l, eq, el⟩ := hs.ob
    have g := hs.g
    have zA : Sz 1103 (yaF m y o k gs d) := g.zya zd (by decide)
    obtain ⟨i1, i2⟩ := ya_in (o := o) (k := k) g.fit rg d
    refine ⟨_, (pss_cons (ps_set (i := 2) c_l_day_right.nd rfl (.inl rfl) (pe_cm f_year_at b_Shifted_year_at hr (by decide) pass0 (pv 0) (pa_cons (pv 1) pa_nil)))
      (pss_cons (ps_if (pt_cmpR op_gt (pe_cm f_new_year b_Shifted_new_year hr (by decide) pass0 (pv 0) (pa_cons (pv 2) pa_nil)) (pv 1) (nomark _)) (pss_one (ps_ret pe_bl)) pss_nil)
      (pss_one (ps_ret (pe_cmpR op_gt (pe_cm f_new_year b_Shifted_new_year hr (by decide) pass0 (pv 0) (pa_cons (pe_op op_add (pv 2) pe_int) pa_nil)) (pv 1) (nomark _)))))), ?_⟩
    refine ⟨_, rfl, q, dx, _, rfl, eq, sf_no _ _ (by decide +kernel) (by decide +kernel), _, rfl, q, p, d, m, y, o, k, fs, gs, rfl, hs, rg, zd, fun H1 s1 => ?_⟩
    have hs1 := hs.same s1
    refine ⟨_, rfl, q, dx, _, rfl, s1 _ _ eq, sf_no _ _ (by decide +kernel) (by decide +kernel), _, rfl, q, p, _, m, y, o, k, fs, gs, rfl, hs1, zA.mono (by decide), fun H2 s2 => ⟨_, rfl, _, _, rfl, rfl, _, rfl, no' (decide_eq_false (by show ¬ d < nwF m y o k gs _; omega)) ?_⟩⟩
    have s12 := s1.trans s2
    refine ⟨_, rfl, q, dx, _, rfl, s12 _ _ eq, sf_no _ _ (by decide +kernel) (by decide +kernel), _, rfl, _, _, rfl, rfl, q, p, _, m, y, o, k, fs, gs, rfl, hs.same s12, (Sz.add zA (szi 1 (Nat.one_lt_two_pow (by decide))) (by decide : 1103 < 1200)).mono (by decide), fun H3 s3 => ⟨_, rfl, _, _, rfl, rfl, ?_⟩⟩
    show Q (V.bl (decide (d < nwF m y o k gs (yaF m y o k gs d + 1)))) H3
    rw [decide_eq_true i2]
    exact qq H3 (s12.trans s3)
/-! ### what the law asks where there are no rules -/
theorem bd_Date3 : Bd1 "__init__" "Date.__init__" s_Date_init ["self", "year", "number", "day", "odd"] 4 0 1 := fun _ _ _ _ _ _ _ us its hu hi => match us, hu, its, hi with | [_, _, _, _], _, [_], _ => ⟨_, rfl, rfl⟩
def spPr47 (C Cc : Addr) : Sp := fun vs H Q _ => ∃ (p : Addr) (d : Int) (m y o k : Rat), vs = [.ref p, .int d] ∧ Cl C Cc H p m y o k ∧ Good m y o k ∧ Sz 100 d ∧ ∀ H', Same H H' → Q (.bl true) H'
theorem ok_pr47 (D : Df K mg "_law_plain_right" s_l_plain_right []) (f_date_of : Ca P w K mg base CX0 10 "date_of" s_date_of [] ["calendar", "day"] (spDateOf C Cc Cd)) (Td : DaT K Cd) (f_Shifted : Ci P w K mg base CX0 3 "Shifted" Cs "Shifted.__init__" s_Shifted_init [] ["self", "calendar", "rules"] (spSfI Cs)) (f_Date : Ci P w K mg base CX0 1 "Date" Cd "Date.__init__" s_Date_init [.bl false] ["self", "year", "number", "day", "odd"] (spDaI Cd)) (f_Date_eq : Cm P w K mg base CX0 1 Cd "__eq__" "Date.__eq__" s_Date_eq ["self", "other"] (spDaE Cd))
    (f_year_at : Cm P w K mg base CX0 12 Cs "year_at" "Shifted.year_at" s_Shifted_year_at ["self", "day"] (spYa47 P w K mg base kk C Cc Cs)) (f_new_year : Cm P w K mg base CX0 11 Cs "new_year" "Shifted.new_year" s_Shifted_new_year ["self", "year"] (spNy46 P w K mg base kk C Cc Cs)) :
    Ca P w K mg base CX0 13 "_law_plain_right" s_l_plain_right [] ["_law_made_here", "_law_a_day"] (spPr47 C Cc) := by
  refine ca0 (k := 12) D c_l_plain_right (fun vs H Q E h => ?_) fun f cdv A outer s H vs Q E hr h => ?_
  · obtain ⟨p, a, m, y, o, k, rfl, _⟩ := h
    rfl
  · obtain ⟨p, d, m, y, o, k, rfl, hc, g, zd, qq⟩ := h
    refine ⟨_, (pss_cons (ps_set (i := 2) c_l_plain_right.nd rfl (.inl rfl) (pe_ciN f_Shifted b_Shifted_init hr (by decide) pass0 rfl (pa_cons (pv 0) (pa_cons (pe_lst pa_nil) pa_nil))))
      (pss_cons (ps_set (i := 3) c_l_plain_right.nd rfl (.inl rfl) (pe_cm f_year_at b_Shifted_year_at hr (by decide) pass0 (pv 2) (pa_cons (pv 1) pa_nil)))
      (pss_cons (ps_set (i := 4) c_l_plain_right.nd rfl (.inl rfl) (pe_ca f_date_of b_date_of hr (by decide) pass0 rfl (pa_cons (pv 0) (pa_cons (pv 1) pa_nil))))
      (pss_one (ps_ret (pe_and (pe_cmpR op_eq (pv 3) (pe_fld (pv 4) rfl) (nomark _)) (pe_one (pe_cmpR (op_eqC f_Date_eq b_Date_eq pass0 hr (by decide)) (pe_ca f_date_of b_date_of hr (by decide) pass0 rfl (pa_cons (pv 0) (pa_cons (pe_cm f_new_year b_Shifted_new_year hr (by decide) pass0 (pv 2) (pa_cons (pv 3) pa_nil)) pa_nil))) (pe_ci f_Date bd_Date3 (by decide) rfl hr (by decide) pass0 rfl (pa_cons (pv 3) (pa_cons pe_int (pa_cons pe_int pa_nil)))) (nomark _))))))))), ?_⟩
    refine ⟨_, rfl, (by show 0 ≤ sizeLine; decide), fun l0 n0 => fun sq dq nsq ndq nq => ?_⟩
    have s0 := Same.new (o := .lst []) n0
    have s1 : Same (L2.upd H l0 (.lst [])) (L2.upd (L2.upd (L2.upd H l0 (.lst [])) dq (.own sq)) sq (.ins Cs dq [])) := Same.upd (Same.new ndq) (by rw [upd_ne nq.symm]; exact nsq)
    refine ⟨sq, dq, p, l0, [], rfl, upd_same, s1 _ _ upd_same, (by decide), fun lr H2 b2 nlr esq elr => ⟨rfl, ?_⟩⟩
    have s2 : Same H H2 := fun c o e => b2 c o (ne_of_none (s0 _ _ e) nsq) (s1 c o (s0 c o e))
    have hf : Sf P w K mg base kk C Cc Cs H2 sq p m y o k [] [] := ⟨⟨dq, lr, esq, elr⟩, hc.same s2, g, rfl, by decide, fun j f g' a => by simp at a⟩
    have rg : Rg [] := ⟨by decide, fun g' hg => by cases hg⟩
    have zY := g.zdY (zd.mono (show 100 ≤ 100 by decide)) (by decide)
    have zF : Sz 600 (fdF m y o k (dtY m y o k d)) := g.zfd (zY.mono (show 102 ≤ 110 by decide)) (by decide) (by decide)
    obtain ⟨t1, t2', t3', t4⟩ := dt_first (m := m) (y := y) (o := o) (k := k) g.fit (dtY m y o k d)
    refine ⟨_, rfl, sq, dq, _, rfl, esq, sf_no _ _ (by decide +kernel) (by decide +kernel), _, rfl, sq, p, d, m, y, o, k, [], [], rfl, hf, rg, zd.mono (by decide), fun H3 s3 => ?_⟩
    have ey : yaF m y o k [] d = dtY m y o k d := ya_nil g.fit d
    rw [ey]
    have s03 := s2.trans s3
    refine ⟨_, rfl, _, rfl, p, d, m, y, o, k, rfl, hc.same s03, g, zd.mono (by decide), fun t H4 nt s4 ht => ?_⟩
    obtain ⟨dx, et⟩ := id ht
    have s04 := s03.trans s4
    refine ⟨_, rfl, _, rfl, t, Cd, dx, _, _, rfl, et, Td.cl, Td.n1, df_year _ _ _ _, rfl, ?_⟩
    refine ⟨true, by simp, ?_⟩
    rw [if_pos rfl]
    have hf4 := (hf.same s3).same s4
    refine ⟨_, rfl, _, rfl, sq, dq, _, rfl, s4 _ _ (s3 _ _ esq), sf_no _ _ (by decide +kernel) (by decide +kernel), _, rfl, sq, p, _, m, y, o, k, [], [], rfl, hf4, zY.mono (by decide), fun H5 s5 => ?_⟩
    refine ⟨p, _, m, y, o, k, rfl, (hc.same s04).same s5, g, zF.mono (by decide), fun t2 H6 nt2 s6 ht2 => ?_⟩
    refine ⟨_, rfl, made_da fun t3 dx3 H7 nt3 s7 et3 => ?_⟩
    obtain ⟨dx2, et2⟩ := id ht2
    refine ⟨t2, dx2, _, _, rfl, s7 _ _ et2, Td.ty _ _ _ _ et3, nf_self, t2, t3, _, _, _, _, _, _, _, _, rfl, ht2.same s7, ⟨dx3, et3⟩, ?_⟩
    have e0 : putG [] (fdF m y o k (dtY m y o k d)) = fdF m y o k (dtY m y o k d) := rfl
    rw [e0, t1, t2', t3', t4]
    refine ⟨_, rfl, ?_⟩
    show Q (V.bl (decide (dtY m y o k d = dtY m y o k d) && (decide ((1 : Int) = 1) && (decide ((1 : Int) = 1) && decide (false = false))))) H7
    simp only [decide_true, Bool.and_self]
    exact qq H7 (s04.trans (s5.trans (s6.trans s7)))
end
/-! ### what the law asks of years between new years -/
theorem ne_dec {a b : Int} (h : a = b) : (!decide (V.int a = V.int b)) = false := by
  subst h
  simp
def BtN (l : Addr) (H H' : Hp) : Prop := ∀ b o, b ≠ l → H b = some o → (∀ ps : Array Value, o ≠ .tbl ps) → H' b = some o
theorem BtN.trans {l : Addr} {H H1 H2 : Hp} (a : BtN l H H1) (b : BtN l H1 H2) : BtN l H H2 := fun c o h e n => b c o h (a c o h e n) n
theorem BtN.but {l : Addr} {H H1 : Hp} (a : But l H H1) : BtN l H H1 := fun c o h e _ => a c o h e
theorem BtN.same {l : Addr} {H H1 : Hp} (a : Same H H1) : BtN l H H1 := fun c o _ e _ => a c o e
theorem BtN.ext {l : Addr} {H H1 : Hp} (a : LamX.ExtN H H1) : BtN l H H1 := fun c o _ e n => a c o e n
theorem tabs_but {T : List (Addr × Str)} {l : Addr} {n : Nat} {H H1 : Hp} (h : LamX.Tabs T H) (b : But l H H1) (d : Dr H l n) : LamX.Tabs T H1 := fun p hp => by
  obtain ⟨ps, e1, e2, e3⟩ := h p hp
  obtain ⟨_, _, _, el, _⟩ := id d
  refine ⟨ps, b _ _ (ne_of e1 el (by intro z; cases z)) e1, e2, fun pos cv e => ?_⟩
  obtain ⟨c, e4, e5⟩ := e3 pos cv e
  exact ⟨c, e4, b _ _ (ne_of e5 el (by intro z; unfold LamX.CodeO at z; cases z)) e5⟩
theorem tabs_put {T : List (Addr × Str)} {D : Addr} {xs : List V} {o : HO} {H : Hp} (h : LamX.Tabs T H) (e : H D = some (.lst xs)) : LamX.Tabs T (L2.upd H D o) := fun p hp => by
  obtain ⟨ps, e1, e2, e3⟩ := h p hp
  refine ⟨ps, (upd_ne (ne_of e1 e (by intro z; cases z))).trans e1, e2, fun pos cv e' => ?_⟩
  obtain ⟨c, e4, e5⟩ := e3 pos cv e'
  exact ⟨c, e4, (upd_ne (ne_of e5 e (by intro z; unfold LamX.CodeO at z; cases z))).trans e5⟩
theorem ext_trans {H H1 H2 : Hp} (a : LamX.ExtN H H1) (b : LamX.ExtN H1 H2) : LamX.ExtN H H2 := fun c o e n => b c o (a c o e n) n
theorem ext_same {H H1 : Hp} (a : Same H H1) : LamX.ExtN H H1 := fun c o e _ => a c o e
section
variable {J : It} {n : Nat} {G : Hp → Prop} {Y : Nat → Hp → V → Hp → Prop}
/-- a comprehension whose things are made with tables growing -/
theorem lc_allT {T : List (Addr × Str)} (w : Walk J n G Y) (hY : ∀ i H x H', Y i H x H' → Same H H') {g : TG} {te : TE} {vs : List Nat} {σ : L2.St} {H : Hp} {D : Addr} {Qd : Hp → Prop} (nD : H D = none) (tb : LamX.Tabs T H) (hn : n < sizeLine) (Ps : Nat → V → Hp → Prop)
    (hm : ∀ j v H1 H2, LamX.ExtN H1 H2 → Ps j v H1 → Ps j v H2) (hp : ∀ j v H1 acc acc', H1 D = some (.lst acc) → Ps j v H1 → Ps j v (L2.upd H1 D (.lst acc'))) (hG : ∀ H', LamX.ExtN H H' → G H')
    (hs : ∀ i x H1 H2 (R : V → Hp → Prop), i < n → LamX.ExtN H H1 → LamX.Tabs T H2 → Y i H1 x H2 → (∀ v H3, LamX.ExtN H2 H3 → LamX.Tabs T H3 → Ps i v H3 → R v H3) → g x (wipe σ vs) H2 fun σ2 H3 => wipe σ2 vs = wipe σ vs ∧ te σ2 H3 R)
    (hd : ∀ (us : List V) H', us.length = n → H' D = some (.lst us) → LamX.ExtN H H' → LamX.Tabs T H' → (∀ j v, us[j]? = some v → Ps j v H') → Qd H') :
    ∃ W : Nat → Nat → Hp → Prop, (∃ m, W 0 m (L2.upd H D (.lst []))) ∧ ∀ i m H, W i m H →
      (J.stop i H ∧ Qd H) ∨ (J.go i H ∧ ∃ Nx : Hp → Prop, (∀ H', Nx H' → ∃ m', m' < m ∧ W (i + 1) m' H') ∧ ∀ x H', J.yld i H x H' → g x (wipe σ vs) H' fun σ2 H2 => wipe σ2 vs = wipe σ vs ∧ tYes σ2 H2 fun b H3 =>
        if b = true then te σ2 H3 fun y H4 => ∃ acc, H4 D = some (.lst acc) ∧ acc.length < sizeLine ∧ Nx (L2.upd H4 D (.lst (acc ++ [y]))) else Nx H3) := by
  have kp : ∀ {H1 : Hp} {o : HO}, LamX.ExtN H H1 → LamX.ExtN H (L2.upd H1 D o) := fun {H1 o} e b u h n => (upd_ne (ne_of_none h nD)).trans (e b u h n)
  refine lc_it w (fun i H' => ∃ us : List V, us.length = i ∧ H' D = some (.lst us) ∧ LamX.ExtN H H' ∧ LamX.Tabs T H' ∧ ∀ j v, us[j]? = some v → Ps j v H') ⟨[], rfl, upd_same, kp (ext_same (Same.refl H)), tb.ext fun b u e => (upd_ne (ne_of_none e nD)).trans e, fun j v h => by simp at h⟩ (fun i H' _ ⟨_, _, _, s, _⟩ => hG H' s) ?_ (fun H' ⟨us, l, e, s, t, p⟩ => hd us H' l e s t p)
  rintro i x H1 H2 hi ⟨us, hl, e, s, t, p⟩ y
  have s2 := hY _ _ _ _ y
  refine hs i x H1 H2 _ hi s (t.ext s2) y fun v H3 s3 t3 pv => ?_
  have e3 := s3 _ _ (s2 _ _ e) (by intro ps z; cases z)
  refine ⟨us, e3, by omega, us ++ [v], by rw [List.length_append, hl]; rfl, upd_same, kp (ext_trans s (ext_trans (ext_same s2) s3)), tabs_put t3 e3, fun j u hj => ?_⟩
  by_cases hjl : j < us.length
  · rw [List.getElem?_append_left hjl] at hj
    exact hp _ _ _ _ _ e3 (hm _ _ _ _ (ext_trans (ext_same s2) s3) (p j u hj))
  · rw [List.getElem?_append_right (by omega)] at hj
    have ej : j = us.length := by
      by_cases hz : j - us.length = 0
      · omega
      · have : ([v] : List V)[j - us.length]? = none := List.getElem?_eq_none_iff.mpr (by simp; omega)
        rw [this] at hj
        cases hj
    subst ej
    rw [Nat.sub_self] at hj
    cases hj
    rw [hl]
    exact hp _ _ _ _ _ e3 pv
end
/-- the lambdas of a list, by the list of numbers -/
def La1 (H : Hp) (f ln : Addr) : Prop := ∃ cc c', H f = some (LmO f (lmF (lamQ "_law_rule") lamA lamSc [("_law_numbers_here", cc)] c') lamE) ∧ H c' = some (LamX.CodeO c' (lamQ "_law_rule")) ∧ H cc = some (CelO cc (.ref ln))
def La2 (H : Hp) (f ln : Addr) (ns : List Int) : Prop := ∃ c1 c2 c', c1 ≠ c2 ∧ H f = some (LmO f (lmF (lamQ "_law_other_rule") lamA2 lamS2 [("_law_numbers_here", c1), ("_law_many", c2)] c') lamE2) ∧ H c' = some (LamX.CodeO c' (lamQ "_law_other_rule")) ∧ H c1 = some (CelO c1 (.ref ln)) ∧ H c2 = some (CelO c2 (.int ((ns.map V.int).length : Nat)))
theorem La1.keep {H H1 : Hp} {f ln : Addr} (h : La1 H f ln) (b : ∀ {c : Addr} {φ : Heap → Prop}, H c = some (.ext φ) → H1 c = some (.ext φ)) : La1 H1 f ln := by
  obtain ⟨cc, c', h1, h2, h3⟩ := h
  exact ⟨cc, c', b h1, b h2, b h3⟩
theorem La2.keep {H H1 : Hp} {f ln : Addr} {ns : List Int} (h : La2 H f ln ns) (b : ∀ {c : Addr} {φ : Heap → Prop}, H c = some (.ext φ) → H1 c = some (.ext φ)) : La2 H1 f ln ns := by
  obtain ⟨c1, c2, c', n, h1, h2, h3, h4⟩ := h
  exact ⟨c1, c2, c', n, b h1, b h2, b h3, b h4⟩
theorem refs_of {us : List V} (h : ∀ (j : Nat) v, us[j]? = some v → ∃ f : Addr, v = .ref f) : ∃ fs : List Addr, us = fs.map V.ref := by
  induction us with
  | nil => exact ⟨[], rfl⟩
  | cons u us ih =>
    obtain ⟨f, rfl⟩ := h 0 u rfl
    obtain ⟨fs, rfl⟩ := ih fun j v hv => h (j + 1) v hv
    exact ⟨f :: fs, rfl⟩
theorem lst_of {H : Hp} {l : Addr} {n : Nat} (d : Dr H l n) : ∃ xs, H l = some (.lst xs) := by
  obtain ⟨_, _, _, h, _⟩ := d
  exact ⟨_, h⟩
/-- a list of the rules and what they are made of stays, the draws going on -/
theorem BtN.ex {l : Addr} {n : Nat} {H H1 : Hp} (b : BtN l H H1) (d : Dr H l n) : ∀ {c : Addr} {φ : Heap → Prop}, H c = some (.ext φ) → H1 c = some (.ext φ) := fun {c φ} e => by
  obtain ⟨xs, el⟩ := lst_of d
  exact b _ _ (ne_of e el (by intro z; cases z)) e (by intro ps z; cases z)
theorem BtN.in {l : Addr} {n : Nat} {H H1 : Hp} {c C dx : Addr} {fs : List (Str × V)} (b : BtN l H H1) (d : Dr H l n) (e : H c = some (.ins C dx fs)) : H1 c = some (.ins C dx fs) := by
  obtain ⟨xs, el⟩ := lst_of d
  exact b _ _ (ne_of e el (by intro z; cases z)) e (by intro ps z; cases z)
theorem Cl.btn {C Cc l : Addr} {n : Nat} {H H1 : Hp} {p : Addr} {m y o k : Rat} (h : Cl C Cc H p m y o k) (b : BtN l H H1) (d : Dr H l n) : Cl C Cc H1 p m y o k := by
  obtain ⟨dx, a, b', c, d', e, ⟨x1, h1⟩, ⟨x2, h2⟩, ⟨x3, h3⟩, ⟨x4, h4⟩⟩ := h
  exact ⟨dx, a, b', c, d', b.in d e, ⟨x1, b.in d h1⟩, ⟨x2, b.in d h2⟩, ⟨x3, b.in d h3⟩, ⟨x4, b.in d h4⟩⟩
theorem Nus.btn {l p : Addr} {H H1 : Hp} {ls : List Addr} {nss : List (List Int)} (h : Nus H l p ls nss) (b : BtN l H H1) : Nus H1 l p ls nss := ⟨h.1, fun j ln ns h1 h2 => by
  obtain ⟨e1, e2, e3, e4⟩ := h.2 j ln ns h1 h2
  exact ⟨b _ _ e3 e1 (by intro ps z; cases z), e2, e3, e4⟩⟩
theorem Dr.ext {H H1 : Hp} {l : Addr} {n : Nat} (d : Dr H l n) (e : LamX.ExtN H H1) : Dr H1 l n := by
  obtain ⟨a1, a2, a3, h, z⟩ := d
  exact ⟨a1, a2, a3, e _ _ h (by intro ps z; cases z), z⟩
abbrev T47 (P1 P2 : Addr) : List (Addr × Str) := [(P1, lamQ "_law_rule"), (P2, lamQ "_law_other_rule")]
abbrev TE_l_right1 (P1 P2 : Addr) : TE := tCall (spMkL (T47 P1 P2) "_law_rule" "_law_numbers_here" lamA lamE lamSc) [] E0 (tCons (tVar 12) tNil)
abbrev TE_l_right2 (P1 P2 : Addr) : TE := tCall (spMkL2 (T47 P1 P2) "_law_other_rule" "_law_numbers_here" "_law_many" lamA2 lamE2 lamS2 preN false) [] E0 (tCons (tVar 12) tNil)
abbrev TE_l_right3 (P1 P2 : Addr) : TE := tCall spDay [] E0 (tCons (tVar 0) tNil)
abbrev TE_l_right4 (P1 P2 : Addr) : TE := tOp (rI0 fun i j => .int (i + j)) (tVar 9) (tVar 13)
def spR47 (P1 P2 : Addr) : Sp := fun vs H Q _ => ∃ (l : Addr), vs = [.ref l] ∧ Dr H l 0 ∧ LamX.Tabs (T47 P1 P2) H ∧ ∀ H', BtN l H H' → LamX.Tabs (T47 P1 P2) H' → Q (.bl true) H'
theorem kb_year_at : Kbm "year_at" "Shifted.year_at" s_Shifted_year_at 1 ["day"] ["self", "day"] g1 := ⟨fun _ _ _ _ _ _ us ws hu hw => match us, hu, ws, hw with | [_], _, [_], _ => rfl, g1_rel⟩
def gCR {α : Type} : List α → List α → List α := fun us ws => us ++ ws
theorem kb_Shifted_rel {vs : List V} {us : List Value} {zs : List V} {ws : List Value} (h : Vals vs us) (k : Vals zs ws) : Vals (gCR vs zs) (gCR us ws) := h.append k
theorem kb_Shifted_calendar_rules : Kbm "__init__" "Shifted.__init__" s_Shifted_init 1 ["calendar", "rules"] ["self", "calendar", "rules"] gCR := ⟨fun _ _ _ _ _ _ us ws hu hw => match us, hu, ws, hw with | [_], _, [_, _], _ => rfl, fun _ _ => kb_Shifted_rel⟩
section
variable {P : Program} {w : World} {K : PySem.W.Frag} {mg : Str → Option Value} {base : Heap} {C Cc Cs P1 P2 : Addr}
theorem ok_right47 (D : Df K mg "_law_right" s_l_right []) (f_l_four : Ca P w K mg base CX0 4 "_law_four" s_l_four [] ["_law_draws_here"] spFour) (f_l_next : Ca P w K mg base CX0 1 "_law_next" s_l_next [] ["_law_draws_here"] spNext) (f_l_made : Ca P w K mg base CX0 10 "_law_made" s_l_made [] ["_law_four_here", "_law_way"] (spMade C Cc)) (g_range : mg "range" = none) (g_len : mg "len" = none) (f_l_numbers : Ca P w K mg base CX0 2 "_law_numbers" s_l_numbers [] ["_law_draws_here"] spNus46)
    (f_l_rule : Ca P w K mg base CX0 2 "_law_rule" s_l_rule [] ["_law_numbers_here"] (spMkL (T47 P1 P2) "_law_rule" "_law_numbers_here" lamA lamE lamSc)) (f_l_other_rule : Ca P w K mg base CX0 2 "_law_other_rule" s_l_other_rule [] ["_law_numbers_here"] (spMkL2 (T47 P1 P2) "_law_other_rule" "_law_numbers_here" "_law_many" lamA2 lamE2 lamS2 preN false))
    (f_Shifted : Ci P w K mg base CX0 3 "Shifted" Cs "Shifted.__init__" s_Shifted_init [] ["self", "calendar", "rules"] (spSfI Cs)) (f_l_day : Ca P w K mg base CX0 2 "_law_day" s_l_day [] ["_law_draws_here"] spDay)
    (f_new_year : Cm P w K mg base CX0 11 Cs "new_year" "Shifted.new_year" s_Shifted_new_year ["self", "year"] (spNy46 P w K mg base 2 C Cc Cs)) (f_length_of : Cm P w K mg base CX0 12 Cs "length_of" "Shifted.length_of" s_Shifted_length_of ["self", "year"] (spLo46 P w K mg base 2 C Cc Cs))
    (f_year_at : Cm P w K mg base CX0 12 Cs "year_at" "Shifted.year_at" s_Shifted_year_at ["self", "day"] (spYa47 P w K mg base 2 C Cc Cs)) (f_l_day_right : Ca P w K mg base CX0 13 "_law_day_right" s_l_day_right [] ["_law_shifted", "_law_a_day"] (spDr47 P w K mg base 2 C Cc Cs)) (f_l_plain_right : Ca P w K mg base CX0 13 "_law_plain_right" s_l_plain_right [] ["_law_made_here", "_law_a_day"] (spPr47 C Cc)) : Ca P w K mg base CX0 14 "_law_right" s_l_right [] ["_law_draws_here"] (spR47 P1 P2) := by
  refine ca0 (k := 13) D c_l_right (fun vs H Q E h => ?_) fun f cdv A outer s H vs Q E hr h => ?_
  · obtain ⟨l, rfl, _⟩ := h
    rfl
  · obtain ⟨l, rfl, d, tb, q⟩ := h
    refine ⟨_, (pss_cons (ps_set (i := 1) c_l_right.nd rfl (.inl rfl) (pe_ca f_l_four b_l_four hr (by decide) pass0 rfl (pa_cons (pv 0) pa_nil)))
      (pss_cons (ps_set (i := 2) c_l_right.nd rfl (.inl rfl) (pe_ca f_l_numbers b_l_numbers hr (by decide) pass0 rfl (pa_cons (pv 0) pa_nil)))
      (pss_cons (ps_set (i := 3) c_l_right.nd rfl (.inl rfl) (pe_ca f_l_made b_l_made hr (by decide) pass0 rfl (pa_cons (pv 1) (pa_cons (pe_ca f_l_next b_l_next hr (by decide) pass0 rfl (pa_cons (pv 0) pa_nil)) pa_nil))))
      (pss_cons (ps_set (i := 4) c_l_right.nd rfl (.inl rfl) (pe_ciN f_Shifted b_Shifted_init hr (by decide) pass0 rfl (pa_cons (pv 3) (pa_cons (pe_lc (own := [("_law_numbers_here", 12)]) (g := gName 12) (tt := tYes) (te := TE_l_right1 P1 P2) rfl c_l_right.nd (pi_list (pv 2)) (blkOk_by (N := ["_law_draws_here", "_law_four_here", "_law_some", "_law_made_here", "_law_shifted", "_law_more", "_law_other", "_law_days", "_law_number", "_law_first", "_law_size", "_law_at", "_law_numbers_here", "_law_k"]) (sc := defScope s_l_right) (by decide +kernel)) (fun _ _ _ _ _ => (pg_name (i := 12) c_l_right.nd rfl (.inl rfl))) (fun _ _ _ _ _ => by exact pts_nil) (fun _ _ _ _ _ => by exact (pe_ca f_l_rule b_l_rule hr (by decide) pass0 rfl (pa_cons (pv 12) pa_nil)))) pa_nil))))
      (pss_cons (ps_setLc (i := 5) (own := [("_law_numbers_here", 12)]) (g := gName 12) (tt := tYes) (te := TE_l_right2 P1 P2) rfl c_l_right.nd rfl rfl (sw_true rfl rfl rfl (by decide +kernel)) (pi_list (pv 2)) (blkOk_by (N := ["_law_draws_here", "_law_four_here", "_law_some", "_law_made_here", "_law_shifted", "_law_more", "_law_other", "_law_days", "_law_number", "_law_first", "_law_size", "_law_at", "_law_numbers_here", "_law_k"]) (sc := defScope s_l_right) (by decide +kernel)) (fun _ _ _ _ _ => (pg_name (i := 12) c_l_right.nd rfl (.inl rfl))) (fun _ _ _ _ _ => by exact pts_nil) (fun _ _ _ _ _ => by exact (pe_ca f_l_other_rule b_l_other_rule hr (by decide) pass0 rfl (pa_cons (pv 12) pa_nil))))
      (pss_cons (ps_set (i := 6) c_l_right.nd rfl (.inl rfl) (pe_ciNK f_Shifted kb_Shifted_calendar_rules kb_Shifted_rel hr (by decide) pass0 rfl (pk_cons (pv 3) (pk_cons (pv 5) pk_nil))))
      (pss_cons (ps_setLc (i := 7) (own := [("_law_k", 13)]) (g := gName 13) (tt := tYes) (te := TE_l_right3 P1 P2) rfl c_l_right.nd rfl rfl (sw_true rfl rfl rfl (by decide +kernel)) (pi_range1 rfl g_range (pa_cons pe_int pa_nil)) (blkOk_by (N := ["_law_draws_here", "_law_four_here", "_law_some", "_law_made_here", "_law_shifted", "_law_more", "_law_other", "_law_days", "_law_number", "_law_first", "_law_size", "_law_at", "_law_numbers_here", "_law_k"]) (sc := defScope s_l_right) (by decide +kernel)) (fun _ _ _ _ _ => (pg_name (i := 13) c_l_right.nd rfl (.inl rfl))) (fun _ _ _ _ _ => by exact pts_nil) (fun _ _ _ _ _ => by exact (pe_ca f_l_day b_l_day hr (by decide) pass0 rfl (pa_cons (pv 0) pa_nil))))
      (pss_cons (ps_set (i := 8) c_l_right.nd rfl (.inl rfl) (pe_cm f_year_at b_Shifted_year_at hr (by decide) pass0 (pv 4) (pa_cons (pe_ix ix_list (pv 7) pe_int (fun _ _ => rfl)) pa_nil)))
      (pss_cons (ps_set (i := 9) c_l_right.nd rfl (.inr rfl) (pe_cm f_new_year b_Shifted_new_year hr (by decide) pass0 (pv 4) (pa_cons (pv 8) pa_nil)))
      (pss_cons (ps_if (pt_cmpR op_ne (pe_cm f_year_at b_Shifted_year_at hr (by decide) pass0 (pv 4) (pa_cons (pv 9) pa_nil)) (pv 8) (nomark _)) (pss_one (ps_ret pe_bl)) pss_nil)
      (pss_cons (ps_if (pt_cmpR op_ne (pe_cm f_year_at b_Shifted_year_at hr (by decide) pass0 (pv 4) (pa_cons (pe_op op_sub (pv 9) pe_int) pa_nil)) (pe_op op_sub (pv 8) pe_int) (nomark _)) (pss_one (ps_ret pe_bl)) pss_nil)
      (pss_cons (ps_set (i := 10) c_l_right.nd rfl (.inl rfl) (pe_cm f_length_of b_Shifted_length_of hr (by decide) pass0 (pv 4) (pa_cons (pv 8) pa_nil)))
      (pss_cons (ps_if (PW.pt (pw_or (pt_cmpR op_lt (pv 10) pe_int (nomark _)) (pw_or1 (pt_cmpR op_ne (pe_cm f_new_year b_Shifted_new_year hr (by decide) pass0 (pv 4) (pa_cons (pe_op op_add (pv 8) pe_int) pa_nil)) (pe_op op_add (pv 9) (pv 10)) (nomark _))))) (pss_one (ps_ret pe_bl)) pss_nil)
      (pss_cons (ps_for PassesOwn.never rfl (pi_list (pe_op op_cat (pv 7) (pe_lc (own := [("_law_k", 13)]) (g := gName 13) (tt := tYes) (te := TE_l_right4 P1 P2) rfl c_l_right.nd (pi_rangeA rfl g_range (pa_cons (pe_un un_neg pe_int) (pa_cons pe_int pa_nil))) (blkOk_by (N := ["_law_draws_here", "_law_four_here", "_law_some", "_law_made_here", "_law_shifted", "_law_more", "_law_other", "_law_days", "_law_number", "_law_first", "_law_size", "_law_at", "_law_numbers_here", "_law_k"]) (sc := defScope s_l_right) (by decide +kernel)) (fun _ _ _ _ _ => (pg_name (i := 13) c_l_right.nd rfl (.inl rfl))) (fun _ _ _ _ _ => by exact pts_nil) (fun _ _ _ _ _ => by exact (pe_op op_add (pv 9) (pv 13)))))) (pg_name (i := 11) c_l_right.nd rfl (.inl rfl)) (pss_cons (ps_if (pt_not (pt_val (pe_ca f_l_day_right b_l_day_right hr (by decide) pass0 rfl (pa_cons (pv 4) (pa_cons (pv 11) pa_nil))))) (pss_one (ps_ret pe_bl)) pss_nil)
      (pss_one (ps_if (pt_cmpR op_ne (pe_cm f_year_at b_Shifted_year_at hr (by decide) pass0 (pv 4) (pa_cons (pv 11) pa_nil)) (pe_cmK f_year_at kb_year_at hr (by decide) pass0 (pv 6) (pk_cons (pv 11) pk_nil)) (nomark _)) (pss_one (ps_ret pe_bl)) pss_nil))))
      (pss_one (ps_ret (pe_ca f_l_plain_right b_l_plain_right hr (by decide) pass0 rfl (pa_cons (pv 3) (pa_cons (pe_ix ix_list (pv 7) pe_int (fun _ _ => rfl)) pa_nil))))))))))))))))))), ?_⟩
    generalize hT : T47 P1 P2 = T at *
    refine ⟨_, rfl, l, 0, rfl, d, by decide, fun r H1 m y o k g b1 d1 fo => ?_⟩
    refine ⟨_, rfl, l, _, rfl, d1, by decide, fun sm ls nss H2 b2 d2 nsm esm nu lss rg => ?_⟩
    have tb2 := tabs_but (tabs_but tb b1 d) b2 d1
    refine ⟨_, rfl, _, rfl, l, _, rfl, d2, by decide, fun u H3 u0 u1 b3 d3 => ?_⟩
    have tb3 := tabs_but tb2 b3 d2
    refine ⟨r, u, m, y, o, k, rfl, (fo.but b2 d1).but b3 d2, g, fun p H4 np s4 cl4 => ?_⟩
    have d4 := d3.same s4 (Nat.le_refl _)
    have tb4 := tb3.ext s4
    have b04 : BtN l H H4 := (BtN.but ((b1.trans b2).trans b3)).trans (BtN.same s4)
    have nsl : sm ≠ l := ne_of_none' d1 nsm
    have esm4 := s4 _ _ (b3 _ _ nsl esm)
    have nu4 : Nus H4 l sm ls nss := nu.btn ((BtN.but b3).trans (BtN.same s4))
    refine ⟨_, rfl, _, rfl, sm, rfl, ⟨_, SqL.of esm4⟩, fun D nD => ?_⟩
    refine lc_allT (T := T) (walk_list (K := K) (a := sm) (xs := ls.map V.ref)) yAt_same nD tb4 (by rw [List.length_map, nu4.1]; exact Nat.lt_of_le_of_lt lss (by decide)) (fun j v H' => ∃ f ln, v = .ref f ∧ ls[j]? = some ln ∧ La1 H' f ln)
      (fun j v Ha Hb e ⟨f, ln, e1, e2, e3⟩ => ⟨f, ln, e1, e2, e3.keep fun h => e _ _ h (by intro ps z; cases z)⟩) (fun j v Ha acc acc' hacc ⟨f, ln, e1, e2, e3⟩ => ⟨f, ln, e1, e2, e3.keep fun h => (upd_ne (ne_of h hacc (by intro z; cases z))).trans h⟩) (fun H' e => SqL.of (e _ _ esm4 (by intro ps z; cases z))) ?_ ?_
    · rintro i x Ha Hb R hi ea ta ⟨rfl, hx⟩ k1
      rw [List.length_map] at hi
      rw [List.getElem?_map, List.getElem?_eq_getElem hi] at hx
      cases hx
      have hln := List.getElem?_eq_getElem hi
      generalize ls[i] = ln at *
      refine ⟨rfl, ?_⟩
      exact ⟨_, rfl, .ref ln, rfl, hT ▸ ta, fun f c' cc H' ex' fr' tb' nf nc e1 e2 e3 => k1 _ H' ex' (hT ▸ tb') ⟨f, ln, rfl, hln, cc, c', e1, e2, e3⟩⟩
    intro us H5 hl5 eD5 x5 tb5 hp5
    rw [List.length_map] at hl5
    obtain ⟨fs, rfl⟩ := refs_of fun j v hv => by
      obtain ⟨f, _, e1, _⟩ := hp5 j v hv
      exact ⟨f, e1⟩
    rw [List.length_map] at hl5
    have hp5 : ∀ (j : Nat) f ln, fs[j]? = some f → ls[j]? = some ln → La1 H5 f ln := fun j f ln h1 h2 => by
      obtain ⟨f', ln', e1, e2, e3⟩ := hp5 j (.ref f) (by rw [List.getElem?_map, h1]; rfl)
      cases e1
      rw [h2] at e2
      cases e2
      exact e3
    intro sq dq nsq ndq nq
    have s6 : Same H5 (L2.upd (L2.upd H5 dq (.own sq)) sq (.ins Cs dq [])) := Same.upd (Same.new ndq) (by rw [upd_ne nq.symm]; exact nsq)
    refine ⟨sq, dq, p, D, fs, rfl, upd_same, s6 _ _ eD5, (by rw [hl5, nu4.1]; omega), fun lr H6 b6 nlr esq elr => ⟨rfl, ?_⟩⟩
    have s56 : Same H5 H6 := fun c o e => b6 c o (ne_of_none e nsq) (s6 c o e)
    have nlr5 : H5 lr = none := s6.free nlr
    have d5 := d4.ext x5
    have nll : lr ≠ l := ne_of_none' d5 nlr5
    have b46 : BtN l H4 H6 := (BtN.ext x5).trans (BtN.same s56)
    have d6 := d5.same s56 (Nat.le_refl _)
    have tb6 := tb5.ext s56
    have esm6 := b46 _ _ nsl esm4 (by intro ps z; cases z)
    have nu6 := nu4.btn b46
    have hp6 : ∀ (j : Nat) f ln, fs[j]? = some f → ls[j]? = some ln → La1 H6 f ln := fun j f ln h1 h2 => (hp5 j f ln h1 h2).keep fun h => s56 _ _ h
    have cl6 := cl4.btn b46 d4
    have b06 := b04.trans b46
    clear b6 s6 nlr x5 hp5 eD5 nD tb5 b46 cl4 nu4 esm4 tb4 b04 tb3 tb2 d5 d4
    -- the other rules
    refine ⟨_, rfl, sm, rfl, ⟨_, SqL.of esm6⟩, fun D2 nD2 => ?_⟩
    refine lc_allT (T := T) (walk_list (K := K) (a := sm) (xs := ls.map V.ref)) yAt_same nD2 tb6 (by rw [List.length_map, nu6.1]; exact Nat.lt_of_le_of_lt lss (by decide)) (fun j v H' => ∃ f ln ns, v = .ref f ∧ ls[j]? = some ln ∧ nss[j]? = some ns ∧ La2 H' f ln ns)
      (fun j v Ha Hb e ⟨f, ln, ns, e1, e2, e3, e4⟩ => ⟨f, ln, ns, e1, e2, e3, e4.keep fun h => e _ _ h (by intro ps z; cases z)⟩) (fun j v Ha acc acc' hacc ⟨f, ln, ns, e1, e2, e3, e4⟩ => ⟨f, ln, ns, e1, e2, e3, e4.keep fun h => (upd_ne (ne_of h hacc (by intro z; cases z))).trans h⟩) (fun H' e => SqL.of (e _ _ esm6 (by intro ps z; cases z))) ?_ ?_
    · rintro i x Ha Hb R hi ea ta ⟨rfl, hx⟩ k1
      rw [List.length_map] at hi
      rw [List.getElem?_map, List.getElem?_eq_getElem hi] at hx
      cases hx
      have hln := List.getElem?_eq_getElem hi
      have hns := List.getElem?_eq_getElem (show i < nss.length by rw [← nu6.1]; exact hi)
      generalize ls[i] = ln at *
      generalize nss[i]'(by rw [← nu6.1]; exact hi) = ns at *
      have eln := ea _ _ (nu6.2 i ln ns hln hns).1 (by intro ps z; cases z)
      refine ⟨rfl, ?_⟩
      exact ⟨_, rfl, .ref ln, .int ((ns.map V.int).length : Nat), rfl, ⟨ln, ns, rfl, eln, rfl⟩, hT ▸ ta, fun f c' c1 c2 H' ex' fr' tb' nf n1 n2 n12 e1 e2 e3 e4 => k1 _ H' ex' (hT ▸ tb') ⟨f, ln, ns, rfl, hln, hns, c1, c2, c', n12, e1, e2, e3, e4⟩⟩
    intro us2 H7 hl7 eD7 x7 tb7 hp7
    rw [List.length_map] at hl7
    obtain ⟨fs2, rfl⟩ := refs_of fun j v hv => by
      obtain ⟨f, _, _, e1, _⟩ := hp7 j v hv
      exact ⟨f, e1⟩
    rw [List.length_map] at hl7
    have hp7 : ∀ (j : Nat) f ln ns, fs2[j]? = some f → ls[j]? = some ln → nss[j]? = some ns → La2 H7 f ln ns := fun j f ln ns h1 h2 h3 => by
      obtain ⟨f', ln', ns', e1, e2, e3, e4⟩ := hp7 j (.ref f) (by rw [List.getElem?_map, h1]; rfl)
      cases e1
      rw [h2] at e2
      cases e2
      rw [h3] at e3
      cases e3
      exact e4
    refine ⟨_, rfl, _, rfl, rfl, rfl, fun sq2 dq2 nsq2 ndq2 nq2 => ?_⟩
    have s8 : Same H7 (L2.upd (L2.upd H7 dq2 (.own sq2)) sq2 (.ins Cs dq2 [])) := Same.upd (Same.new ndq2) (by rw [upd_ne nq2.symm]; exact nsq2)
    refine ⟨sq2, dq2, p, D2, fs2, rfl, upd_same, s8 _ _ eD7, (by rw [hl7, nu6.1]; omega), fun lr2 H8 b8 nlr2 esq2 elr2 => ⟨rfl, ?_⟩⟩
    have s78 : Same H7 H8 := fun c o e => b8 c o (ne_of_none e nsq2) (s8 c o e)
    have nlr7 : H7 lr2 = none := s8.free nlr2
    have d7 := d6.ext x7
    have nll2 : lr2 ≠ l := ne_of_none' d7 nlr7
    have b68 : BtN l H6 H8 := (BtN.ext x7).trans (BtN.same s78)
    have d8 := d7.same s78 (Nat.le_refl _)
    have tb8 := tb7.ext s78
    have hp8 : ∀ (j : Nat) f ln ns, fs2[j]? = some f → ls[j]? = some ln → nss[j]? = some ns → La2 H8 f ln ns := fun j f ln ns h1 h2 h3 => (hp7 j f ln ns h1 h2 h3).keep fun h => s78 _ _ h
    have b08 := b06.trans b68
    clear b8 s8 nlr2 hp7 eD7 nD2 tb7 tb6 d7 b06
    -- the days
    refine ⟨4, rfl, by decide, by decide, fun D3 nD3 => ?_⟩
    have nD3l := ne_of_none' d8 nD3
    refine lc_it (walk_range (lo := 0) (n := 4)) (fun i Hx => ∃ ds : List Int, Hx D3 = some (.lst (ds.map V.int)) ∧ ds.length = i ∧ But l H8 Hx ∧ Dr Hx l (17 + i) ∧ ∀ x ∈ ds, Sz 64 x) ⟨[], upd_same, rfl, (But.refl (H := H8)).putN nD3, (d8.put nD3l).mono (by decide), fun x h => by cases h⟩ (fun i Hx _ _ => trivial) ?_ ?_
    · rintro i x Ha Hb hi ⟨ds, ea, la, ba, da, za⟩ ⟨rfl, rfl⟩
      refine ⟨rfl, ?_⟩
      refine ⟨_, rfl, l, _, rfl, da, by omega, fun v Hc zv bc dc => ?_⟩
      have ec := bc _ _ nD3l ea
      refine ⟨_, ec, ?_, ds ++ [v], ?_, by rw [List.length_append, la]; rfl, (ba.trans bc).putN nD3, ((dc.put nD3l).mono (by omega)), fun x hx => ?_⟩
      · rw [List.length_map, la]
        exact Nat.lt_of_lt_of_le (show i < 10 by omega) (by decide)
      · rw [upd_same, List.map_append]
        rfl
      · rcases List.mem_append.mp hx with h | h
        · exact za x h
        · rw [List.mem_singleton.mp h]
          exact zv
    rintro H9 ⟨ds, eD9, ld, b89, d9, zds⟩
    match ds, ld with
    | [a0, a1, a2, a3], _ =>
    have z0 := zds a0 (by simp)
    have z1 := zds a1 (by simp)
    have b69 : BtN l H6 H9 := b68.trans (BtN.but b89)
    have b09 := b08.trans (BtN.but b89)
    have tb9 := tabs_but tb8 b89 d8
    have fin : ∀ H', Same H9 H' → Q (.bl true) H' := fun H' s' => q H' (b09.trans (BtN.same s')) (hT ▸ tb9.ext s')
    have rgs : Rg (nss.map puN) := ⟨by rw [List.length_map]; exact lss, fun g' hg d => by
      obtain ⟨ns, hns, rfl⟩ := List.mem_map.mp hg
      exact puN_rg (rg ns hns) d⟩
    have cl9 := cl6.btn b69 d6
    have nu9 := nu6.btn b69
    have gat : ∀ {j : Nat} {g' : Int → Int}, (nss.map puN)[j]? = some g' → ∃ ns ln, nss[j]? = some ns ∧ ls[j]? = some ln ∧ g' = puN ns := fun {j g'} hg => by
      rw [List.getElem?_map] at hg
      cases hn : nss[j]? with
      | none => rw [hn] at hg; cases hg
      | some ns =>
        rw [hn] at hg
        cases hg
        exact ⟨ns, _, rfl, List.getElem?_eq_getElem (show j < ls.length by rw [nu9.1]; exact (List.getElem?_eq_some_iff.mp hn).1), rfl⟩
    have sf1 : Sf P w K mg base 2 C Cc Cs H9 sq p m y o k fs (nss.map puN) := by
      refine ⟨⟨dq, lr, b69.in d6 esq, b69 _ _ nll elr (by intro ps z; cases z)⟩, cl9, g, by rw [List.length_map, hl5, nu9.1], by rw [List.length_map]; omega, fun j f g' hf hg => ?_⟩
      obtain ⟨ns, ln, hn, hln, rfl⟩ := gat hg
      obtain ⟨e1, e2, _, _⟩ := nu9.2 j ln ns hln hn
      obtain ⟨cc, c', h1, h2, h3⟩ := (hp6 j f ln hf hln).keep (b69.ex d6)
      exact rl_lam g_len e2 h1 h2 h3 e1
    have sf2 : Sf P w K mg base 2 C Cc Cs H9 sq2 p m y o k fs2 (nss.map puN) := by
      refine ⟨⟨dq2, lr2, (BtN.but b89).in d8 esq2, (BtN.but b89) _ _ nll2 elr2 (by intro ps z; cases z)⟩, cl9, g, by rw [List.length_map, hl7, nu9.1], by rw [List.length_map]; omega, fun j f g' hf hg => ?_⟩
      obtain ⟨ns, ln, hn, hln, rfl⟩ := gat hg
      obtain ⟨e1, e2, _, _⟩ := nu9.2 j ln ns hln hn
      obtain ⟨c1, c2, c', n12, h1, h2, h3, h4⟩ := (hp8 j f ln ns hf hln hn).keep ((BtN.but b89).ex d8)
      exact rl_lam2 n12 e2 h1 h2 h4 h3 e1
    have esq9 := b69.in d6 esq
    have esq29 := (BtN.but b89).in d8 esq2
    generalize nss.map puN = gs at *
    clear esq esq2 elr elr2 hp6 hp8 nu6 nu9 b69 b68 b08 b09 b89 tb8 tb9 gat cl6 d8 d9 d6 x7 s78 s56 esm6
    have rg := rgs
    have zN : Sz 78 (yaF m y o k gs a0) := g.zya (z0.mono (by decide)) (by decide)
    obtain ⟨i1, i2⟩ := ya_in (o := o) (k := k) g.fit rg a0
    refine ⟨_, rfl, sq, dq, _, rfl, esq9, sf_no _ _ (by decide +kernel) (by decide +kernel), _, rfl, D3, _, _, .int a0, rfl, rfl, SqL.of eD9, rfl, sq, p, a0, m, y, o, k, fs, gs, rfl, sf1, rg, z0.mono (by decide), fun H10 s10 => ?_⟩
    generalize yaF m y o k gs a0 = N at *
    refine ⟨_, rfl, sq, dq, _, rfl, s10 _ _ esq9, sf_no _ _ (by decide +kernel) (by decide +kernel), _, rfl, sq, p, N, m, y, o, k, fs, gs, rfl, sf1.same s10, zN.mono (by decide), fun H11 s11 => ?_⟩
    have hF : putG gs (fdF m y o k N) = nwF m y o k gs N := rfl
    rw [hF]
    have zf : Sz 580 (fdF m y o k N) := g.zfd zN (by decide) (by decide)
    have n0 := nw_in (m := m) (y := y) (o := o) (k := k) rg N
    have zF : Sz 590 (nwF m y o k gs N) := by
      have := Sz.add zf (show Sz 580 (nwF m y o k gs N - fdF m y o k N) from Nat.lt_of_lt_of_le (show (nwF m y o k gs N - fdF m y o k N).natAbs < 2 ^ 4 by omega) (Nat.pow_le_pow_right (by decide) (by decide))) (by decide : 580 < 590)
      rw [show fdF m y o k N + (nwF m y o k gs N - fdF m y o k N) = nwF m y o k gs N by omega] at this
      exact this
    have u0 := nw_up (o := o) (k := k) g.fit rg (N - 1)
    rw [show N - 1 + 1 = N by omega] at u0
    have u1 := nw_up (o := o) (k := k) g.fit rg N
    have ya1 : yaF m y o k gs (nwF m y o k gs N) = N := ya_one g.fit rg (Int.le_refl _) u1
    have ya2 : yaF m y o k gs (nwF m y o k gs N - 1) = N - 1 := ya_one g.fit rg (by omega) (by rw [show N - 1 + 1 = N by omega]; omega)
    have eN1 : putG gs (fdF m y o k (N + 1)) = nwF m y o k gs (N + 1) := rfl
    have eLn : lnG m y o k gs N = nwF m y o k gs (N + 1) - nwF m y o k gs N := rfl
    generalize nwF m y o k gs N = F at *
    have s911 := s10.trans s11
    refine ⟨_, rfl, sq, dq, _, rfl, s911 _ _ esq9, sf_no _ _ (by decide +kernel) (by decide +kernel), _, rfl, sq, p, F, m, y, o, k, fs, gs, rfl, sf1.same s911, rg, zF.mono (by decide), fun H12 s12 => ⟨_, rfl, rfl, _, rfl, no' (ne_dec ya1) ?_⟩⟩
    have s912 := s911.trans s12
    have zF1 : Sz 591 (F - 1) := Sz.sub zF (szi 1 (Nat.one_lt_two_pow (by decide))) (by decide)
    refine ⟨_, rfl, sq, dq, _, rfl, s912 _ _ esq9, sf_no _ _ (by decide +kernel) (by decide +kernel), _, rfl, _, _, rfl, rfl, sq, p, F - 1, m, y, o, k, fs, gs, rfl, sf1.same s912, rg, zF1.mono (by decide), fun H13 s13 => ⟨_, rfl, _, _, rfl, rfl, rfl, _, rfl, no' (ne_dec ya2) ?_⟩⟩
    have s913 := s912.trans s13
    refine ⟨_, rfl, sq, dq, _, rfl, s913 _ _ esq9, sf_no _ _ (by decide +kernel) (by decide +kernel), _, rfl, sq, p, N, m, y, o, k, fs, gs, rfl, sf1.same s913, zN.mono (by decide), fun H14 s14 => ?_⟩
    rw [eLn]
    have s914 := s913.trans s14
    have zN1 : Sz 79 (N + 1) := Sz.add zN (szi 1 (Nat.one_lt_two_pow (by decide))) (by decide)
    refine ⟨_, rfl, _, _, rfl, rfl, _, rfl, no' (decide_eq_false (by omega)) ?_⟩
    refine ⟨_, rfl, sq, dq, _, rfl, s914 _ _ esq9, sf_no _ _ (by decide +kernel) (by decide +kernel), _, rfl, _, _, rfl, rfl, sq, p, N + 1, m, y, o, k, fs, gs, rfl, sf1.same s914, zN1.mono (by decide), fun H15 s15 => ⟨_, rfl, _, rfl, _, _, rfl, rfl, rfl, _, rfl, no' (ne_dec (by rw [eN1]; omega)) ?_⟩⟩
    have s915 := s914.trans s15
    have eD15 := s915 _ _ eD9
    refine ⟨_, rfl, _, rfl, _, _, rfl, fun D4 nD4 => ?_⟩
    have e21 : ((11 : Int) - -10).toNat = 21 := by decide
    refine lc_ints (walk_range (lo := -10) (n := 21)) yFn_same nD4 (by decide) (fun j => F + (-10 + (j : Int))) (fun _ _ => trivial) ?_ ?_
    · rintro j x Ha Hb R hj sa ⟨rfl, rfl⟩ k1
      refine ⟨rfl, ?_⟩
      exact ⟨_, rfl, _, rfl, _, _, rfl, rfl, k1 _ (Same.refl _)⟩
    intro H16 eD16 s16
    have s916 := s915.trans s16
    refine ⟨D3, D4, _, _, rfl, rfl, s16 _ _ eD15, eD16, ?_, fun D5 nD5 => ?_⟩
    · rw [List.length_map, List.length_map, List.length_map, List.length_range]
      show 4 + 21 ≤ sizeLine
      decide
    have s17 := Same.new (o := .lst (([a0, a1, a2, a3] : List Int).map V.int ++ ((List.range 21).map (fun (j : Nat) => F + (-10 + (j : Int)))).map V.int)) nD5
    have eD17 := upd_same (H := H16) (a := D5) (o := .lst (([a0, a1, a2, a3] : List Int).map V.int ++ ((List.range 21).map (fun (j : Nat) => F + (-10 + (j : Int)))).map V.int))
    have s917 := s916.trans s17
    generalize L2.upd H16 D5 _ = H17 at *
    refine ⟨D5, rfl, ⟨_, SqL.of eD17⟩, for_list (K := K) (a := D5) (xs := ([a0, a1, a2, a3] : List Int).map V.int ++ ((List.range 21).map (fun (j : Nat) => F + (-10 + (j : Int)))).map V.int) (fun i σ Hx => ∃ (v11 v12 v13 : Option V), σ = [some (.ref l), some (.ref r), some (.ref sm), some (.ref p), some (.ref sq), some (.ref D2), some (.ref sq2), some (.ref D3), some (.int N), some (.int F), some (.int (nwF m y o k gs (N + 1) - F)), v11, v12, v13] ∧ Same H17 Hx) ⟨_, _, _, rfl, Same.refl _⟩ (fun i σ Hx _ ⟨_, _, _, _, e⟩ => SqL.of (e _ _ eD17)) ?_ ?_⟩
    · rintro i x σ Ha hx ⟨v11, v12, v13, rfl, sa⟩
      obtain ⟨b, rfl, zb⟩ : ∃ b : Int, x = .int b ∧ Sz 600 b := by
        rcases List.mem_append.mp (List.mem_of_getElem? hx) with h | h
        · obtain ⟨z, hz, rfl⟩ := List.mem_map.mp h
          exact ⟨z, rfl, (zds z hz).mono (by decide)⟩
        · obtain ⟨z, hz, rfl⟩ := List.mem_map.mp h
          obtain ⟨j, hj, rfl⟩ := List.mem_map.mp hz
          have hj := List.mem_range.mp hj
          refine ⟨_, rfl, Sz.add (n := 590) zF ?_ (by decide)⟩
          exact Nat.lt_of_lt_of_le (show (-10 + (j : Int)).natAbs < 2 ^ 5 by omega) (Nat.pow_le_pow_right (by decide) (by decide))
      have s9a := s917.trans sa
      refine ⟨_, rfl, _, rfl, sq, p, b, m, y, o, k, fs, gs, rfl, sf1.same s9a, rg, zb.mono (by decide), fun Hb sb => ⟨_, rfl, no' rfl ?_⟩⟩
      have s9b := s9a.trans sb
      refine ⟨_, rfl, sq, dq, _, rfl, s9b _ _ esq9, sf_no _ _ (by decide +kernel) (by decide +kernel), _, rfl, sq, p, b, m, y, o, k, fs, gs, rfl, sf1.same s9b, rg, zb.mono (by decide), fun Hc sc => ?_⟩
      have s9c := s9b.trans sc
      refine ⟨_, rfl, sq2, dq2, _, rfl, s9c _ _ esq29, sf_no _ _ (by decide +kernel) (by decide +kernel), _, rfl, rfl, sq2, p, b, m, y, o, k, fs2, gs, rfl, sf2.same s9c, rg, zb.mono (by decide), fun Hd sd => ⟨rfl, _, rfl, no' (ne_dec rfl) ?_⟩⟩
      exact ⟨_, _, _, rfl, sa.trans (sb.trans (sc.trans sd))⟩
    rintro σ H18 ⟨v11, v12, v13, rfl, s18⟩
    have s918 := s917.trans s18
    exact ⟨_, rfl, _, rfl, D3, _, _, .int a1, rfl, rfl, SqL.of (s918 _ _ eD9), rfl, p, a1, m, y, o, k, rfl, cl9.same s918, g, z1.mono (by decide), fun H19 s19 => fin H19 (s918.trans s19)⟩
end
/-! ### the law, its makers' tables known -/
def spLaw47 (K : PySem.W.Frag) (P1 P2 : Addr) : Sp := fun vs H Q _ => ∃ (a : Addr) (ns : List Int), vs = [.ref a] ∧ SqL K H a (ns.map V.int) ∧ ns.length ≤ 63 ∧ LamX.Tabs (T47 P1 P2) H ∧ ∀ H', Q (.bl true) H'
section
variable {P : Program} {w : World} {K : PySem.W.Frag} {mg : Str → Option Value} {base : Heap} {P1 P2 : Addr}
theorem ok_law (D : Df K mg "law" s_law []) (f_l_draws : Ca P w K mg base CX0 1 "_law_draws" s_l_draws [] ["_law_cell"] spDraws) (f_l_right : Ca P w K mg base CX0 14 "_law_right" s_l_right [] ["_law_draws_here"] (spR47 P1 P2)) : Ca P w K mg base CX0 15 "law" s_law [] ["_law_script"] (spLaw47 K P1 P2) := by
  refine ca0 (k := 14) D c_law (fun vs H Q E h => ?_) fun f cdv A outer s H vs Q E hr h => ?_
  · obtain ⟨a, ns, rfl, _⟩ := h
    rfl
  · obtain ⟨a, ns, rfl, hS, hlen, tb, q⟩ := h
    refine ⟨_, (pss_cons (ps_for PassesOwn.never rfl (pi_list (pe_op op_cat (pe_slice sl_list (pv 0) po_none (po_some pe_int)) (pe_lst (pa_cons pe_int pa_nil)))) (pg_name (i := 1) c_law.nd rfl (.inl rfl)) (pss_one (ps_if (pt_not (pt_val (pe_ca f_l_right b_l_right hr (by decide) pass0 rfl (pa_cons (pe_ca f_l_draws b_l_draws hr (by decide) pass0 rfl (pa_cons (pv 1) pa_nil)) pa_nil)))) (pss_one (ps_ret pe_bl)) pss_nil)))
      (pss_one (ps_ret pe_bl))), ?_⟩
    refine ⟨_, rfl, _, rfl, a, _, rfl, hS, fun p1 n1 => ?_⟩
    have s1 := Same.new (o := .lst (cutV (ns.map V.int) none (some 8))) n1
    refine ⟨(by show 1 ≤ sizeLine; decide), fun p2 n2 => ?_⟩
    have s2 := s1.trans (Same.new (o := .lst [.int 0]) n2)
    have ne12 : p1 ≠ p2 := ne_of_none upd_same n2
    refine ⟨p1, p2, _, _, rfl, rfl, (by rw [upd_ne ne12]; exact upd_same), upd_same, cut_len hlen, fun l3 n3 => ?_⟩
    have s3 := s2.trans (Same.new (o := .lst (cutV (ns.map V.int) none (some 8) ++ [V.int 0])) n3)
    have tb0 := tb.ext s3
    have hl3 := upd_same (H := L2.upd (L2.upd H p1 (.lst (cutV (ns.map V.int) none (some 8)))) p2 (.lst [.int 0])) (a := l3) (o := .lst (cutV (ns.map V.int) none (some 8) ++ [V.int 0]))
    generalize L2.upd _ l3 (.lst (cutV (ns.map V.int) none (some 8) ++ [V.int 0])) = H0 at *
    refine ⟨l3, rfl, ⟨_, SqL.of hl3⟩, for_list (K := K) (a := l3) (xs := cutV (ns.map V.int) none (some 8) ++ [V.int 0]) (fun i σ H' => ∃ v1 : Option V, σ = [some (.ref a), v1] ∧ H' l3 = some (.lst (cutV (ns.map V.int) none (some 8) ++ [V.int 0])) ∧ LamX.Tabs (T47 P1 P2) H')
      ⟨_, rfl, hl3, tb0⟩ (fun i σ H' _ ⟨_, _, e, _⟩ => SqL.of e) ?_ (fun σ H' ⟨_, e, _⟩ => by subst e; exact q H')⟩
    rintro i x σ H1 hi ⟨v1, rfl, e3, tb1⟩
    obtain ⟨c, rfl⟩ := cut_ints hi
    refine ⟨_, rfl, c, rfl, fun l H2 nl s2 d2 => ?_⟩
    have nel : l3 ≠ l := ne_of_none e3 nl
    exact ⟨l, rfl, d2, tb1.ext s2, fun H3 b3 tb3 => ⟨_, rfl, no' rfl ⟨_, rfl, b3 _ _ nel (s2 _ _ e3) (by intro ps z; cases z), tb3⟩⟩⟩
end
theorem df_mkD {K : PySem.W.Frag} {h : Heap} {mg : Str → Option Value} {x : Str} {st : Stmt} {f T : Addr} {oc kV doc pm cdv ct : Value} {od an : Option Addr} {osl : Array (Option Value)} {nT : Nat} {its : List Value} {dvs : List V} (X : K.In h) (G : h.Ns mainGlobals mg) (a : PySem.W.nsIn K mainGlobals x = some (some (.ref f)))
    (l : K.lookup f = some ⟨oc, od, .func (PySem.W.fnOf x x (defArgs st) (defBody st) (defScope st) (.ref T) kV doc pm an cdv ct), osl⟩) (c : PySem.W.codeIn K cdv x = true) (k : PySem.W.keepIn K (.ref f) = true) {oT : Obj} (lT : K.lookup T = some oT) (eT : oT.data = .seq its.toArray nT) (r : Vals dvs its) (ne : dvs ≠ []) : Df K mg x st dvs :=
  ⟨f, _, ⟨⟨oc, od, .ref T, kV, doc, pm, an, cdv, ct, osl, rfl, l, c, .inr ⟨ne, T, _, its, nT, rfl, lT, eT, r⟩, .inl rfl⟩, k⟩, PySem.W.mg_of X G a⟩
/-! ### the end with tables -/
def spLawC (K : PySem.W.Frag) (cs : List (Addr × Addr)) : Sp := fun vs H Q _ => ∃ (a : Addr) (ns : List Int), vs = [.ref a] ∧ SqL K H a (ns.map V.int) ∧ ns.length ≤ 63 ∧ (∀ p ∈ cs, H p.2 = some (.tbl #[])) ∧ ∀ H', Q (.bl true) H'
theorem ca_sub {P : Program} {w : World} {K : PySem.W.Frag} {mg : Str → Option Value} {base : Heap} {CX : CXT} {k : Nat} {x : Str} {st : Stmt} {dvs : List V} {ps : List Str} {sp sp' : Sp} (c : Ca P w K mg base CX k x st dvs ps sp) (h : ∀ vs H Q E, sp' vs H Q E → sp vs H Q E) : Ca P w K mg base CX k x st dvs ps sp' := by
  obtain ⟨f, fd, F, hm, G⟩ := c.ex
  exact ⟨f, fd, F, hm, ⟨fun vs H Q E z => G.len vs H Q E (h _ _ _ _ z), fun A outer s H args us vs Q E hr e0 hb r hsp => G.run A outer s H args us vs Q E hr e0 hb r (h _ _ _ _ hsp)⟩⟩
theorem tab_mk {K : PySem.W.Frag} {x : Str} {f c P : Addr} {o1 o4 : Value} {od od' : Option Addr} {fd : FuncData} {osl osl' : Array (Option Value)} {vs : Array Value} (a : PySem.W.nsIn K mainGlobals x = some (some (.ref f))) (l : K.lookup f = some ⟨o1, od, .func fd, osl⟩) (e : fd.code = .ref c)
    (lc : K.lookup c = some ⟨o4, od', .fields vs, osl'⟩) (v : vs[11]? = some (.ref P)) : PySem.W.tabIn K x = some (c, P) := by
  unfold PySem.W.tabIn
  simp only [a, l, e, lc, v]
theorem walkT {l : PySem.W.OpenLaw} {q : Program} {loose : List Str} {XP : (Str → Option Value) → Heap → Prop} {YP : World → Heap → Prop} {d : DefRec} {K : Params → PySem.W.Frag} (xs : List Str) (hn : l.most = some 63) (hdf : d.params.defaults = [])
    (hfd : ∀ y ∈ xs, ((recsOf q).find? fun e => e.name == y).isSome = true)
    (hY : ∀ (w : World) (h : Heap), YP w h → (K w.params).In h)
    (F : ∀ (w : World) (mg : Str → Option Value) (fa : Addr) (h : Heap), (K w.params).In h → h.Ns mainGlobals mg → mg d.name = some (.ref fa) →
      ∃ (cs : List (Addr × Addr)) (fd : FuncData), (∀ p ∈ cs, (∃ y ∈ xs, PySem.W.tabIn (K w.params) y = some p) ∧ (K w.params).lookup p.2 = none) ∧ (∀ (s : Shared) (u : Value), BindsTo s fd ⟨[u], []⟩ [("_law_script", u)]) ∧
        ∀ base : Heap, (K w.params).In base → base.Ns mainGlobals mg → (∀ p ∈ cs, LamX.TabB base mg p.1 p.2) → FnOk l.prog w (K w.params) mg base CX0 15 fa fd ["_law_script"] (spLawC (K w.params) cs)) :
    PySem.W.WalkO q loose XP YP l.row.toRowW d [] (fun f vs => PySem.call f vs) :=
  walk_T (sp := fun w cs => spLawC (K w.params) cs) xs hn hdf ⟨rfl, by decide, by decide⟩ hfd hY F fun _ _ _ a ns hl ht hS => ⟨a, ns, rfl, hS, hl, ht, fun _ => rfl⟩
theorem lk_none {K : PySem.W.Frag} (as : List Addr) {P : Addr} (e : K.map (fun x => x.1) = as) (h : as.contains P = false) : K.lookup P = none := by
  subst e
  induction K with
  | nil => rfl
  | cons x K ih =>
    rw [List.map_cons, List.contains_cons, Bool.or_eq_false_iff] at h
    rw [List.lookup_cons]
    rw [h.1]
    exact ih h.2
/-! ### what the top has written -/
theorem fin {P : Program} {w : World} {K : PySem.W.Frag} {mg : Str → Option Value} {fa C Cc Cd Cs c1 P1 c2 P2 : Addr} (hfa : mg "law" = some (.ref fa))
    (cl : Cls K C) (nT : PySem.W.findIn K (.ref C) "top" = some none) (nB : PySem.W.findIn K (.ref C) "bottom" = some none) (ha : PySem.W.findIn K (.ref C) "__class__" = some (some (.builtin "object.__class__")))
    (hn : PySem.W.specialIn K (.builtin "object.__class__") "__get__" = some (some (.builtin "getset_descriptor.__get__"))) (htk : PySem.W.takesIn K (.builtin "object.__class__") = some true) (hm : PySem.W.mroIn K C (.type "object") = some true)
    (iC : PySem.W.isClsIn K C = true) (tC : PySem.W.typeIn K (.ref C) = some (.type "type")) (sI : PySem.W.subIn K (.type "int") (.ref C) = some false) (hC : mg "Share" = some (.ref C))
    (dShare : Di K mg "Share" C "Share.__init__" s_Share_init [.int 1])
    (clc : Cls K Cc) (n1 : PySem.W.findIn K (.ref Cc) "month" = some none) (n2 : PySem.W.findIn K (.ref Cc) "year" = some none) (n3 : PySem.W.findIn K (.ref Cc) "moon" = some none) (n4 : PySem.W.findIn K (.ref Cc) "mark" = some none) (ne : Cc ≠ C) {uM : Value} (aM : mg "MARKS" = some uM) (rM : RelV (.int 12) uM)
    (dCal : Di K mg "Calendar" Cc "Calendar.__init__" s_Calendar_init [.non, .non])
    (cld : Cls K Cd) (e1 : PySem.W.findIn K (.ref Cd) "year" = some none) (e2 : PySem.W.findIn K (.ref Cd) "number" = some none) (e3 : PySem.W.findIn K (.ref Cd) "day" = some none) (e4 : PySem.W.findIn K (.ref Cd) "odd" = some none)
    (had : PySem.W.findIn K (.ref Cd) "__class__" = some (some (.builtin "object.__class__"))) (hmd : PySem.W.mroIn K Cd (.type "object") = some true) (hDate : mg "Date" = some (.ref Cd))
    (dDate : Di K mg "Date" Cd "Date.__init__" s_Date_init [.bl false]) (dDateEq : Dm K Cd "__eq__" "Date.__eq__" s_Date_eq)
    (cls : Cls K Cs) (sh1 : PySem.W.findIn K (.ref Cs) "calendar" = some none) (sh2 : PySem.W.findIn K (.ref Cs) "rules" = some none)
    (dShifted : Di K mg "Shifted" Cs "Shifted.__init__" s_Shifted_init [])
    (d_start : Dm K Cc "start" "Calendar.start" s_Calendar_start)
    (d_month_at : Dm K Cc "month_at" "Calendar.month_at" s_Calendar_month_at)
    (d_mark_day : Dm K Cc "mark_day" "Calendar.mark_day" s_Calendar_mark_day)
    (d_month_with : Dm K Cc "month_with" "Calendar.month_with" s_Calendar_month_with)
    (d_mark_in : Dm K Cc "mark_in" "Calendar.mark_in" s_Calendar_mark_in)
    (d_name_of : Dm K Cc "name_of" "Calendar.name_of" s_Calendar_name_of)
    (dsNew : Dm K Cs "new_year" "Shifted.new_year" s_Shifted_new_year)
    (dsLen : Dm K Cs "length_of" "Shifted.length_of" s_Shifted_length_of)
    (dsAt : Dm K Cs "year_at" "Shifted.year_at" s_Shifted_year_at)
    (t1 : PySem.W.tabIn K "_law_rule" = some (c1, P1)) (u1 : K.lookup P1 = none) (mk1 : DfC K mg "_law_rule" s_l_rule c1)
    (t2 : PySem.W.tabIn K "_law_other_rule" = some (c2, P2)) (u2 : K.lookup P2 = none) (mk2 : DfC K mg "_law_other_rule" s_l_other_rule c2)
    (np12 : P1 ≠ P2)
    (g_abs : mg "abs" = none) (g_range : mg "range" = none) (g_isinstance : mg "isinstance" = none) (g_len : mg "len" = none) (g_list : mg "list" = none)
    (d_common_divisor : Df K mg "common_divisor" s_common_divisor []) (d_as_share : Df K mg "as_share" s_as_share []) (d_plus : Df K mg "plus" s_plus []) (d_minus : Df K mg "minus" s_minus []) (d_times : Df K mg "times" s_times []) (d_over : Df K mg "over" s_over []) (d_before : Df K mg "before" s_before []) (d_whole : Df K mg "whole" s_whole []) (d_rounded_up : Df K mg "rounded_up" s_rounded_up []) (d_refuse_unfit : Df K mg "refuse_unfit" s_refuse_unfit []) (d_moment_or_nought : Df K mg "moment_or_nought" s_moment_or_nought []) (d_twelfth : Df K mg "twelfth" s_twelfth []) (d_nth_day : Df K mg "nth_day" s_nth_day []) (d_first_from : Df K mg "first_from" s_first_from []) (d_plain_month : Df K mg "plain_month" s_plain_month []) (d_first_day : Df K mg "first_day" s_first_day []) (d_year_with : Df K mg "year_with" s_year_with []) (d_date_of : Df K mg "date_of" s_date_of []) (d_l_draws : Df K mg "_law_draws" s_l_draws []) (d_l_next : Df K mg "_law_next" s_l_next []) (d_l_low : Df K mg "_law_low" s_l_low []) (d_l_plus : Df K mg "_law_plus" s_l_plus []) (d_l_by : Df K mg "_law_by" s_l_by []) (d_l_part : Df K mg "_law_part" s_l_part []) (d_l_moment : Df K mg "_law_moment" s_l_moment []) (d_l_four : Df K mg "_law_four" s_l_four []) (d_l_made : Df K mg "_law_made" s_l_made []) (d_l_day : Df K mg "_law_day" s_l_day []) (d_l_putting : Df K mg "_law_putting" s_l_putting []) (d_l_numbers : Df K mg "_law_numbers" s_l_numbers []) (d_l_day_right : Df K mg "_law_day_right" s_l_day_right []) (d_l_plain_right : Df K mg "_law_plain_right" s_l_plain_right []) (d_l_right : Df K mg "_law_right" s_l_right []) (d_law : Df K mg "law" s_law []) :
    ∃ (cs : List (Addr × Addr)) (fd : FuncData), (∀ p ∈ cs, (∃ y ∈ (["_law_rule", "_law_other_rule"] : List Str), PySem.W.tabIn K y = some p) ∧ K.lookup p.2 = none) ∧ (∀ (s : Shared) (u : Value), BindsTo s fd ⟨[u], []⟩ [("_law_script", u)]) ∧
      ∀ base : Heap, K.In base → base.Ns mainGlobals mg → (∀ p ∈ cs, LamX.TabB base mg p.1 p.2) → FnOk P w K mg base CX0 15 fa fd ["_law_script"] (spLawC K cs) := by
  have main : ∀ base : Heap, (∀ p ∈ [(c1, P1), (c2, P2)], LamX.TabB base mg p.1 p.2) → Ca P w K mg base CX0 15 "law" s_law [] ["_law_script"] (spLawC K [(c1, P1), (c2, P2)]) := fun base tb => ?_
  · obtain ⟨fd, hb, hF⟩ := fin_ofT hfa d_law b_law main
    refine ⟨_, fd, fun p hp => ?_, hb, hF⟩
    simp only [List.mem_cons, List.not_mem_nil, or_false] at hp
    rcases hp with rfl | rfl
    · exact ⟨⟨"_law_rule", by simp, t1⟩, u1⟩
    · exact ⟨⟨"_law_other_rule", by simp, t2⟩, u2⟩
  have T : ShX K C := ⟨⟨cl, nT, nB⟩, fun H a dx fs e => .base (.ins e cl ha hn htk hm), kit_no iC tC rfl sI⟩
  have marks : ∃ t, mg "MARKS" = some (.int 12 t) := by
    obtain ⟨t, e⟩ := rM
    exact ⟨t, by rw [aM, e]⟩
  have Tc : CaT K C Cc := ⟨clc, n1, n2, n3, n4, ne⟩
  have f1 := ok_gcd (P := P) (w := w) (base := base) d_common_divisor g_abs
  have f2 := ok_shI dShare T.toShT f1
  have f3 := ok_as d_as_share T g_isinstance hC f2
  have F : ShF P w K mg base C := { T := T, mkS := f2, asS := f3, plus := ok_plus d_plus T f3 f2, minus := ok_minus d_minus T f3 f2, times := ok_times d_times T f3 f2, over := ok_over d_over T f3 f2, before := ok_before d_before T f3, whole := ok_whole d_whole T f3, up := ok_rounded d_rounded_up T f3, marks := marks }
  have tw := ok_tw d_twelfth F
  have nth := ok_nth d_nth_day F
  have cal := ok_caI dCal Tc F (ok_unfit d_refuse_unfit F tw) (ok_moment d_moment_or_nought F)
  obtain ⟨tkM, hMk⟩ := id marks
  have lo := ok_low (P := P) (w := w) (base := base) d_l_low g_abs
  have nx := ok_next (P := P) (w := w) (base := base) d_l_next
  have dr := ok_draws (P := P) (w := w) (base := base) d_l_draws g_range
  have pl := ok_lplus d_l_plus lo
  have by' := ok_lby d_l_by lo
  have pt := ok_lpart d_l_part nx lo
  have mo := ok_lmom d_l_moment nx pt pl
  have fo := ok_lfour d_l_four nx pt pl by' mo
  have fr := ok_from d_first_from F
  have m1 := ok_start d_start Tc nth
  have m2 := ok_month_at d_month_at Tc fr
  have m3 := ok_mark_day d_mark_day Tc nth tw
  have m4 := ok_month_with d_month_with Tc m2 m3
  have m5 := ok_mark_in d_mark_in Tc fr tw m1 m3
  have m6 := ok_name d_name_of m5 hMk
  have pm := ok_plain d_plain_month m4 hMk
  have fd := ok_fd d_first_day m1 pm
  have yw := ok_yw d_year_with m2 m6
  have Td : DaT K Cd := ⟨cld, e1, e2, e3, e4, fun H a dx fs e => .base (.ins e cld had hn htk hmd)⟩
  have dI := ok_daI (P := P) (w := w) (base := base) dDate Td
  have dE := ok_daE (P := P) (w := w) (base := base) dDateEq Td g_isinstance hDate
  have da := ok_date_of d_date_of m2 m6 m1 dI
  have TS : SfT K Cs := ⟨cls, sh1, sh2⟩
  have tb1 : LamX.TabB base mg c1 P1 := tb (c1, P1) (by simp)
  have tb2 : LamX.TabB base mg c2 P2 := tb (c2, P2) (by simp)
  have sI := ok_sfI (P := P) (w := w) (base := base) dShifted TS g_list
  have nY := ok_ny46 (kk := 2) dsNew TS fd (by decide)
  have lO := ok_lo46 dsLen nY
  have yA := ok_ya47 dsAt TS yw nY
  have ma := ok_lmade2 d_l_made f2 cal
  have dy := ok_lday d_l_day nx
  have pu := ok_pu46 (P := P) (w := w) (base := base) d_l_putting
  have nu := ok_nus46 d_l_numbers nx g_range pu
  have ru := ok_rule47 (P := P) (w := w) (base := base) (T := T47 P1 P2) mk1 tb1 (by simp) (by
    intro p hp h
    simp only [List.mem_cons, List.not_mem_nil, or_false] at hp
    rcases hp with rfl | rfl
    · rfl
    · exact absurd h.symm np12)
  have r2 := ok_rule2 (P := P) (w := w) (base := base) (T := T47 P1 P2) mk2 g_len tb2 (by simp) (by
    intro p hp h
    simp only [List.mem_cons, List.not_mem_nil, or_false] at hp
    rcases hp with rfl | rfl
    · exact absurd h np12
    · rfl)
  have dr' := ok_dr47 d_l_day_right yA nY
  have pr := ok_pr47 d_l_plain_right da Td sI dI dE yA nY
  have rg := ok_right47 d_l_right fo nx ma g_range g_len nu ru r2 sI dy nY lO yA dr' pr
  refine ca_sub (ok_law d_law dr rg) fun vs H Q E hh => ?_
  obtain ⟨a, ns, e1, e2, e3, e4, e5⟩ := hh
  refine ⟨a, ns, e1, e2, e3, fun p hp => ?_, e5⟩
  simp only [List.mem_cons, List.not_mem_nil, or_false] at hp
  rcases hp with rfl | rfl
  · exact tabs_nil (e4 (c1, P1) (by simp))
  · exact tabs_nil (e4 (c2, P2) (by simp))
end MM
open PySem PySem.W PyProof.Rows in
set_option maxRecDepth 100000 in
set_option maxHeartbeats 0 in
theorem PySem.Challenge.cw_meanmoon_k47_whole_years_between_new_yea_holds : PySem.Challenge.rw_meanmoon_k47_whole_years_between_new_yea.Holds := by
  w_on; o_law; k_head; (case hw => w_witness2)
  k_fill
  refine MM.walkT (l := PySem.Challenge.rw_meanmoon_k47_whole_years_between_new_yea) ["_law_rule", "_law_other_rule"] rfl rfl ?hfd (fun w h Y => PySem.W.km_in_of Y) ?F
  case hfd => decide +kernel
  case F =>
    intro w mg fa h KX G hmg
    refine' MM.fin hmg
      ⟨?pg, ?hd, ?po, ?sa⟩ ?nT ?nB ?ha ?hn ?htk ?hm ?iC ?tC ?sI (PySem.W.mg_of KX G ?aC)
      (MM.di_mk (its := [_]) (PySem.W.mg_of KX G ?aC) ?s1 ?s2 ?s3 ?s4 ?s5 ?s6 ?s7 ?s8 ?s9 ?s0 (by decide))
      ⟨?pgc, ?hdc, ?poc, ?sac⟩ ?n1 ?n2 ?n3 ?n4 ?ne (PySem.W.mg_of KX G ?aM) ?rM
      (MM.di_mk (its := [_, _]) (PySem.W.mg_of KX G ?aD) ?c1 ?c2 ?c3 ?c4 ?c5 ?c6 ?c7 ?c8 ?c9 (.cons rfl (.cons rfl .nil)) (by decide))
      ⟨?pgd, ?hdd, ?pod, ?sad⟩ ?dy1 ?dy2 ?dy3 ?dy4 ?had ?hmd (PySem.W.mg_of KX G ?aE)
      (MM.di_mk (its := [_]) (PySem.W.mg_of KX G ?aE) ?t1 ?t2 ?t3 ?t4 ?t5 ?t6 ?t7 ?t8 ?t9 (.cons rfl .nil) (by decide))
      (MM.dm_mk ⟨?pgd, ?hdd, ?pod, ?sad⟩ ?aq ?iq ?lq ?cq ?kq)
      ⟨?pgs, ?hds, ?pos, ?sas⟩ ?sh1 ?sh2
      (MM.di_mk0 (PySem.W.mg_of KX G ?aS) ?v1 ?v2 ?v3 ?v4 ?v5 ?v6 ?v7)
      (MM.dm_mk ⟨?pgc, ?hdc, ?poc, ?sac⟩ ?md_starta ?md_starti ?md_startl ?md_startc ?md_startk)
      (MM.dm_mk ⟨?pgc, ?hdc, ?poc, ?sac⟩ ?md_month_ata ?md_month_ati ?md_month_atl ?md_month_atc ?md_month_atk)
      (MM.dm_mk ⟨?pgc, ?hdc, ?poc, ?sac⟩ ?md_mark_daya ?md_mark_dayi ?md_mark_dayl ?md_mark_dayc ?md_mark_dayk)
      (MM.dm_mk ⟨?pgc, ?hdc, ?poc, ?sac⟩ ?md_month_witha ?md_month_withi ?md_month_withl ?md_month_withc ?md_month_withk)
      (MM.dm_mk ⟨?pgc, ?hdc, ?poc, ?sac⟩ ?md_mark_ina ?md_mark_ini ?md_mark_inl ?md_mark_inc ?md_mark_ink)
      (MM.dm_mk ⟨?pgc, ?hdc, ?poc, ?sac⟩ ?md_name_ofa ?md_name_ofi ?md_name_ofl ?md_name_ofc ?md_name_ofk)
      (MM.dm_mk ⟨?pgs, ?hds, ?pos, ?sas⟩ ?mdsNewa ?mdsNewi ?mdsNewl ?mdsNewc ?mdsNewk)
      (MM.dm_mk ⟨?pgs, ?hds, ?pos, ?sas⟩ ?mdsLena ?mdsLeni ?mdsLenl ?mdsLenc ?mdsLenk)
      (MM.dm_mk ⟨?pgs, ?hds, ?pos, ?sas⟩ ?mdsAta ?mdsAti ?mdsAtl ?mdsAtc ?mdsAtk)
      (MM.tab_mk ?ma1 ?ml1 rfl ?mc1 ?mv1) ?mu1 (MM.df_mkC KX G ?ma1 ?ml1 ?mi1 ?mp1)
      (MM.tab_mk ?ma2 ?ml2 rfl ?mc2 ?mv2) ?mu2 (MM.df_mkC KX G ?ma2 ?ml2 ?mi2 ?mp2)
      ?np12
      (PySem.W.mg_none_of KX G ?z0)
      (PySem.W.mg_none_of KX G ?z1)
      (PySem.W.mg_none_of KX G ?z2)
      (PySem.W.mg_none_of KX G ?z3)
      (PySem.W.mg_none_of KX G ?z4)
      (MM.df_mk KX G ?a_common_divisor ?l_common_divisor ?c_common_divisor ?k_common_divisor)
      (MM.df_mk KX G ?a_as_share ?l_as_share ?c_as_share ?k_as_share)
      (MM.df_mk KX G ?a_plus ?l_plus ?c_plus ?k_plus)
      (MM.df_mk KX G ?a_minus ?l_minus ?c_minus ?k_minus)
      (MM.df_mk KX G ?a_times ?l_times ?c_times ?k_times)
      (MM.df_mk KX G ?a_over ?l_over ?c_over ?k_over)
      (MM.df_mk KX G ?a_before ?l_before ?c_before ?k_before)
      (MM.df_mk KX G ?a_whole ?l_whole ?c_whole ?k_whole)
      (MM.df_mk KX G ?a_rounded_up ?l_rounded_up ?c_rounded_up ?k_rounded_up)
      (MM.df_mk KX G ?a_refuse_unfit ?l_refuse_unfit ?c_refuse_unfit ?k_refuse_unfit)
      (MM.df_mk KX G ?a_moment_or_nought ?l_moment_or_nought ?c_moment_or_nought ?k_moment_or_nought)
      (MM.df_mk KX G ?a_twelfth ?l_twelfth ?c_twelfth ?k_twelfth)
      (MM.df_mk KX G ?a_nth_day ?l_nth_day ?c_nth_day ?k_nth_day)
      (MM.df_mk KX G ?a_first_from ?l_first_from ?c_first_from ?k_first_from)
      (MM.df_mk KX G ?a_plain_month ?l_plain_month ?c_plain_month ?k_plain_month)
      (MM.df_mk KX G ?a_first_day ?l_first_day ?c_first_day ?k_first_day)
      (MM.df_mk KX G ?a_year_with ?l_year_with ?c_year_with ?k_year_with)
      (MM.df_mk KX G ?a_date_of ?l_date_of ?c_date_of ?k_date_of)
      (MM.df_mk KX G ?a_l_draws ?l_l_draws ?c_l_draws ?k_l_draws)
      (MM.df_mk KX G ?a_l_next ?l_l_next ?c_l_next ?k_l_next)
      (MM.df_mk KX G ?a_l_low ?l_l_low ?c_l_low ?k_l_low)
      (MM.df_mk KX G ?a_l_plus ?l_l_plus ?c_l_plus ?k_l_plus)
      (MM.df_mk KX G ?a_l_by ?l_l_by ?c_l_by ?k_l_by)
      (MM.df_mk KX G ?a_l_part ?l_l_part ?c_l_part ?k_l_part)
      (MM.df_mk KX G ?a_l_moment ?l_l_moment ?c_l_moment ?k_l_moment)
      (MM.df_mk KX G ?a_l_four ?l_l_four ?c_l_four ?k_l_four)
      (MM.df_mk KX G ?a_l_made ?l_l_made ?c_l_made ?k_l_made)
      (MM.df_mk KX G ?a_l_day ?l_l_day ?c_l_day ?k_l_day)
      (MM.df_mk KX G ?a_l_putting ?l_l_putting ?c_l_putting ?k_l_putting)
      (MM.df_mk KX G ?a_l_numbers ?l_l_numbers ?c_l_numbers ?k_l_numbers)
      (MM.df_mk KX G ?a_l_day_right ?l_l_day_right ?c_l_day_right ?k_l_day_right)
      (MM.df_mk KX G ?a_l_plain_right ?l_l_plain_right ?c_l_plain_right ?k_l_plain_right)
      (MM.df_mk KX G ?a_l_right ?l_l_right ?c_l_right ?k_l_right)
      (MM.df_mk KX G ?a_law ?l_law ?c_law ?k_law)
    (case aC => k_is)
    (case pg => k_is)
    (case hd => k_is)
    (case po => k_is)
    (case sa => k_is)
    (case nT => k_is)
    (case nB => k_is)
    (case ha => k_is)
    (case hn => k_is)
    (case htk => k_is)
    (case hm => k_is)
    (case iC => k_is)
    (case tC => k_is)
    (case sI => k_is)
    (case s1 => k_is)
    (case s2 => k_is)
    (case s3 => k_is)
    (case s4 => k_is)
    (case s5 => k_is)
    (case s6 => k_is)
    (case s7 => k_is)
    (case s8 => k_is)
    (case aD => k_is)
    (case pgc => k_is)
    (case hdc => k_is)
    (case poc => k_is)
    (case sac => k_is)
    (case n1 => k_is)
    (case n2 => k_is)
    (case n3 => k_is)
    (case n4 => k_is)
    (case aM => k_is)
    (case c1 => k_is)
    (case c2 => k_is)
    (case c3 => k_is)
    (case c4 => k_is)
    (case c5 => k_is)
    (case c6 => k_is)
    (case c7 => k_is)
    (case c8 => k_is)
    (case aE => k_is)
    (case pgd => k_is)
    (case hdd => k_is)
    (case pod => k_is)
    (case sad => k_is)
    (case dy1 => k_is)
    (case dy2 => k_is)
    (case dy3 => k_is)
    (case dy4 => k_is)
    (case had => k_is)
    (case hmd => k_is)
    (case t1 => k_is)
    (case t2 => k_is)
    (case t3 => k_is)
    (case t4 => k_is)
    (case t5 => k_is)
    (case t6 => k_is)
    (case t7 => k_is)
    (case t8 => k_is)
    (case aq => k_is)
    (case iq => k_is)
    (case lq => k_is)
    (case cq => k_is)
    (case kq => k_is)
    (case aS => k_is)
    (case pgs => k_is)
    (case hds => k_is)
    (case pos => k_is)
    (case sas => k_is)
    (case sh1 => k_is)
    (case sh2 => k_is)
    (case v1 => k_is)
    (case v2 => k_is)
    (case v3 => k_is)
    (case v4 => k_is)
    (case v5 => k_is)
    (case v6 => k_is)
    (case v7 => k_is)
    (case md_starta => k_is)
    (case md_starti => k_is)
    (case md_startl => k_is)
    (case md_startc => k_is)
    (case md_startk => k_is)
    (case md_month_ata => k_is)
    (case md_month_ati => k_is)
    (case md_month_atl => k_is)
    (case md_month_atc => k_is)
    (case md_month_atk => k_is)
    (case md_mark_daya => k_is)
    (case md_mark_dayi => k_is)
    (case md_mark_dayl => k_is)
    (case md_mark_dayc => k_is)
    (case md_mark_dayk => k_is)
    (case md_month_witha => k_is)
    (case md_month_withi => k_is)
    (case md_month_withl => k_is)
    (case md_month_withc => k_is)
    (case md_month_withk => k_is)
    (case md_mark_ina => k_is)
    (case md_mark_ini => k_is)
    (case md_mark_inl => k_is)
    (case md_mark_inc => k_is)
    (case md_mark_ink => k_is)
    (case md_name_ofa => k_is)
    (case md_name_ofi => k_is)
    (case md_name_ofl => k_is)
    (case md_name_ofc => k_is)
    (case md_name_ofk => k_is)
    (case mdsNewa => k_is)
    (case mdsNewi => k_is)
    (case mdsNewl => k_is)
    (case mdsNewc => k_is)
    (case mdsNewk => k_is)
    (case mdsLena => k_is)
    (case mdsLeni => k_is)
    (case mdsLenl => k_is)
    (case mdsLenc => k_is)
    (case mdsLenk => k_is)
    (case mdsAta => k_is)
    (case mdsAti => k_is)
    (case mdsAtl => k_is)
    (case mdsAtc => k_is)
    (case mdsAtk => k_is)
    (case ma1 => k_is)
    (case ml1 => k_is)
    (case mc1 => k_is)
    (case mi1 => k_is)
    (case mp1 => k_is)
    (case ma2 => k_is)
    (case ml2 => k_is)
    (case mc2 => k_is)
    (case mi2 => k_is)
    (case mp2 => k_is)
    (case z0 => k_is)
    (case z1 => k_is)
    (case z2 => k_is)
    (case z3 => k_is)
    (case z4 => k_is)
    (case a_common_divisor => k_is)
    (case l_common_divisor => k_is)
    (case c_common_divisor => k_is)
    (case k_common_divisor => k_is)
    (case a_as_share => k_is)
    (case l_as_share => k_is)
    (case c_as_share => k_is)
    (case k_as_share => k_is)
    (case a_plus => k_is)
    (case l_plus => k_is)
    (case c_plus => k_is)
    (case k_plus => k_is)
    (case a_minus => k_is)
    (case l_minus => k_is)
    (case c_minus => k_is)
    (case k_minus => k_is)
    (case a_times => k_is)
    (case l_times => k_is)
    (case c_times => k_is)
    (case k_times => k_is)
    (case a_over => k_is)
    (case l_over => k_is)
    (case c_over => k_is)
    (case k_over => k_is)
    (case a_before => k_is)
    (case l_before => k_is)
    (case c_before => k_is)
    (case k_before => k_is)
    (case a_whole => k_is)
    (case l_whole => k_is)
    (case c_whole => k_is)
    (case k_whole => k_is)
    (case a_rounded_up => k_is)
    (case l_rounded_up => k_is)
    (case c_rounded_up => k_is)
    (case k_rounded_up => k_is)
    (case a_refuse_unfit => k_is)
    (case l_refuse_unfit => k_is)
    (case c_refuse_unfit => k_is)
    (case k_refuse_unfit => k_is)
    (case a_moment_or_nought => k_is)
    (case l_moment_or_nought => k_is)
    (case c_moment_or_nought => k_is)
    (case k_moment_or_nought => k_is)
    (case a_twelfth => k_is)
    (case l_twelfth => k_is)
    (case c_twelfth => k_is)
    (case k_twelfth => k_is)
    (case a_nth_day => k_is)
    (case l_nth_day => k_is)
    (case c_nth_day => k_is)
    (case k_nth_day => k_is)
    (case a_first_from => k_is)
    (case l_first_from => k_is)
    (case c_first_from => k_is)
    (case k_first_from => k_is)
    (case a_plain_month => k_is)
    (case l_plain_month => k_is)
    (case c_plain_month => k_is)
    (case k_plain_month => k_is)
    (case a_first_day => k_is)
    (case l_first_day => k_is)
    (case c_first_day => k_is)
    (case k_first_day => k_is)
    (case a_year_with => k_is)
    (case l_year_with => k_is)
    (case c_year_with => k_is)
    (case k_year_with => k_is)
    (case a_date_of => k_is)
    (case l_date_of => k_is)
    (case c_date_of => k_is)
    (case k_date_of => k_is)
    (case a_l_draws => k_is)
    (case l_l_draws => k_is)
    (case c_l_draws => k_is)
    (case k_l_draws => k_is)
    (case a_l_next => k_is)
    (case l_l_next => k_is)
    (case c_l_next => k_is)
    (case k_l_next => k_is)
    (case a_l_low => k_is)
    (case l_l_low => k_is)
    (case c_l_low => k_is)
    (case k_l_low => k_is)
    (case a_l_plus => k_is)
    (case l_l_plus => k_is)
    (case c_l_plus => k_is)
    (case k_l_plus => k_is)
    (case a_l_by => k_is)
    (case l_l_by => k_is)
    (case c_l_by => k_is)
    (case k_l_by => k_is)
    (case a_l_part => k_is)
    (case l_l_part => k_is)
    (case c_l_part => k_is)
    (case k_l_part => k_is)
    (case a_l_moment => k_is)
    (case l_l_moment => k_is)
    (case c_l_moment => k_is)
    (case k_l_moment => k_is)
    (case a_l_four => k_is)
    (case l_l_four => k_is)
    (case c_l_four => k_is)
    (case k_l_four => k_is)
    (case a_l_made => k_is)
    (case l_l_made => k_is)
    (case c_l_made => k_is)
    (case k_l_made => k_is)
    (case a_l_day => k_is)
    (case l_l_day => k_is)
    (case c_l_day => k_is)
    (case k_l_day => k_is)
    (case a_l_putting => k_is)
    (case l_l_putting => k_is)
    (case c_l_putting => k_is)
    (case k_l_putting => k_is)
    (case a_l_numbers => k_is)
    (case l_l_numbers => k_is)
    (case c_l_numbers => k_is)
    (case k_l_numbers => k_is)
    (case a_l_day_right => k_is)
    (case l_l_day_right => k_is)
    (case c_l_day_right => k_is)
    (case k_l_day_right => k_is)
    (case a_l_plain_right => k_is)
    (case l_l_plain_right => k_is)
    (case c_l_plain_right => k_is)
    (case k_l_plain_right => k_is)
    (case a_l_right => k_is)
    (case l_l_right => k_is)
    (case c_l_right => k_is)
    (case k_l_right => k_is)
    (case a_law => k_is)
    (case l_law => k_is)
    (case c_law => k_is)
    (case k_law => k_is)
    (case s9 => rfl)
    (case s0 => exact .cons ⟨_, rfl⟩ .nil)
    (case ne => decide)
    (case rM => exact ⟨_, rfl⟩)
    (case c9 => rfl)
    (case t9 => rfl)
    (case mv1 => rfl)
    (case mu1 => first | rfl | exact MM.lk_none _ rfl (by decide +kernel))
    (case mv2 => rfl)
    (case mu2 => first | rfl | exact MM.lk_none _ rfl (by decide +kernel))
    (case np12 => decide)
#print axioms PySem.Challenge.cw_meanmoon_k47_whole_years_between_new_yea_holds
