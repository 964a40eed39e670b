import PyProof.Rows.All
import Wide.All
import OpenK.AllK
import Wide.FinOn
import PyProof.NoPylong
import HandS.ForMost
import HandS.Wide
import HandS.Defaults
import HandS.MakeKw
import HandS.MakeKwOnly
import HandS.Exc
import HandS.WordsExc
import HandS.IsInst
import HandS.FStr
import HandS.Style
import HandS.Codes
import HandS.NoneIn
import PyProof.LongRange
import KE.KTryMore
import KE.KIsAll
import HandS.ExcIs
import HandS.ExcField
import HandS.ExcInit
import KE.KCallOwn
import HandS.OwnEq
import HandS.MapJoin
import HandS.Rev
import HandS.RevTup
import HandS.Walk
import HandS.Zip
import PyProof.P3Eq
import PyProof.EqLayable
import PyProof.InstNe
import KE.KTupSum
import HandS.SortInts
import HandS.Deep
import HandS.StrMore
import HandS.Text
import OpenK.KOps
import PyProof.EqAt
import PyProof.EqKinds
import PyProof.FString2
import KE.KFmtOwn
import HandS.SortRule
import HandS.Conv
import PyProof.FactsLen
import PyProof.InstSpecial
import HandS.Nested
import HandS.EndTab
import HandS.Iter
import KE.DatumOrd
import PySem.Challenge.RW_meanmoon_k55_whole_alike_calendars_tell
set_option Elab.async false
set_option linter.all false
set_option maxRecDepth 100000
set_option maxHeartbeats 4000000
namespace MM
/-! fractions as Rat: the program's and the law's lowest terms are num and den -/
theorem gcd_fmod (a b : Int) : Int.gcd b (a.fmod b) = Int.gcd a b := by
  have h : a.fmod b = a - b * a.fdiv b := by have := Int.mul_fdiv_add_fmod a b; omega
  rw [h, Int.gcd_comm a b]
  rw [Int.sub_eq_add_neg, ← Int.mul_neg, Int.gcd_add_mul_left_right]
theorem gcd_emod' (a b : Int) : Int.gcd b (a % b) = Int.gcd a b := by
  have h : a % b = a - b * (a / b) := by have := Int.mul_ediv_add_emod a b; omega
  rw [h, Int.gcd_comm a b]
  rw [Int.sub_eq_add_neg, ← Int.mul_neg, Int.gcd_add_mul_left_right]
theorem fmod_lt (a : Int) {b : Int} (h : b ≠ 0) : (a.fmod b).natAbs < b.natAbs := by
  rcases Int.lt_or_gt_of_ne h with hb | hb
  · have e : a.fmod b = -((-a).fmod (-b)) := by rw [Int.neg_fmod_neg, Int.neg_neg]
    have h1 := Int.fmod_nonneg_of_pos (-a) (show (0 : Int) < -b by omega)
    have h2 := Int.fmod_lt_of_pos (-a) (show (0 : Int) < -b by omega)
    rw [e]
    omega
  · have h1 := Int.fmod_nonneg_of_pos a hb
    have h2 := Int.fmod_lt_of_pos a hb
    omega
theorem gcd_pos {t b : Int} (h : b ≠ 0) : 0 < Int.gcd t b := Int.gcd_pos_of_ne_zero_right t h
/-- the divisor that makes lowest terms -/
def gs (t b : Int) : Int := if b < 0 then -(Int.gcd t b : Int) else (Int.gcd t b : Int)
theorem gs_ne {t b : Int} (h : b ≠ 0) : gs t b ≠ 0 := by
  have := gcd_pos (t := t) h
  unfold gs
  split <;> omega
theorem low_num {t b : Int} (h : b ≠ 0) : t.fdiv (gs t b) = (Rat.divInt t b).num := by
  have hg := gcd_pos (t := t) h
  rw [Rat.num_divInt, Int.gcd_comm b t]
  unfold gs
  split
  · rename_i hb
    rw [Int.sign_eq_neg_one_of_neg hb, Int.neg_one_mul]
    rw [← Int.neg_fdiv_neg, Int.neg_neg, Int.fdiv_eq_ediv_of_nonneg _ (by omega)]
  · rw [Int.sign_eq_one_of_pos (by omega), Int.one_mul, Int.fdiv_eq_ediv_of_nonneg _ (by omega)]
theorem low_den {t b : Int} (h : b ≠ 0) : b.fdiv (gs t b) = ((Rat.divInt t b).den : Int) := by
  have hg := gcd_pos (t := t) h
  rw [Rat.den_divInt, if_neg h, Int.gcd_comm b t, Int.natCast_ediv]
  unfold gs
  split
  · rename_i hb
    rw [← Int.neg_fdiv_neg, Int.neg_neg, Int.fdiv_eq_ediv_of_nonneg _ (by omega)]
    congr 1
    omega
  · rw [Int.fdiv_eq_ediv_of_nonneg _ (by omega)]
    congr 1
    omega
theorem den_pos (q : Rat) : (0 : Int) < (q.den : Int) := by
  have := q.den_pos
  omega
/-- sizes -/
def Sz (n : Nat) (i : Int) : Prop := i.natAbs < 2 ^ n
def Rz (n : Nat) (q : Rat) : Prop := Sz n q.num ∧ Sz n q.den
theorem Sz.mono {n m : Nat} {i : Int} (h : Sz n i) (l : n ≤ m) : Sz m i := Nat.lt_of_lt_of_le h (Nat.pow_le_pow_right (by decide) l)
theorem Rz.mono {n m : Nat} {q : Rat} (h : Rz n q) (l : n ≤ m) : Rz m q := ⟨h.1.mono l, h.2.mono l⟩
theorem Sz.mul {n m : Nat} {i j : Int} (h : Sz n i) (k : Sz m j) : Sz (n + m) (i * j) := by
  unfold Sz
  rw [Int.natAbs_mul, Nat.pow_add]
  exact Nat.mul_lt_mul'' h k
theorem Sz.add {n m : Nat} {i j : Int} (h : Sz n i) (k : Sz n j) (l : n < m) : Sz m (i + j) := by
  have h' : i.natAbs < 2 ^ n := h
  have k' : j.natAbs < 2 ^ n := k
  have e : 2 ^ (n + 1) ≤ 2 ^ m := Nat.pow_le_pow_right (by decide) l
  rw [Nat.pow_succ] at e
  have z := Int.natAbs_add_le i j
  unfold Sz
  omega
theorem Sz.neg {n : Nat} {i : Int} (h : Sz n i) : Sz n (-i) := by
  unfold Sz
  rw [Int.natAbs_neg]
  exact h
theorem Sz.sub {n m : Nat} {i j : Int} (h : Sz n i) (k : Sz n j) (l : n < m) : Sz m (i - j) := by
  rw [Int.sub_eq_add_neg]
  exact h.add k.neg l
theorem natAbs_ediv_le (a : Int) {b : Nat} : (a / (b : Int)).natAbs ≤ a.natAbs := Int.natAbs_ediv_le_natAbs _ _
theorem Rz.divInt {n : Nat} {t b : Int} (h : Sz n t) (k : Sz n b) (h0 : 0 < n) : Rz n (Rat.divInt t b) := by
  refine ⟨?_, ?_⟩
  · unfold Sz
    rw [Rat.num_divInt]
    refine Nat.lt_of_le_of_lt (Int.natAbs_ediv_le_natAbs _ _) ?_
    rw [Int.natAbs_mul]
    refine Nat.lt_of_le_of_lt ?_ h
    have : b.sign.natAbs ≤ 1 := by
      rcases Int.lt_trichotomy b 0 with z | z | z
      · rw [Int.sign_eq_neg_one_of_neg z]; decide
      · rw [z]; decide
      · rw [Int.sign_eq_one_of_pos z]; decide
    calc b.sign.natAbs * t.natAbs ≤ 1 * t.natAbs := Nat.mul_le_mul_right _ this
      _ = t.natAbs := Nat.one_mul _
  · unfold Sz
    rw [Rat.den_divInt]
    split
    · show 1 < 2 ^ n
      exact Nat.one_lt_two_pow (by omega)
    · rw [Int.natAbs_natCast]
      exact Nat.lt_of_le_of_lt (Nat.div_le_self _ _) k
theorem add_eq (p q : Rat) : p + q = Rat.divInt (p.num * q.den + q.num * p.den) ((p.den : Int) * q.den) := by
  have := Rat.divInt_add_divInt p.num q.num (d₁ := p.den) (d₂ := q.den) (by have := den_pos p; omega) (by have := den_pos q; omega)
  rw [Rat.num_divInt_den, Rat.num_divInt_den] at this
  exact this
theorem sub_eq (p q : Rat) : p - q = Rat.divInt (p.num * q.den - q.num * p.den) ((p.den : Int) * q.den) := by
  rw [Rat.sub_eq_add_neg, add_eq]
  rw [Rat.neg_num, Rat.neg_den, Int.neg_mul, ← Int.sub_eq_add_neg]
theorem mul_eq (p q : Rat) : p * q = Rat.divInt (p.num * q.num) ((p.den : Int) * q.den) := by
  have := Rat.divInt_mul_divInt p.num q.num (d₁ := p.den) (d₂ := q.den)
  rw [Rat.num_divInt_den, Rat.num_divInt_den] at this
  exact this
theorem div_eq (p q : Rat) (h : q ≠ 0) : p / q = Rat.divInt (p.num * q.den) ((p.den : Int) * q.num) := by
  rw [Rat.div_def, mul_eq]
  have hq : q.num ≠ 0 := fun z => h (Rat.num_eq_zero.mp z)
  have e : q⁻¹ = Rat.divInt q.den q.num := by
    have := Rat.inv_divInt q.num q.den
    rw [Rat.num_divInt_den] at this
    exact this
  rw [← mul_eq, e]
  have := Rat.divInt_mul_divInt p.num q.den (d₁ := p.den) (d₂ := q.num)
  rw [Rat.num_divInt_den] at this
  exact this
theorem lt_iff' (p q : Rat) : p < q ↔ p.num * q.den < q.num * p.den := Rat.lt_iff p q
theorem Rz.add {n l m : Nat} {p q : Rat} (h : Rz n p) (k : Rz l q) (hl : n + l < m) : Rz m (p + q) := by
  rw [add_eq]
  exact Rz.divInt (Sz.add (n := n + l) ((h.1.mul k.2).mono (by omega)) ((k.1.mul h.2).mono (by omega)) hl) ((h.2.mul k.2).mono (by omega)) (by omega)
theorem Rz.sub {n l m : Nat} {p q : Rat} (h : Rz n p) (k : Rz l q) (hl : n + l < m) : Rz m (p - q) := by
  rw [sub_eq]
  exact Rz.divInt (Sz.sub (n := n + l) ((h.1.mul k.2).mono (by omega)) ((k.1.mul h.2).mono (by omega)) hl) ((h.2.mul k.2).mono (by omega)) (by omega)
theorem Rz.mul {n l m : Nat} {p q : Rat} (h : Rz n p) (k : Rz l q) (hl : n + l < m) : Rz m (p * q) := by
  rw [mul_eq]
  exact Rz.divInt ((h.1.mul k.1).mono (by omega)) ((h.2.mul k.2).mono (by omega)) (by omega)
theorem Rz.div {n l m : Nat} {p q : Rat} (h : Rz n p) (k : Rz l q) (z : q ≠ 0) (hl : n + l < m) : Rz m (p / q) := by
  rw [div_eq p q z]
  exact Rz.divInt ((h.1.mul k.2).mono (by omega)) ((h.2.mul k.1).mono (by omega)) (by omega)
theorem Rz.int {n : Nat} {i : Int} (h : Sz n i) (h0 : 0 < n) : Rz n (i : Rat) := ⟨h, (by show 1 < 2 ^ n; exact Nat.one_lt_two_pow (by omega))⟩
theorem Sz.floor {n : Nat} {q : Rat} (h : Rz n q) : Sz n q.floor := by
  unfold Sz
  rw [Rat.floor_def]
  exact Nat.lt_of_le_of_lt (Int.natAbs_ediv_le_natAbs _ _) h.1
theorem neg_div_ceil (q : Rat) : -(-q.num / (q.den : Int)) = q.ceil := by
  have := Rat.ceil_eq_neg_floor_neg q
  rw [this, Rat.floor_def, Rat.neg_num, Rat.neg_den]
theorem Rz.neg {n : Nat} {q : Rat} (h : Rz n q) : Rz n (-q) := ⟨by rw [Rat.neg_num]; exact h.1.neg, by rw [Rat.neg_den]; exact h.2⟩
theorem Sz.ceil {n : Nat} {q : Rat} (h : Rz n q) : Sz n q.ceil := by
  rw [Rat.ceil_eq_neg_floor_neg]
  exact (Sz.floor h.neg).neg
theorem Sz.of {n : Nat} {i : Int} (h1 : -(2 ^ n) < i) (h2 : i < 2 ^ n) : Sz n i := by
  unfold Sz
  have e : ((2 ^ n : Nat) : Int) = (2 : Int) ^ n := by simp
  omega
end MM
namespace MM
/-! the calendar's mathematics: floor, ceil, and the steps of months and marks -/
structure Fit (m y : Rat) : Prop where
  one : 1 ≤ m
  between : (m.ceil : Rat) ≤ y / 12
  thirteen : y + 1 ≤ 13 * m
theorem Fit.pos {m y : Rat} (f : Fit m y) : 0 < m := by
  have := f.one
  grind
theorem Fit.ypos {m y : Rat} (f : Fit m y) : 0 < y / 12 := by
  have h1 := f.one
  have h2 := f.between
  have h3 : m ≤ (m.ceil : Rat) := Rat.le_ceil
  grind
def stF (m o : Rat) (k : Int) : Int := (o + k * m).floor
def mdF (y k : Rat) (j : Int) : Int := (k + j * (y / 12)).floor
def maF (m o : Rat) (d : Int) : Int := ((((d + 1 : Int) : Rat) - o) / m).ceil - 1
def jF (y k : Rat) (d : Int) : Int := (((d : Rat) - k) / (y / 12)).ceil
theorem lt_ceil_iff {q : Rat} {i : Int} : i < q.ceil ↔ (i : Rat) < q := by
  have h : q.ceil ≤ i ↔ q ≤ (i : Rat) := Rat.ceil_le_iff
  constructor
  · intro hi
    have : ¬ q.ceil ≤ i := by omega
    rw [h] at this
    exact Rat.not_le.mp this
  · intro hi
    have : ¬ q ≤ (i : Rat) := Rat.not_le.mpr hi
    rw [← h] at this
    omega
theorem floor_le_iff {q : Rat} {i : Int} : q.floor ≤ i ↔ q < ((i + 1 : Int) : Rat) := by
  have h := Rat.floor_lt_iff (a := q) (x := i + 1)
  rw [← h]
  omega
/-- the months up to K begin by the day d -/
theorem st_le {m o : Rat} (hm : 0 < m) {k d : Int} : stF m o k ≤ d ↔ k ≤ maF m o d := by
  unfold stF maF
  rw [floor_le_iff]
  have e : k ≤ ((((d + 1 : Int) : Rat) - o) / m).ceil - 1 ↔ k < ((((d + 1 : Int) : Rat) - o) / m).ceil := by omega
  rw [e, lt_ceil_iff, Rat.lt_div_iff hm]
  constructor <;> intro h <;> grind
theorem ma_of {m o : Rat} (hm : 0 < m) {k d : Int} (h1 : stF m o k ≤ d) (h2 : d < stF m o (k + 1)) : maF m o d = k := by
  have a := (st_le hm).mp h1
  have b : ¬ k + 1 ≤ maF m o d := fun z => by
    have := (st_le hm).mpr z
    omega
  omega
theorem st_ma {m o : Rat} (hm : 0 < m) (d : Int) : stF m o (maF m o d) ≤ d := (st_le hm).mpr (Int.le_refl _)
theorem ma_st {m o : Rat} (hm : 0 < m) (d : Int) : d < stF m o (maF m o d + 1) := by
  have : ¬ stF m o (maF m o d + 1) ≤ d := fun z => by
    have := (st_le hm).mp z
    omega
  omega
theorem cast_add1 (k : Int) : ((k + 1 : Int) : Rat) = (k : Rat) + 1 := by
  rw [Rat.intCast_add]
  rfl
theorem st_step {m o : Rat} (hm : 1 ≤ m) (k : Int) : stF m o k + 1 ≤ stF m o (k + 1) := by
  unfold stF
  rw [Rat.le_floor_iff, cast_add1, cast_add1]
  have h := Rat.floor_le (o + (k : Rat) * m)
  grind
theorem md_lt {y k : Rat} (hy : 0 < y / 12) {j d : Int} : mdF y k j < d ↔ j < jF y k d := by
  unfold mdF jF
  rw [Rat.floor_lt_iff, lt_ceil_iff, Rat.lt_div_iff hy]
  constructor <;> intro h <;> grind
theorem md_ge {y k : Rat} (hy : 0 < y / 12) (d : Int) : d ≤ mdF y k (jF y k d) := by
  have : ¬ mdF y k (jF y k d) < d := fun z => by
    have := (md_lt hy).mp z
    omega
  omega
/-- of two months in a row one has a mark -/
theorem two_months {m y o k : Rat} (f : Fit m y) (i : Int) : mdF y k (jF y k (stF m o (i - 1))) < stF m o (i + 1) := by
  have hy := f.ypos
  have h1 : mdF y k (jF y k (stF m o (i - 1)) - 1) < stF m o (i - 1) := (md_lt hy).mpr (by omega)
  unfold mdF at h1 ⊢
  rw [Rat.floor_lt_iff] at h1 ⊢
  have e1 : ((jF y k (stF m o (i - 1)) - 1 : Int) : Rat) = (jF y k (stF m o (i - 1)) : Rat) - 1 := by rw [Rat.intCast_sub]; rfl
  rw [e1] at h1
  have h2 : ((stF m o (i - 1) : Int) : Rat) ≤ o + ((i - 1 : Int) : Rat) * m := Rat.floor_le _
  have h3 : o + ((i + 1 : Int) : Rat) * m - 1 < ((stF m o (i + 1) : Int) : Rat) := Rat.lt_floor
  have e2 : ((i - 1 : Int) : Rat) = (i : Rat) - 1 := by rw [Rat.intCast_sub]; rfl
  rw [e2] at h2
  rw [cast_add1] at h3
  have a := f.one
  have b := f.thirteen
  have c : y / 12 ≤ 2 * m - 1 := by grind
  grind
theorem k0_le {m o : Rat} (hm : 0 < m) (d : Int) : (((d : Rat) - o) / m).floor - 1 ≤ maF m o d := by
  have h : ((((d : Rat) - o) / m).floor - 1) < ((((d + 1 : Int) : Rat) - o) / m).ceil := by
    rw [lt_ceil_iff, Rat.intCast_sub]
    have h1 := Rat.floor_le (((d : Rat) - o) / m)
    have h2 : ((d : Rat) - o) / m < (((d + 1 : Int) : Rat) - o) / m := by
      rw [cast_add1, Rat.lt_div_iff hm, Rat.div_mul_cancel (by grind)]
      grind
    have h3 : ((1 : Int) : Rat) = 1 := rfl
    grind
  unfold maF
  omega
theorem j0_le {y k : Rat} (d : Int) : (((d : Rat) - k) / (y / 12)).floor - 1 ≤ jF y k d := by
  have h : (((d : Rat) - k) / (y / 12)).floor ≤ (((d : Rat) - k) / (y / 12)).ceil := Rat.intCast_le_intCast.mp (Rat.le_trans (Rat.floor_le _) Rat.le_ceil)
  unfold jF
  omega
end MM
namespace MM
theorem floor_divInt {t b : Int} (hb : 0 < b) : (Rat.divInt t b).floor = t / b := by
  rw [Rat.floor_def]
  have h := Rat.num_divInt_den (Rat.divInt t b)
  have hd := den_pos (Rat.divInt t b)
  rw [Rat.divInt_eq_divInt_iff (by omega) (by omega)] at h
  have e1 : t / b = (t * ((Rat.divInt t b).den : Int)) / (b * ((Rat.divInt t b).den : Int)) := (Int.mul_ediv_mul_of_pos_left _ _ hd).symm
  rw [e1, ← h, Int.mul_comm b, Int.mul_ediv_mul_of_pos_left _ _ hb]
theorem inv_eq (q : Rat) : q⁻¹ = Rat.divInt q.den q.num := by
  have := Rat.inv_divInt q.num q.den
  rw [Rat.num_divInt_den] at this
  exact this
theorem div12 (x y : Rat) (hy : y ≠ 0) : Rat.divInt (x.num * 12 * y.den) ((x.den : Int) * y.num) = x / (y / 12) := by
  have e : x / (y / 12) = x * 12 * y⁻¹ := by grind
  rw [e, inv_eq]
  have h1 : x * 12 = Rat.divInt (x.num * 12) ((x.den : Int) * 1) := by
    have h := Rat.divInt_mul_divInt x.num 12 (d₁ := x.den) (d₂ := 1)
    rw [Rat.num_divInt_den] at h
    exact h
  rw [h1, Rat.divInt_mul_divInt, Int.mul_one]
theorem Sz.between {n : Nat} {a x b : Int} (ha : Sz n a) (hb : Sz n b) (h1 : a ≤ x) (h2 : x ≤ b) : Sz n x := by
  unfold Sz at *
  omega
theorem Fit.ypos' {m y : Rat} (f : Fit m y) : 0 < y := by
  have := f.ypos
  grind
theorem num_pos {q : Rat} (h : 0 < q) : 0 < q.num := by
  have := (lt_iff' 0 q).mp h
  rw [show (0 : Rat).num = 0 from rfl, show (0 : Rat).den = 1 from rfl] at this
  omega
end MM
namespace MM
theorem unit_divInt {t b : Int} (h0 : 0 ≤ t) (h1 : t ≤ b) (hb : 0 < b) : 0 ≤ Rat.divInt t b ∧ Rat.divInt t b ≤ 1 := by
  have hb' : (0 : Rat) < (b : Rat) := Rat.intCast_lt_intCast.mpr hb
  have h0' : (0 : Rat) ≤ (t : Rat) := Rat.intCast_le_intCast.mpr h0
  have h1' : (t : Rat) ≤ (b : Rat) := Rat.intCast_le_intCast.mpr h1
  rw [Rat.divInt_eq_div]
  have e : (t : Rat) / (b : Rat) * (b : Rat) = t := Rat.div_mul_cancel (by grind)
  refine ⟨?_, ?_⟩
  · apply Rat.not_lt.mp
    intro z
    have := Rat.mul_lt_mul_of_pos_right z hb'
    grind
  · apply Rat.not_lt.mp
    intro z
    have := Rat.mul_lt_mul_of_pos_right z hb'
    grind
theorem cast_sub1 (w : Int) : ((w - 1 : Int) : Rat) = (w : Rat) - 1 := by
  rw [Rat.intCast_sub]
  rfl
theorem cast_12 (w : Int) : ((12 * w : Int) : Rat) = 12 * (w : Rat) := by
  rw [Rat.intCast_mul]
  rfl
/-- the law's drawn month and year make a calendar -/
theorem fit_drawn {w : Int} (hw : 1 ≤ w) {s r : Rat} (s0 : 0 ≤ s) (s1 : s ≤ 1) (r0 : 0 ≤ r) (r1 : r ≤ 1) :
    Fit ((((12 * w + 1 : Int) : Rat) + s * ((w - 1 : Int) : Rat)) * Rat.divInt 1 13) (((12 * w : Int) : Rat) + r * s * ((w - 1 : Int) : Rat)) := by
  have hW : (1 : Rat) ≤ (w : Rat) := Rat.intCast_le_intCast.mpr hw
  rw [cast_add1, cast_12, cast_sub1, Rat.divInt_eq_div]
  have a0 : 0 ≤ s * ((w : Rat) - 1) := Rat.mul_nonneg s0 (by grind)
  have a1 : s * ((w : Rat) - 1) ≤ 1 * ((w : Rat) - 1) := Rat.mul_le_mul_of_nonneg_right s1 (by grind)
  have b0 : 0 ≤ r * (s * ((w : Rat) - 1)) := Rat.mul_nonneg r0 a0
  have b1 : r * (s * ((w : Rat) - 1)) ≤ 1 * (s * ((w : Rat) - 1)) := Rat.mul_le_mul_of_nonneg_right r1 a0
  have e : r * s * ((w : Rat) - 1) = r * (s * ((w : Rat) - 1)) := Rat.mul_assoc _ _ _
  rw [e]
  have c1 : ((1 : Int) : Rat) = 1 := rfl
  have c13 : ((13 : Int) : Rat) = 13 := rfl
  rw [c1, c13]
  generalize s * ((w : Rat) - 1) = z at *
  generalize r * z = u at *
  refine ⟨by grind, ?_, by grind⟩
  have h : ((12 * (w : Rat) + 1 + z) * (1 / 13)).ceil ≤ w := Rat.ceil_le_iff.mpr (by grind)
  have h' : (((12 * (w : Rat) + 1 + z) * (1 / 13)).ceil : Rat) ≤ (w : Rat) := Rat.intCast_le_intCast.mpr h
  grind
end MM
namespace MM
open PySem PySem.Spec PyProof.Rows L2
/-! ### defs and their calls -/
/-- a def of the module under its name, with its defaults -/
structure Df (K : PySem.W.Frag) (mg : Str → Option Value) (x : Str) (st : Stmt) (dvs : List V) : Prop where
  ex : ∃ (f : Addr) (fd : FuncData), FunD K x x (defArgs st) (defBody st) (defScope st) dvs [] f fd ∧ mg x = some (.ref f)
/-- what is known of a def that is called: its promise, how it is bound -/
structure Ca (P : Program) (w : World) (K : PySem.W.Frag) (mg : Str → Option Value) (base : Heap) (CX : CXT) (k : Nat) (x : Str) (st : Stmt) (dvs : List V) (ps : List Str) (sp : Sp) : Prop where
  ex : ∃ (f : Addr) (fd : FuncData), FunD K x x (defArgs st) (defBody st) (defScope st) dvs [] f fd ∧ mg x = some (.ref f) ∧ FnOk P w K mg base CX k f fd ps sp
/-- the parameters of a def, all given by place -/
def Bd (x qual : Str) (st : Stmt) (ps : List Str) : Prop := ∀ (kV doc pm : Value) (an : Option Addr) (cdv ct : Value) (us : List Value), us.length = ps.length →
  bindArgs (PySem.W.fnOf x qual (defArgs st) (defBody st) (defScope st) .none kV doc pm an cdv ct) ⟨us, []⟩ = pure (ps.zip us)
section
variable {P : Program} {w : World} {K : PySem.W.Frag} {mg : Str → Option Value} {base : Heap} {x : Str} {st : Stmt} {dvs : List V} {N ps : List Str} {k : Nat} {sp : Sp}
theorem ca0 (D : Df K mg x st dvs) (S : FnScope N ps (defScope st)) (len : ∀ vs H Q E, sp vs H Q E → vs.length = ps.length)
    (body : ∀ (f : Addr) (cdv : Value) (A : Around) (outer : List Env) (s : Shared) (H : Hp) (vs : List V) (Q : VK) (E : XK), Room k (A.deeper (envOfC x (defScope st) s.heap.objs.size f cdv)) → sp vs H Q E →
      ∃ t, PSs (cxOf CX0 P w K mg base N x (defScope st) f cdv A outer s H E).nox (defBody st) t ∧ t { nx := fun _ H' => Q .non H', rt := Q } (start N vs) H) : Ca P w K mg base CX0 (k + 1) x st dvs ps sp := by
  obtain ⟨f, fd, F, hm⟩ := D.ex
  refine ⟨f, fd, F, hm, F.ok S len fun cdv A outer s H vs Q E hr h => ?_⟩
  obtain ⟨t, h1, h2⟩ := body f cdv A outer s H vs Q E hr h
  exact ⟨t, h1.nox, h2⟩
theorem caX (D : Df K mg x st dvs) (S : FnScope N ps (defScope st)) (len : ∀ vs H Q E, sp vs H Q E → vs.length = ps.length)
    (body : ∀ (f : Addr) (cdv : Value) (A : Around) (outer : List Env) (s : Shared) (H : Hp) (vs : List V) (Q : VK) (E : XK), Room k (A.deeper (envOfC x (defScope st) s.heap.objs.size f cdv)) → sp vs H Q E →
      ∃ t, PSs (cxOf (L2.CX P w) P w K mg base N x (defScope st) f cdv A outer s H E) (defBody st) t ∧ t { nx := fun _ H' => Q .non H', rt := Q } (start N vs) H) : Ca P w K mg base (L2.CX P w) (k + 1) x st dvs ps sp := by
  obtain ⟨f, fd, F, hm⟩ := D.ex
  exact ⟨f, fd, F, hm, F.ok S len fun cdv A outer s H vs Q E hr h => body f cdv A outer s H vs Q E hr h⟩
theorem FunD.none {qual : Str} {params : Arguments} {bodyS : List Stmt} {scope : Scope} {f : Addr} {fd : FuncData} (F : FunD K x qual params bodyS scope [] [] f fd) :
    ∃ (kV doc pm : Value) (an : Option Addr) (cdv ct : Value), fd = PySem.W.fnOf x qual params bodyS scope .none kV doc pm an cdv ct := by
  obtain ⟨oc, od, dV, kV, doc, pm, an, cdv, ct, osl, rfl, lk, hcd, hD, hK⟩ := F.ex
  rcases hD with ⟨_, rfl⟩ | ⟨e, _⟩
  · exact ⟨kV, doc, pm, an, cdv, ct, rfl⟩
  · exact absurd rfl e
end
section
variable {X : Cx} {CX : CXT} {k j n : Nat} {C : Addr} {x m : Str} {st : Stmt} {sp : Sp} {ps ks : List Str} {dvs : List V} {E : XK} {p pos apos : Pos} {e o : Expr} {es : List Expr} {kws : List Keyword} {ta : TE} {t tk : TA}
/-- f(e, ..), all parameters by place -/
theorem pe_ca (c : Ca X.prog X.w X.K X.mg X.base CX k x st [] ps sp) (b : Bd x x st ps) (hr : Room j X.A) (hk : k ≤ j) (hx : Passes CX X E) (hg : Gl X x) (ha : PA X (e :: es) t)
    (hdb : (x == ("__debug__" : Str)) = false := by decide) (he : starEach (e :: es) X.env = (false, eval e X.env) :: starEach es X.env := by rfl) (hpl : (backTo pos (starEach es X.env)).any (·.1) = false := by rfl) :
    PE X (.Call (.Name x p) (e :: es) [] pos) (tCall sp [] E t) := by
  obtain ⟨f, fd, F, hm, G⟩ := c.ex
  exact pe_call G (hr.mono hk) hg hm F.kp (F.bindsN b) .nil hx ha hdb he hpl
/-- how keywords bind where there is no default: g puts the places' values and the keywords' in order -/
structure Kb (x : Str) (st : Stmt) (n : Nat) (ks ps : List Str) (g : {α : Type} → List α → List α → List α) : Prop where
  bind : ∀ (kV doc pm : Value) (an : Option Addr) (cdv ct : Value) (us ws : List Value), us.length = n → ws.length = ks.length →
    bindArgs (PySem.W.fnOf x x (defArgs st) (defBody st) (defScope st) .none kV doc pm an cdv ct) ⟨us, ks.zip ws⟩ = pure (ps.zip (g us ws))
  rel : ∀ {vs zs : List V} {us ws : List Value}, vs.length = n → zs.length = ks.length → Vals vs us → Vals zs ws → Vals (g vs zs) (g us ws)
/-- f(k = v, ..) of a def without defaults -/
theorem pe_caK {g : {α : Type} → List α → List α → List α} (c : Ca X.prog X.w X.K X.mg X.base CX k x st [] ps sp) (b : Kb x st 0 ks ps g) (hr : Room j X.A) (hk : k ≤ j) (hx : Passes CX X E) (hg : Gl X x) (hkw : PK X kws tk)
    (hall : (backToKw pos (keywordEach kws X.env)).all (·.1.isSome) = true := by rfl) (hks : (backToKw pos (keywordEach kws X.env)).filterMap (·.1) = ks := by rfl) (hdb : (x == ("__debug__" : Str)) = false := by decide)
    (hpl : ((backTo pos (starEach [] X.env)).any (·.1) || (backToKw pos (keywordEach kws X.env)).any (·.1.isNone)) = false := by rfl) :
    PE X (.Call (.Name x p) [] kws pos) (fun σ H Q => tk σ H fun zs H2 => zs.length = ks.length ∧ sp (g [] zs) H2 Q E) := by
  obtain ⟨f, fd, F, hm, G⟩ := c.ex
  obtain ⟨kV, doc, pm, an, cdv, ct, rfl⟩ := FunD.none F
  refine ⟨fun pins s σ H Q I h => ?_⟩
  refine wpAny_Call_Name_kw (ld_glob I hg hm ?_ hdb)
  refine PySem.W.callWith_KW0 (h₀ := X.base) I.ok.mod.kin F.kp hall ?_ hpl
  refine thn (hkw.run pos pins s σ H _ I h) fun ws s2 ⟨zs, H2, I2, rz, l2, q2⟩ => ⟨I2.kIn, ?_⟩
  rw [hks]
  have r2 : Vals (g [] zs) (g [] ws) := b.rel rfl l2 .nil rz
  refine wpAny_call (codeAny_mono (G.run X.A X.stack s2 H2 ⟨[], ks.zip ws⟩ (g [] ws) (g [] zs) Q E (hr.mono hk) I2.env0 (.of_eq (b.bind kV doc pm an cdv ct [] ws rfl (rz.length.symm.trans l2))) r2 q2) fun r s' hq => ?_)
  match r, hq with
  | .error e, hq => exact hx pins σ H2 s2 e s' I2 hq
  | .ok (.ret u), hq => exact I2.after hq
  | .ok .next, hq => exact False.elim hq
  | .ok .brk, hq => exact False.elim hq
  | .ok .cont, hq => exact False.elim hq
end
/-! ### whole numbers -/
section
variable {X : Cx}
/-- // by any divisor but 0 -/
def CDivA (_ j : Int) : Prop := j ≠ 0 ∧ Sz 8900 j
theorem op_fdivA : OpR X (binaryOp .FloorDiv) (rI CDivA fun i j => .int (i.fdiv j)) := opI fun i j _ _ _ _ _ hc q =>
  PyProof.Rows.floordiv_int hc.1 q (.inl (PyProof.noPylong_of_log2 (Nat.lt_of_lt_of_le (PySem.Flt.log2_lt_of (by decide) hc.2) (by decide))))
/-- * of two numbers of some thousand bits -/
def CMulA (i j : Int) : Prop := Sz 100000 i ∧ Sz 100000 j
theorem op_mulA : OpR X (binaryOp .Mult) (rI CMulA fun i j => .int (i * j)) := opI fun i j _ _ _ _ _ hc q =>
  PyProof.Rows.mul_int q (CMulW.ok (wide_mul hc.1 hc.2 (by decide) (by decide) (by decide)))
end
/-! ### a pick out of a written list -/
theorem pick {α : Type} {xs : List α} {z : Int} {P : α → Prop} (h0 : 0 ≤ z) (h1 : z < xs.length) (h : ∀ x ∈ xs, P x) : ∃ v, atI xs z = some v ∧ P v := by
  have hl : z.toNat < xs.length := by omega
  refine ⟨xs[z.toNat], ?_, h _ (List.getElem_mem hl)⟩
  unfold atI ixN
  rw [if_pos h0, if_pos h1]
  exact List.getElem?_eq_getElem hl
end MM
namespace MM
open PySem PySem.Spec PyProof.Rows L2
/-- what binds where some parameters have defaults: n given by place, the defaults from the j-th on fill up -/
def Bd1 (x qual : Str) (st : Stmt) (ps : List Str) (n j m : Nat) : Prop := ∀ (T : Addr) (kV doc pm : Value) (an : Option Addr) (cdv ct : Value) (us its : List Value), us.length = n → its.length = m →
  ∃ k, bindArgs (PySem.W.fnOf x qual (defArgs st) (defBody st) (defScope st) (.ref T) kV doc pm an cdv ct) ⟨us, []⟩ = seqItems? (.ref T) >>= k ∧ k (some its.toArray) = pure (ps.zip (us ++ its.drop j))
/-- the __init__ of a class -/
structure Di (K : PySem.W.Frag) (mg : Str → Option Value) (x : Str) (C : Addr) (qual : Str) (st : Stmt) (dvs : List V) : Prop where
  ex : ∃ (f : Addr) (fd : FuncData), FunD K "__init__" qual (defArgs st) (defBody st) (defScope st) dvs [] f fd ∧ Mk K C f ∧ mg x = some (.ref C)
structure Ci (P : Program) (w : World) (K : PySem.W.Frag) (mg : Str → Option Value) (base : Heap) (CX : CXT) (k : Nat) (x : Str) (C : Addr) (qual : Str) (st : Stmt) (dvs : List V) (ps : List Str) (sp : Sp) : Prop where
  ex : ∃ (f : Addr) (fd : FuncData), FunD K "__init__" qual (defArgs st) (defBody st) (defScope st) dvs [] f fd ∧ Mk K C f ∧ mg x = some (.ref C) ∧ FnOk P w K mg base CX k f fd ps sp
/-- a method of a class -/
structure Dm (K : PySem.W.Frag) (C : Addr) (m qual : Str) (st : Stmt) : Prop where
  ex : ∃ (f : Addr) (fd : FuncData), FunD K m qual (defArgs st) (defBody st) (defScope st) [] [] f fd ∧ Meth K C m f ∧ Cls K C
structure Cm (P : Program) (w : World) (K : PySem.W.Frag) (mg : Str → Option Value) (base : Heap) (CX : CXT) (k : Nat) (C : Addr) (m qual : Str) (st : Stmt) (ps : List Str) (sp : Sp) : Prop where
  ex : ∃ (f : Addr) (fd : FuncData), FunD K m qual (defArgs st) (defBody st) (defScope st) [] [] f fd ∧ Meth K C m f ∧ Cls K C ∧ FnOk P w K mg base CX k f fd ps sp
section
variable {P : Program} {w : World} {K : PySem.W.Frag} {mg : Str → Option Value} {base : Heap} {x m qual : Str} {C : Addr} {st : Stmt} {dvs : List V} {N ps : List Str} {k : Nat} {sp : Sp}
theorem ci0 (D : Di K mg x C qual st dvs) (S : FnScope N ps (defScope st)) (len : ∀ vs H Q E, sp vs H Q E → vs.length = ps.length)
    (body : ∀ (f : Addr) (cdv : Value) (A : Around) (outer : List Env) (s : Shared) (H : Hp) (vs : List V) (Q : VK) (E : XK), Room k (A.deeper (envOfC qual (defScope st) s.heap.objs.size f cdv)) → sp vs H Q E →
      ∃ t, PSs (cxOf CX0 P w K mg base N qual (defScope st) f cdv A outer s H E).nox (defBody st) t ∧ t { nx := fun _ H' => Q .non H', rt := Q } (start N vs) H) : Ci P w K mg base CX0 (k + 1) x C qual st dvs ps sp := by
  obtain ⟨f, fd, F, M, hm⟩ := D.ex
  refine ⟨f, fd, F, M, hm, F.ok S len fun cdv A outer s H vs Q E hr h => ?_⟩
  obtain ⟨t, h1, h2⟩ := body f cdv A outer s H vs Q E hr h
  exact ⟨t, h1.nox, h2⟩
theorem ciX (D : Di K mg x C qual st dvs) (S : FnScope N ps (defScope st)) (len : ∀ vs H Q E, sp vs H Q E → vs.length = ps.length)
    (body : ∀ (f : Addr) (cdv : Value) (A : Around) (outer : List Env) (s : Shared) (H : Hp) (vs : List V) (Q : VK) (E : XK), Room k (A.deeper (envOfC qual (defScope st) s.heap.objs.size f cdv)) → sp vs H Q E →
      ∃ t, PSs (cxOf (L2.CX P w) P w K mg base N qual (defScope st) f cdv A outer s H E) (defBody st) t ∧ t { nx := fun _ H' => Q .non H', rt := Q } (start N vs) H) : Ci P w K mg base (L2.CX P w) (k + 1) x C qual st dvs ps sp := by
  obtain ⟨f, fd, F, M, hm⟩ := D.ex
  exact ⟨f, fd, F, M, hm, F.ok S len fun cdv A outer s H vs Q E hr h => body f cdv A outer s H vs Q E hr h⟩
theorem cm0 (D : Dm K C m qual st) (S : FnScope N ps (defScope st)) (len : ∀ vs H Q E, sp vs H Q E → vs.length = ps.length)
    (body : ∀ (f : Addr) (cdv : Value) (A : Around) (outer : List Env) (s : Shared) (H : Hp) (vs : List V) (Q : VK) (E : XK), Room k (A.deeper (envOfC qual (defScope st) s.heap.objs.size f cdv)) → sp vs H Q E →
      ∃ t, PSs (cxOf CX0 P w K mg base N qual (defScope st) f cdv A outer s H E).nox (defBody st) t ∧ t { nx := fun _ H' => Q .non H', rt := Q } (start N vs) H) : Cm P w K mg base CX0 (k + 1) C m qual st ps sp := by
  obtain ⟨f, fd, F, M, hc⟩ := D.ex
  refine ⟨f, fd, F, M, hc, F.ok S len fun cdv A outer s H vs Q E hr h => ?_⟩
  obtain ⟨t, h1, h2⟩ := body f cdv A outer s H vs Q E hr h
  exact ⟨t, h1.nox, h2⟩
end
section
variable {X : Cx} {CX : CXT} {k j n d : Nat} {C : Addr} {x m qual : Str} {st : Stmt} {sp : Sp} {ps ks : List Str} {dvs : List V} {E : XK} {p pos apos : Pos} {e o : Expr} {es : List Expr} {kws : List Keyword} {ta : TE} {t tk : TA}
/-- C(e, ..): n values, then the defaults from the d-th on; n counts self too -/
theorem pe_ci (c : Ci X.prog X.w X.K X.mg X.base CX k x C qual st dvs ps sp) (b : Bd1 "__init__" qual st ps n d dvs.length) (hd : dvs ≠ []) (hn : n + (dvs.length - d) = ps.length) (hr : Room j X.A) (hk : k + 1 ≤ j) (hx : Passes CX X E) (hg : Gl X x) (ha : PA X (e :: es) t)
    (hdb : (x == ("__debug__" : Str)) = false := by decide) (he : starEach (e :: es) X.env = (false, eval e X.env) :: starEach es X.env := by rfl) (hpl : (backTo pos (starEach es X.env)).any (·.1) = false := by rfl) :
    PE X (.Call (.Name x p) (e :: es) [] pos) (tMake C sp (dvs.drop d) E t) := by
  obtain ⟨f, fd, F, M, hm, G⟩ := c.ex
  obtain ⟨ds, r, bb⟩ := F.binds1 n d hd hn b
  exact pe_make M G (hr.mono hk) hg hm bb r hx ha hdb he hpl
/-- o.m(e, ..) -/
theorem pe_cm {pl : Sem Bool} (c : Cm X.prog X.w X.K X.mg X.base CX k C m qual st ps sp) (b : Bd m qual st ps) (hr : Room j X.A) (hk : k ≤ j) (hx : Passes CX X E) (he : PE X o ta) (ha : PA X (e :: es) t)
    (hst : starEach (e :: es) X.env = (false, eval e X.env) :: starEach es X.env := by rfl) (hpl : (backTo pos (starEach es X.env)).any (·.1) = false := by rfl)
    (ht : eval (.Call (.Attribute o m apos) (e :: es) [] pos) X.env = (eval o X.env >>= fun ov => standAt apos.atName >>= fun _ => holding [ov] (getMethod ov m pl) >>= fun q => callWith pos q.1 q.2 (backTo pos (starEach (e :: es) X.env)) (backToKw pos (keywordEach [] X.env))) := by rfl) :
    PE X (.Call (.Attribute o m apos) (e :: es) [] pos) (tMeth C m sp [] E ta t) := by
  obtain ⟨f, fd, F, M, hc, G⟩ := c.ex
  exact pe_meth (pl := pl) he hc M G (hr.mono hk) (F.bindsN b) .nil hx ha hst hpl ht
/-- how keywords bind in a method, or a def, without defaults -/
structure Kbm (x qual : Str) (st : Stmt) (n : Nat) (ks ps : List Str) (g : {α : Type} → List α → List α → List α) : Prop where
  bind : ∀ (kV doc pm : Value) (an : Option Addr) (cdv ct : Value) (us ws : List Value), us.length = n → ws.length = ks.length →
    bindArgs (PySem.W.fnOf x qual (defArgs st) (defBody st) (defScope st) .none kV doc pm an cdv ct) ⟨us, ks.zip ws⟩ = pure (ps.zip (g us ws))
  rel : ∀ {vs zs : List V} {us ws : List Value}, vs.length = n → zs.length = ks.length → Vals vs us → Vals zs ws → Vals (g vs zs) (g us ws)
/-- o.m(k = v, ..) -/
theorem pe_cmK {pl : Sem Bool} {g : {α : Type} → List α → List α → List α} (c : Cm X.prog X.w X.K X.mg X.base CX k C m qual st ps sp) (b : Kbm m qual st 1 ks ps g) (hr : Room j X.A) (hk : k ≤ j) (hx : Passes CX X E) (he : PE X o ta) (hkw : PK X kws tk)
    (hall : (backToKw pos (keywordEach kws X.env)).all (·.1.isSome) = true := by rfl) (hks : (backToKw pos (keywordEach kws X.env)).filterMap (·.1) = ks := by rfl)
    (hpl : ((backTo pos (starEach [] X.env)).any (·.1) || (backToKw pos (keywordEach kws X.env)).any (·.1.isNone)) = false := by rfl)
    (ht : eval (.Call (.Attribute o m apos) [] kws pos) X.env = (eval o X.env >>= fun ov => standAt apos.atName >>= fun _ => holding [ov] (getMethod ov m pl) >>= fun q => callWith pos q.1 q.2 (backTo pos (starEach [] X.env)) (backToKw pos (keywordEach kws X.env))) := by rfl) :
    PE X (.Call (.Attribute o m apos) [] kws pos) (fun σ H Q => ta σ H fun x H1 => ∃ a dx fs, x = .ref a ∧ H1 a = some (.ins C dx fs) ∧ fs.lookup m = none ∧ tk σ H1 fun zs H2 => zs.length = ks.length ∧ sp (g [.ref a] zs) H2 Q E) := by
  obtain ⟨f, fd, F, M, hc, G⟩ := c.ex
  obtain ⟨kV, doc, pm, an, cdv, ct, rfl⟩ := FunD.none F
  refine ⟨fun pins s σ H Q I h => ?_⟩
  refine PySem.W.methodCall_KW (pl := pl) (thn (he.run pins s σ H _ I h) fun u s1 ⟨y, H1, I1, ry, a, dx, fs, ey, ea, l, q⟩ => ?_) ht
  subst ey
  obtain rfl : u = Value.ref a := ry
  refine getmeth_ok I1 ea hc M l ?_
  refine PySem.W.callWith_KW0 (first := [.ref a]) (h₀ := X.base) I.ok.mod.kin M.kp hall ?_ hpl
  refine thn (hkw.run pos pins s1 σ H1 _ I1 q) fun ws s2 ⟨zs, H2, I2, rz, l2, q2⟩ => ⟨I2.kIn, ?_⟩
  rw [hks]
  have r2 : Vals (g [V.ref a] zs) (g [Value.ref a] ws) := b.rel rfl l2 (.cons rfl .nil) rz
  refine wpAny_call (codeAny_mono (G.run X.A X.stack s2 H2 ⟨[.ref a], ks.zip ws⟩ (g [.ref a] ws) (g [.ref a] zs) Q E (hr.mono hk) I2.env0 (.of_eq (b.bind kV doc pm an cdv ct [.ref a] ws rfl (rz.length.symm.trans l2))) r2 q2) fun r s' hq => ?_)
  match r, hq with
  | .error e, hq => exact hx pins σ H2 s2 e s' I2 hq
  | .ok (.ret u), hq => exact I2.after hq
  | .ok .next, hq => exact False.elim hq
  | .ok .brk, hq => exact False.elim hq
  | .ok .cont, hq => exact False.elim hq
end
/-- the keywords take their places: one self, the keywords in the parameters' order -/
def g1 {α : Type} : List α → List α → List α := fun us ws => us ++ ws
theorem g1_rel {n m : Nat} {vs zs : List V} {us ws : List Value} (_ : vs.length = n) (_ : zs.length = m) (h : Vals vs us) (k : Vals zs ws) : Vals (g1 vs zs) (g1 us ws) := h.append k
/-- how C(.., k = v, ..) binds where __init__ has defaults -/
structure Kd (qual : Str) (st : Stmt) (dn n : Nat) (ks ps : List Str) (g : {α : Type} → List α → List α → List α → List α) : Prop where
  bind : ∀ (T : Addr) (kV doc pm : Value) (an : Option Addr) (cdv ct : Value) (us its ws : List Value), us.length = n → its.length = dn → ws.length = ks.length →
    ∃ k, bindArgs (PySem.W.fnOf "__init__" qual (defArgs st) (defBody st) (defScope st) (.ref T) kV doc pm an cdv ct) ⟨us, ks.zip ws⟩ = seqItems? (.ref T) >>= k ∧ k (some its.toArray) = pure (ps.zip (g us its ws))
  rel : ∀ {vs ds zs : List V} {us its ws : List Value}, Vals vs us → Vals ds its → Vals zs ws → Vals (g vs ds zs) (g us its ws)
section
variable {X : Cx} {CX : CXT} {k j n d : Nat} {C : Addr} {x m qual : Str} {st : Stmt} {sp : Sp} {ps ks : List Str} {dvs : List V} {E : XK} {p pos apos : Pos} {e o : Expr} {es : List Expr} {kws : List Keyword} {ta : TE} {t tk : TA}
theorem pe_ciK0 {g : {α : Type} → List α → List α → List α → List α} (c : Ci X.prog X.w X.K X.mg X.base CX k x C qual st dvs ps sp) (b : Kd qual st dvs.length 1 ks ps g) (hd : dvs ≠ []) (hr : Room j X.A) (hk : k + 1 ≤ j) (hx : Passes CX X E) (hg : Gl X x) (hkw : PK X kws tk)
    (hall : (backToKw pos (keywordEach kws X.env)).all (·.1.isSome) = true := by rfl) (hks : (backToKw pos (keywordEach kws X.env)).filterMap (·.1) = ks := by rfl) (hdb : (x == ("__debug__" : Str)) = false := by decide)
    (hpl : ((backTo pos (starEach [] X.env)).any (·.1) || (backToKw pos (keywordEach kws X.env)).any (·.1.isNone)) = false := by rfl) :
    PE X (.Call (.Name x p) [] kws pos) (tMakeK C 0 ks.length sp (fun vs zs => g vs dvs zs) E tNil tk) := by
  obtain ⟨f, fd, F, M, hm, G⟩ := c.ex
  obtain ⟨its, hb⟩ := F.kbindsD 1 ks g hd b.rel b.bind
  exact pe_makeK0 M G (hr.mono hk) hg hm hb hx hkw hall hks hdb hpl
theorem pe_ciK {g : {α : Type} → List α → List α → List α → List α} (c : Ci X.prog X.w X.K X.mg X.base CX k x C qual st dvs ps sp) (b : Kd qual st dvs.length (n + 1) ks ps g) (hd : dvs ≠ []) (hr : Room j X.A) (hk : k + 1 ≤ j) (hx : Passes CX X E) (hg : Gl X x) (ha : PA X (e :: es) t) (hkw : PK X kws tk)
    (hall : (backToKw pos (keywordEach kws X.env)).all (·.1.isSome) = true := by rfl) (hks : (backToKw pos (keywordEach kws X.env)).filterMap (·.1) = ks := by rfl) (hdb : (x == ("__debug__" : Str)) = false := by decide)
    (he : starEach (e :: es) X.env = (false, eval e X.env) :: starEach es X.env := by rfl) (hpl : ((backTo pos (starEach (e :: es) X.env)).any (·.1) || (backToKw pos (keywordEach kws X.env)).any (·.1.isNone)) = false := by rfl) :
    PE X (.Call (.Name x p) (e :: es) kws pos) (tMakeK C n ks.length sp (fun vs zs => g vs dvs zs) E t tk) := by
  obtain ⟨f, fd, F, M, hm, G⟩ := c.ex
  obtain ⟨its, hb⟩ := F.kbindsD (n + 1) ks g hd b.rel b.bind
  exact pe_makeK M G (hr.mono hk) hg hm hb hx ha hkw hall hks hdb he hpl
end
end MM
namespace MM
open PySem PySem.Spec PyProof.Rows L2
/-! ### range(a, b) of numbers of any size -/
theorem turn_long {P : Program} {w : World} {K : PySem.W.Frag} {tg : Expr} (it : Addr) (lo : Int) (n : Nat) : Turn P w K tg (Itr lo n) [it] it (fun i h => IsLongIter h it (lo + (i : Nat) * 1) ((n : Int) - (i : Nat)) 1) := by
  refine { mem := List.mem_singleton.mpr rfl, obj := fun i h st b hb => ?_, keep := fun i h h' st k => k it (List.mem_singleton.mpr rfl) _ st, item := ?_, done := ?_, self := fun _ _ _ _ _ st h => wpAny_pyIter_longiter st h }
  · cases List.mem_singleton.mp hb
    exact ⟨_, st, fun v z => nomatch (show Data.fields _ = Data.cell v from z)⟩
  · intro X hP hw hK hc i pins s σ H E I hf st hg
    subst hP; subst hw; subst hK
    obtain ⟨f0, f1, f2, f3, f4, f5⟩ := hf it (List.mem_singleton.mpr rfl)
    refine (Walks.longrange (prog := X.prog) (w := X.w) (I.ok.hd hc) it lo 1 n).item i s _ _ hg st fun v h' tk hv st' kk => ?_
    obtain ⟨t, rfl⟩ := hv
    have J : Inv X pins σ H { s with heap := h', toks := tk } := I.turned (fun b o hb e => kk b o (fun z => hb (List.mem_singleton.mp z)) e) f0 f1 f3 f4 f5
    refine ⟨_, rfl, go_of (s := { s with heap := h', toks := tk }) (n := "longrange_iterator") st' rfl rfl (by decide) ⟨.int (lo + i), H, J, ⟨t, ?_⟩, ⟨rfl, rfl⟩, st', fun b hb => (hf b hb).1⟩⟩
    rw [Int.mul_one]
  · intro X hP hw hK hc i pins s σ H E I hf st hg
    subst hP; subst hw; subst hK
    obtain ⟨f0, f1, f2, f3, f4, f5⟩ := hf it (List.mem_singleton.mpr rfl)
    have hl : n ≤ i := hg
    exact wpAny_pyNext_long_end (I.ok.hd hc) st (by omega) fun h' eb => ⟨rfl, I.turned (t' := s.toks) (fun b o hb e => eb b o hb e) f0 f1 f3 f4 f5⟩
section
variable {X : Cx} {tg : Expr}
theorem long_it {pins : List (Addr × Obj)} {σ : L2.St} {H : Hp} {s : Shared} {R : It → Hp → Prop} {E : Value → Shared → Prop} {lo hi : Int} {t u v : Tok} {tk : Nat} (I : Inv X pins σ H s) (q : R (Itr lo (hi - lo).toNat) H) :
    wpAny (model X.prog X.w) X.A (pyIter (.ref s.heap.objs.size)) (PIE X pins σ tg R) E { s with heap := s.heap.push { cls := .type "range", data := .fields #[.int lo t, .int hi u, .int 1 v] }, toks := tk } := by
  have J : Inv X pins σ H { s with heap := s.heap.push { cls := .type "range", data := .fields #[.int lo t, .int hi u, .int 1 v] }, toks := tk } := I.kept fun b o e => Heap.get?_push_of_some _ e
  have e0 : lo + ((0 : Nat) : Int) * 1 = lo := by simp
  have e1 : (((hi - lo).toNat : Nat) : Int) - ((0 : Nat) : Int) = Builtin.Range.rangeSize lo hi 1 := by
    rw [rangeSize_one]
    split <;> omega
  cases hsm : Builtin.Range.small lo hi 1 with
  | true =>
    refine wpAny_pyIter_range (IsRange.new ..) hsm ⟨_, [_], _, _, H, rfl, J.kept (t' := tk) fun b o e => Heap.get?_push_of_some _ e, turn_range _ lo (hi - lo).toNat, ?_, fun b hb => ?_, q⟩
    · show IsRangeIter _ _ (lo + ((0 : Nat) : Int) * 1) ((((hi - lo).toNat : Nat) : Int) - ((0 : Nat) : Int)) 1
      rw [e0, e1]
      exact Heap.get?_push_size _ rfl
    · cases List.mem_singleton.mp hb
      exact J.fpOk (Nat.le_refl _) (J.hok.fresh (Nat.le_refl _))
  | false =>
    refine wpAny_pyIter_longrange (IsRange.new ..) hsm ⟨_, [_], _, _, H, rfl, J.kept (t' := tk) fun b o e => Heap.get?_push_of_some _ e, turn_long _ lo (hi - lo).toNat, ?_, fun b hb => ?_, q⟩
    · show IsLongIter _ _ (lo + ((0 : Nat) : Int) * 1) ((((hi - lo).toNat : Nat) : Int) - ((0 : Nat) : Int)) 1
      rw [e0, e1]
      exact Heap.get?_push_size _ rfl
    · cases List.mem_singleton.mp hb
      exact J.fpOk (Nat.le_refl _) (J.hok.fresh (Nat.le_refl _))
def iRngA (ta : TA) : TI := fun σ H R => ta σ H fun vs H1 => ∃ i j : Int, vs = [.int i, .int j] ∧ R (Itr i (j - i).toNat) H1
theorem pi_rangeA {a b : Expr} {ta : TA} {p pos : Pos} (hg : Gl X "range") (hm : X.mg "range" = none) (ha : PA X [a, b] ta) (hs : starEach [a, b] X.env = [(false, eval a X.env), (false, eval b X.env)] := by rfl) (hs2 : starEach [b] X.env = [(false, eval b X.env)] := by rfl) :
    PI X tg (.Call (.Name "range" p) [a, b] [] pos) (iRngA ta) := by
  refine ⟨fun pins s σ H R I h => Call_ (ld_blt I hg hm boot_range (PyProof.Rows.callWith_type1 (thn (ha.run pos pins s σ H _ I h) fun us s1 ⟨vs, H1, I1, r1, q1⟩ => ?_) (by rw [hs, hs2]) (by rw [hs2]; rfl)))⟩
  obtain ⟨i, j, e, q⟩ := q1
  subst e
  obtain ⟨u1, u2, rfl, ⟨t, rfl⟩, ⟨t', rfl⟩⟩ := vals2 r1
  exact call_range_2 (long_it I1 q)
end
end MM
namespace MM
open PySem PySem.Spec PyProof.Rows L2
section
variable {K : PySem.W.Frag} {h : Heap} {mg : Str → Option Value} {x m qual : Str} {st : Stmt} {f C T : Addr} {oc kV doc pm cdv ct cT : Value} {od an dT : Option Addr} {osl sT : Array (Option Value)} {nT : Nat}
theorem df_mk (X : K.In h) (G : h.Ns mainGlobals mg) (a : PySem.W.nsIn K mainGlobals x = some (some (.ref f))) (l : K.lookup f = some ⟨oc, od, .func (PySem.W.fnOf x x (defArgs st) (defBody st) (defScope st) .none kV doc pm an cdv ct), osl⟩)
    (c : PySem.W.codeIn K cdv x = true) (k : PySem.W.keepIn K (.ref f) = true) : Df K mg x st [] :=
  ⟨f, _, ⟨⟨oc, od, .none, kV, doc, pm, an, cdv, ct, osl, rfl, l, c, .inl ⟨rfl, rfl⟩, .inl rfl⟩, k⟩, PySem.W.mg_of X G a⟩
theorem dm_mk (cl : Cls K C) (a : PySem.W.findIn K (.ref C) m = some (some (.ref f))) (i : PySem.W.isFn K (.ref f) = true) (l : K.lookup f = some ⟨oc, od, .func (PySem.W.fnOf m qual (defArgs st) (defBody st) (defScope st) .none kV doc pm an cdv ct), osl⟩)
    (c : PySem.W.codeIn K cdv qual = true) (k : PySem.W.keepIn K (.ref f) = true) : Dm K C m qual st :=
  ⟨f, _, ⟨⟨oc, od, .none, kV, doc, pm, an, cdv, ct, osl, rfl, l, c, .inl ⟨rfl, rfl⟩, .inl rfl⟩, k⟩, ⟨a, i, k⟩, cl⟩
theorem di_mk {its : List Value} {dvs : List V} (hC : mg x = some (.ref C)) (a : PySem.W.findIn K (.ref C) "__init__" = some (some (.ref f))) (i : PySem.W.isFn K (.ref f) = true)
    (l : K.lookup f = some ⟨oc, od, .func (PySem.W.fnOf "__init__" qual (defArgs st) (defBody st) (defScope st) (.ref T) kV doc pm an cdv ct), osl⟩) (c : PySem.W.codeIn K cdv qual = true) (k : PySem.W.keepIn K (.ref f) = true)
    (mk : PySem.W.makesIn K C = true) (kc : PySem.W.keepIn K (.ref C) = true) {oT : Obj} (lT : K.lookup T = some oT) (eT : oT.data = .seq its.toArray nT) (r : Vals dvs its) (ne : dvs ≠ []) : Di K mg x C qual st dvs :=
  ⟨f, _, ⟨⟨oc, od, .ref T, kV, doc, pm, an, cdv, ct, osl, rfl, l, c, .inr ⟨ne, T, _, its, nT, rfl, lT, eT, r⟩, .inl rfl⟩, k⟩, ⟨mk, a, i, kc⟩, hC⟩
theorem kit_no {t : Value} (iC : PySem.W.isClsIn K C = true) (tC : PySem.W.typeIn K (.ref C) = some (.type "type")) (ht : (t == Value.ref C) = false) (sI : PySem.W.subIn K t (.ref C) = some false) : PySem.W.kitOne K t (.ref C) = some false := by
  unfold PySem.W.kitOne PySem.W.kitCls
  have iC' : (PySem.W.clsIn K C).isSome = true := iC
  rw [ht, if_neg Bool.false_ne_true]
  show (if ((PySem.W.clsIn K C).isSome && PySem.W.typeIn K (.ref C) == some (.type "type")) = true then PySem.W.subIn K t (.ref C) else none) = some false
  rw [iC', tC, if_pos (by simp)]
  exact sI
theorem fund_inj {params : Arguments} {body : List Stmt} {scope : Scope} {dvs : List V} {kws : List (Str × V)} {fd fd' : FuncData} (F : FunD K x qual params body scope dvs kws f fd) (F' : FunD K x qual params body scope dvs kws f fd') : fd = fd' := by
  obtain ⟨oc, od, dV, kV, doc, pm, an, cdv, ct, osl, e, lk, _⟩ := F.ex
  obtain ⟨oc', od', dV', kV', doc', pm', an', cdv', ct', osl', e', lk', _⟩ := F'.ex
  rw [lk] at lk'
  injection lk' with z
  injection z with z1 z2 z3 z4
  injection z3
end
/-- from the law's promise to what the end of the walk asks -/
theorem fin_of {P : Program} {w : World} {K : PySem.W.Frag} {mg : Str → Option Value} {st : Stmt} {k : Nat} {x : Str} {sp : Sp} {fa : Addr} (hfa : mg "law" = some (.ref fa)) (D : Df K mg "law" st []) (b : Bd "law" "law" st [x])
    (h : ∀ base : Heap, Ca P w K mg base CX0 k "law" st [] [x] sp) :
    ∃ fd : FuncData, (∀ (s : Shared) (u : Value), BindsTo s fd ⟨[u], []⟩ [(x, u)]) ∧ ∀ base : Heap, K.In base → base.Ns mainGlobals mg → FnOk P w K mg base CX0 k fa fd [x] sp := by
  obtain ⟨f, fd, F, hm⟩ := D.ex
  have e := hfa.symm.trans hm
  cases e
  refine ⟨fd, fun s u => ?_, fun base _ _ => ?_⟩
  · obtain ⟨kV, doc, pm, an, cdv, ct, rfl⟩ := FunD.none F
    exact .of_eq (b kV doc pm an cdv ct [u] rfl)
  · obtain ⟨f', fd', F', hm', G⟩ := (h base).ex
    have e' := hm.symm.trans hm'
    cases e'
    have e2 := fund_inj F F'
    subst e2
    exact G
end MM
namespace MM
open PySem PySem.Spec PyProof.Rows L2
/-! ### an except clause with a tuple of classes -/
theorem for_true {M : Model} {A : Around} {E : Value → Shared → Prop} {s : Shared} {Q : PUnit → Shared → Prop} {f : Value → PUnit → Sem (ForInStep PUnit)} : ∀ (cs : List Value),
    (∀ c ∈ cs, ∀ Q' : ForInStep PUnit → Shared → Prop, Q' (.yield .unit) s → wpAny M A (f c .unit) Q' E s) → Q .unit s → wpAny M A (forIn cs PUnit.unit f) Q E s
  | [], _, q => by
    rw [List.forIn_nil]
    exact wpAny_pure q
  | c :: cs, h, q => by
    rw [List.forIn_cons]
    exact wpAny_bind (h c List.mem_cons_self _ (for_true cs (fun d hd => h d (List.mem_cons_of_mem _ hd)) q))
theorem for_first {M : Model} {A : Around} {E : Value → Shared → Prop} {s : Shared} {Q : Option Bool × Unit → Shared → Prop} {f : Value → Option Bool × Unit → Sem (ForInStep (Option Bool × Unit))} {B : Value → Bool} : ∀ (cs : List Value),
    (∀ c ∈ cs, ∀ Q' : ForInStep (Option Bool × Unit) → Shared → Prop, Q' (if B c then .done (some true, ()) else .yield (none, ())) s → wpAny M A (f c (none, ())) Q' E s) →
    Q (if cs.any B then (some true, ()) else (none, ())) s → wpAny M A (forIn cs ((none, ()) : Option Bool × Unit) f) Q E s
  | [], _, q => by
    rw [List.forIn_nil]
    exact wpAny_pure q
  | c :: cs, h, q => by
    rw [List.forIn_cons]
    refine wpAny_bind (h c List.mem_cons_self _ ?_)
    cases hb : B c with
    | true =>
      rw [List.any_cons, hb, Bool.true_or] at q
      exact wpAny_pure q
    | false =>
      rw [List.any_cons, hb, Bool.false_or] at q
      exact for_first cs (fun d hd => h d (List.mem_cons_of_mem _ hd)) q
theorem exm_tups {M : Model} {K : PySem.W.Frag} {cls : Value} {cs : List Value} {tp e : Addr} {h : Heap} {o : Obj} {n : Nat} {B : Value → Bool} (X : K.In h) (LT : PySem.W.Looks M h (typeOf (.ref e)) cls) (hp : h.get? tp = some o) (hc : o.cls = .type "tuple") (hd : o.data = .seq cs.toArray n)
    (hx : ∀ c ∈ cs, PySem.W.exmOne K cls c = some (B c)) : PySem.W.Looks M h (excMatches (.ref e) (.ref tp)) (cs.any B) := by
  intro A Q E s k q
  have LT0 : PySem.W.Looks M h (isInstance (.ref tp) (.type "tuple")) true := by
    refine PySem.W.Looks.andThen (a := .type "tuple") (fun A Q E s k q => wpAny_typeOf_ref (k _ _ hp) (by rw [hc]; exact q)) (PySem.W.Looks.of_pure isSubtype_tuple_tuple)
  unfold excMatches
  refine wpAny_bind ((LT0.keeps k).here ?_)
  dsimp only
  rw [if_pos rfl]
  refine wpAny_bind (wpAny_seqItems (k _ _ hp) hd (wpAny_bind (wpAny_pure ?_)))
  show wpAny M A (forIn cs PUnit.unit _ >>= _) _ _ _
  refine wpAny_bind (for_true cs (fun c hcm Q' q' => ?_) ?_)
  · refine wpAny_bind (((PySem.W.exm_cls (M := M) X (hx c hcm)).1.keeps k).here ?_)
    rw [if_neg (by decide)]
    exact wpAny_pure q'
  · refine wpAny_bind ((LT.keeps k).here (wpAny_bind (for_first (B := B) cs (fun c hcm Q' q' => ?_) ?_)))
    · refine wpAny_bind (((PySem.W.exm_cls (M := M) X (hx c hcm)).2.keeps k).here ?_)
      cases hb : B c with
      | true =>
        rw [hb] at q'
        rw [if_pos rfl]
        exact wpAny_pure q'
      | false =>
        rw [hb] at q'
        rw [if_neg (by decide)]
        exact wpAny_pure q'
    · cases hb : cs.any B with
      | true =>
        rw [hb] at q
        exact wpAny_pure q
      | false =>
        rw [hb] at q
        exact wpAny_pure q
/-! ### a caught exception that is kept -/
/-- at a: an exception of the class cls, its own dict at d -/
def KX (a : Addr) (cls : Value) (d : Option Addr) : HO := .ext fun h => ∃ (oe : Obj) (vs : Array Value), h.get? a = some oe ∧ Zc cls d oe ∧ oe.data = .fields vs
theorem kx_ok {P : Program} {w : World} {H : Hp} {h : Heap} {a : Addr} {cls : Value} {d : Option Addr} {oe : Obj} {vs : Array Value} (e : h.get? a = some oe) (z : Zc cls d oe) (hd : oe.data = .fields vs) : ObjOk P w H h a (KX a cls d) :=
  ⟨⟨oe, vs, e, z, hd⟩, ⟨oe, e⟩, fun h1 h2 ⟨o, v, e1, z1, d1⟩ k => ⟨o, v, k _ e1, z1, d1⟩⟩
section
variable {X : Cx} {pins : List (Addr × Obj)} {σ : L2.St} {H : Hp} {s : Shared} {a : Addr} {oe : Obj} {vs : Array Value} {cls : Value} {d : Option Addr}
theorem Inv.track (I : Inv X pins σ H s) (ha : s.heap.get? a = some oe) (hz : Zc cls d oe) (hd : oe.data = .fields vs) (na : H a = none) (n0 : X.s_0.heap.get? a = none) (nL : a ≠ X.env.locals) (nC : ∀ x c, X.env.cells.lookup x = some c → c ≠ a)
    (nP : ∀ p ∈ X.pn ++ pins, p.1 ≠ a) : Inv X pins σ (L2.upd H a (KX a cls d)) s := by
  have neA : ∀ {b : Addr} {o : HO}, H b = some o → b ≠ a := fun e => ne_of_none e na
  have ne0 : ∀ {b : Addr} {o : Obj}, X.s_0.heap.get? b = some o → b ≠ a := fun e z => by
    rw [z, n0] at e
    cases e
  refine ⟨I.ok, I.os, I.bare, ⟨I.base.keep, I.base.slot, fun b o e n hx => ?_, I.base.there, fun b xs e => ?_, fun b o u e => ?_, fun b ps e => ?_⟩, I.loc, I.cell, ?_, fun x c e => ?_, fun p hp => ?_, fun b u e => ?_, I.len⟩
  · rw [upd_ne (ne0 e)]
    exact I.base.free b o e n hx
  · have q := I.base.tups b xs e
    rw [upd_ne (neA q)]
    exact q
  · have q := I.base.frzs b o u e
    rw [upd_ne (neA q)]
    exact q
  · obtain ⟨m, q⟩ := I.base.tbls b ps e
    exact ⟨m, by rw [upd_ne (neA q)]; exact q⟩
  · rw [upd_ne nL.symm]
    exact I.free
  · rw [upd_ne (nC x c e)]
    exact I.freeC x c e
  · obtain ⟨q1, q2, q3⟩ := I.pin p hp
    exact ⟨q1, by rw [upd_ne (nP p hp)]; exact q2, q3⟩
  · by_cases hb : b = a
    · subst hb
      rw [upd_same] at e
      cases e
      exact kx_ok ha hz hd
    · rw [upd_ne hb] at e
      exact (I.hok b u e).stay (fun c v _ q => q) (fun c q => by rw [upd_ne (neA q)]; exact q) fun c xs q => by rw [upd_ne (neA q)]; exact q
end
theorem flying_more {B h h' : Heap} {l : List Env} {e : Addr} {Z : Obj → Prop} (x : HandSPX.FlyingZ B l e Z h) (k : ∀ b o, h.get? b = some o → h'.get? b = some o) : HandSPX.FlyingZ B l e Z h' := by
  obtain ⟨f1, f2, f3, oe, vs, T, oT, ts, he, hz, hd, h1, hnT, hTe, hT, hdT, h3⟩ := x
  exact ⟨fun b o q => k b o (f1 b o q), f2, f3.of_keeps fun b o hb _ => ⟨o, k b o hb, rfl⟩, oe, vs, T, oT, ts, k _ _ he, hz, hd, h1, hnT, hTe, k _ _ hT, hdT, h3⟩
/-- the names of a tuple of classes -/
inductive Nms (X : Cx) : List Expr → List Value → Prop
  | nil : Nms X [] []
  | cons {x : Str} {p : Pos} {c : Value} {es : List Expr} {cs : List Value} (g : Gl X x) (d : (x == ("__debug__" : Str)) = false) (m : X.mg x = some c) (r : Nms X es cs) : Nms X (.Name x p :: es) (c :: cs)
/-- what try .. except (..) as n: m = n wishes of an exception of the body: i is n's slot, j m's -/
def wKeep (K : PySem.W.Frag) (cs : List Value) (i j : Nat) (D : Ends) : WX := fun cls d σ H =>
  (∃ B : Value → Bool, (∀ c ∈ cs, PySem.W.exmOne K cls c = some (B c)) ∧ cs.any B = true) ∧ ∀ a, H a = none → D.nx (((σ.set i (some (.ref a))).set j (some (.ref a))).set i none) (L2.upd H a (KX a cls d))
section
variable {X : Cx} {cs : List Value} {es : List Expr} {n m : Str} {i j : Nat} {body : List Stmt} {kt : Nat} {tpos np mp apos pos pos' : Pos} {tb : WX → TS}
theorem nms_run {Y : Cx} {pins : List (Addr × Obj)} {σ : L2.St} {H : Hp} {s : Shared} (I : Inv Y pins σ H s) {es : List Expr} {cs : List Value} (h : Nms Y es cs) : ∀ {Q : List Value → Shared → Prop} {E : Value → Shared → Prop} {pos : Pos}, Q cs s →
    wpAny (model Y.prog Y.w) Y.A (spliced (backTo pos (starEach es Y.env))) Q E s := by
  induction h with
  | nil => exact fun q => wpAny_items_nil q
  | cons g d m r ih => exact fun q => wpAny_items_cons (ld_glob I g m (ih q) d)
theorem Nms.to {X Y : Cx} (he : Y.env = X.env) (hm : Y.mg = X.mg) {es : List Expr} {cs : List Value} (h : Nms X es cs) : Nms Y es cs := by
  induction h with
  | nil => exact .nil
  | cons g d m r ih => exact .cons (by unfold Gl; rw [he]; exact g) d (by rw [hm]; exact m) ih
/-- try: body / except (..) as n: m = n; nothing else leaves the body -/
theorem ps_try_keep (hs : X.stack = X.env :: X.outer) (hf : X.env.frame = some X.env.locals) (hex : X.ex = []) (hN : X.N.Nodup) (hi : X.N[i]? = some n) (hln : X.env.kindOf n = some .local) (hj : X.N[j]? = some m) (hlm : X.env.kindOf m = some .local) (hc : Nms X es cs) (hz : cs.length ≤ 100)
    (hdb : (n == ("__debug__" : Str)) = false := by decide) (hcd : (n == ("__classdict__" : Str)) = false := by decide)
    (hb : ∀ (W : WX) (pn : List (Addr × Obj)) (xe : Value → Shared → Prop), Takes (X.tr pn xe) W → PassesOwn (model X.prog X.w) X.A X.env xe → PSs (X.tr pn xe) body (tb W))
    (hsw : swapsWith (.Name n np) (some (.Name m mp)) apos.line X.env = pure false := by rfl) :
    PS X (.Try body [.ExceptHandler (some (.Tuple es kt tpos)) (some n) [.Assign [.Name m mp] (.Name n np) apos] pos'] [] [] pos) (fun D σ H => tb (wKeep X.K cs i j D) D σ H) := by
  refine ⟨fun pins s σ H D I h => ?_⟩
  have ok := I.ok
  have hfr : X.A.frames = some (X.env :: X.outer) := by rw [ok.frames, hs]
  refine wpAny_Try_except ?_
  refine wpAny_mono ((hb (wKeep X.K cs i j D) (X.pn ++ pins) (fun e s₁ => wpAny (model X.prog X.w) X.A (noteFrame e X.env) (fun _ s₂ => wpAny (model X.prog X.w) X.A (setFlight e none) (fun _ s₃ =>
    wpAny (model X.prog X.w) X.A (handleBy e X.env [.ExceptHandler (some (.Tuple es kt tpos)) (some n) [.Assign [.Name m mp] (.Name n np) apos] pos']) (SP X pins D) X.xe s₃) X.xe s₂) X.xe s₁) (fun u s' xx => ?_) PassesOwn.looking).run [] s σ H D (I.toTry _) h) (fun f s1 hsp => ?_) (fun e s1 he => he)
  · obtain ⟨a, B, sI, pins', σ', H', cls, d, rfl, J', nb, up, sky, na, os, ag, ⟨Bc, hB, hany⟩, wish⟩ := xx
    have J : Inv X pins σ' H' sI := J'.ofTry ok
    have sky' : Sky B (X.env :: X.outer) a (Zc cls d) X.env.locals s'.heap := by rw [← hs]; exact sky
    show wpAny (model X.prog X.w) X.A (noteFrame (.ref a) X.env) _ _ _
    refine Sky.land Zc.steady hfr hf sky' fun h3 fl3 up3 => ?_
    have J3 : Inv X pins σ' H' { s' with heap := h3 } := J.landed nb fl3.1 (up.trans up3) os ag
    obtain ⟨oe3, vs3, he3, hz3, hd3⟩ := fl3.there
    have nfr : a ∉ frs (X.env :: X.outer) := fun hm => by
      obtain ⟨_, o', e', hnf⟩ := fl3.2.2.1.mem hm
      rw [he3] at e'
      cases e'
      exact hnf _ hd3
    have nL : a ≠ X.env.locals := fun z => nfr (List.mem_filterMap.mpr ⟨X.env, List.mem_cons_self, by rw [hf, z]⟩)
    have nF : a ∉ X.fs := fun hm => by
      obtain ⟨e, he, q⟩ := List.mem_filterMap.mp hm
      exact nfr (List.mem_filterMap.mpr ⟨e, List.mem_cons_of_mem _ he, q⟩)
    have nI : sI.heap.get? a = none := by
      cases q : sI.heap.get? a with
      | none => rfl
      | some o =>
        have z := nb a o q (by rw [hs]; exact nfr)
        rw [fl3.2.1] at z
        cases z
    have n0 : X.s_0.heap.get? a = none := by
      cases q : X.s_0.heap.get? a with
      | none => rfl
      | some o =>
        obtain ⟨o', z⟩ := J.base.there a o q (by rw [hex]; exact fun y => nomatch y)
        rw [nI] at z
        cases z
    have nC : ∀ x c, X.env.cells.lookup x = some c → c ≠ a := fun x c e z => by
      obtain ⟨v, o, ho, _⟩ := J.cell x c e
      rw [z, nI] at ho
      cases ho
    have nP : ∀ p ∈ X.pn ++ pins, p.1 ≠ a := fun p hp z => by
      have q := (J.pin p hp).1
      rw [z, nI] at q
      cases q
    have S3 := J3.suite he3 hd3 na nL nF
    refine wpAny_handleBy_cons (codeAny_handlers_test ?_) (by intro q; cases q)
    refine wpAny_Tuple (nms_run (Y := X.suite a ((a, oe3) :: (X.pn ++ pins))) S3 (Nms.to (X := X) (Y := X.suite a ((a, oe3) :: (X.pn ++ pins))) rfl rfl hc) ⟨Nat.le_trans hz (by decide), ?_⟩)
    have kp : ∀ b o, h3.get? b = some o → (h3.push { cls := .type "tuple", data := .seq cs.toArray }).get? b = some o := fun b o e => Heap.get?_push_of_some _ e
    have LT : PySem.W.Looks (model X.prog X.w) (h3.push { cls := .type "tuple", data := .seq cs.toArray }) (typeOf (.ref a)) cls := fun A Q E s k q => wpAny_typeOf_ref (k _ _ (kp _ _ he3)) (by rw [hz3.1]; exact q)
    have LM := exm_tups (M := model X.prog X.w) (J3.kIn.keeps kp) LT (Heap.get?_push_size h3 rfl) rfl rfl hB
    rw [hany] at LM
    refine LM.here ?_
    refine codeAny_handlers_suite_as ?_
    have fl3' := flying_more fl3 kp
    refine HandSPX.lands_againZ fl3' fun h4 fl4 up4 => ?_
    have upp : h3.UpToSlots (h3.push { cls := .type "tuple", data := .seq cs.toArray }) := fun b o hb _ => ⟨o.slots, kp b o hb⟩
    have J4 : Inv X pins σ' H' { s' with heap := h4 } := J.landed nb fl4.1 (((up.trans up3).trans upp).trans up4) os ag
    obtain ⟨oe4, vs4, he4, hz4, hd4⟩ := fl4.there
    have S4 := J4.suite he4 hd4 na nL nF
    refine store_ok (X := X.suite a ((a, oe4) :: (X.pn ++ pins))) (v := .ref a) S4 hN hi (.inl hln) rfl (fun s5 S5 => ?_) (.inr hln)
    have rd : PSs (X.suite a ((a, oe4) :: (X.pn ++ pins))) [.Assign [.Name m mp] (.Name n np) apos] (tAsg (tVar i) (gName j)) := pss_one (ps_set hN hj (.inl hlm) (pe_var hi (.inl hln) hdb hcd) hsw (.inr hlm))
    refine wpAny_mono (rd.run [] s5 _ H' { nx := fun σ6 H6 => σ6 = (σ'.set i (some (.ref a))).set j (some (.ref a)) ∧ H6 = H', rt := fun _ _ => False } S5 ⟨_, ?_, rfl, rfl⟩) (fun f s6 hsp => ?_) (fun _ _ z => False.elim z)
    · exact List.getElem?_set_self (by rw [J.len]; exact (List.getElem?_eq_some_iff.mp hi).1)
    · cases f with
      | next =>
        obtain ⟨σ6, H6, S6, rfl, rfl⟩ := hsp
        obtain ⟨p1, p2, _⟩ := S6.pin (a, oe4) (List.mem_append_left _ List.mem_cons_self)
        have J6 := Inv.track (S6.unsuite ok) p1 hz4 hd4 na n0 nL nC nP
        exact gone_ok J6 hN hi hln fun s7 J7 => ⟨_, _, J7, wish a na⟩
      | brk =>
        obtain ⟨_, _, _, z⟩ := hsp
        exact z.elim
      | cont =>
        obtain ⟨_, _, _, z⟩ := hsp
        exact z.elim
      | ret u =>
        obtain ⟨_, _, _, _, _, z⟩ := hsp
        exact z.elim
  · cases f with
    | next =>
      obtain ⟨σ1, H1, J1, q⟩ := hsp
      exact wpAny_execs_nil ⟨σ1, H1, J1.ofTry ok, q⟩
    | brk =>
      obtain ⟨σ1, H1, J1, q⟩ := hsp
      exact ⟨σ1, H1, J1.ofTry ok, q⟩
    | cont =>
      obtain ⟨σ1, H1, J1, q⟩ := hsp
      exact ⟨σ1, H1, J1.ofTry ok, q⟩
    | ret u =>
      obtain ⟨v1, σ1, H1, J1, r1, q⟩ := hsp
      exact ⟨v1, σ1, H1, J1.ofTry ok, r1, q⟩
end
end MM
namespace MM
open PySem PySem.Spec PySem.Calls PyProof.Rows L2
/-! ### str(x) of an instance with its own __str__ -/
def rStrO (C : Addr) (sp : Sp) (E : XK) : List V → Hp → VK → Prop := fun xs H Q => ∃ (a dx : Addr) (fs : List (Str × V)), xs = [.ref a] ∧ H a = some (.ins C dx fs) ∧ sp [.ref a] H (fun v H' => ∃ x : Str, v = .str x ∧ Q (.str x) H') E
section
variable {X : Cx} {CX : CXT} {k : Nat} {C f : Addr} {fd : FuncData} {ps : List Str} {sp : Sp} {E : XK}
theorem call_strO (F : FnOk X.prog X.w X.K X.mg X.base CX k f fd ps sp) (hs : PySem.W.findIn X.K (.ref C) "__str__" = some (some (.ref f))) (hf : PySem.W.isFn X.K (.ref f) = true) (hb : Binds X.K fd ps []) (hx : Passes CX X E) (hr : Room (k + 2) X.A) : CallR X (.type "str") (rStrO C sp E) := by
  intro pins s σ H xs us Q I r h
  obtain ⟨a, dx, fs, rfl, ha, hq⟩ := h
  obtain ⟨u, rfl, r1⟩ := vals1 r
  cases (show u = Value.ref a from r1)
  obtain ⟨mA, J, _⟩ := ins_get I.hok ha
  obtain ⟨od, J, _⟩ := J.look
  have hr1 : Room (k + 1) X.A.in1 := hr.in1
  have hr2 : Room k X.A.in1.in1 := hr1.in1
  have hl : ([Value.ref a] ++ []).length = ps.length := (show ([V.ref a] : List V).length = _ from F.len _ _ _ _ hq)
  refine PySem.W.kso_call hr2.units0 I.kIn J hs hf (wpAny_call (codeAny_mono (F.run X.A.in1.in1 X.stack s H ⟨[.ref a], []⟩ [.ref a] [.ref a] _ E hr2 I.env0.in1.in1 (hb s [.ref a] I.kIn hl) (.cons rfl .nil) hq) fun res s' hres => ?_))
  match res, hres with
  | .error er, hres => exact hx pins σ H s er s' I hres
  | .ok .next, hres => exact hres.elim
  | .ok .brk, hres => exact hres.elim
  | .ok .cont, hres => exact hres.elim
  | .ok (.ret u), hres =>
    obtain ⟨z, H', I', rz, x, rfl, q⟩ := I.after hres
    obtain ⟨t, rfl⟩ := rz
    exact ⟨.str x, H', I', ⟨t, rfl⟩, q⟩
/-- x == y by x's own __eq__, whatever y is -/
def rEqO (K : PySem.W.Frag) (C : Addr) (sp : Sp) (E : XK) : R2 := fun x y H Q => ∃ (a dx : Addr) (fs : List (Str × V)) (t : Value), x = .ref a ∧ H a = some (.ins C dx fs) ∧ TyX K H y t ∧ PySem.W.notFirst K C t = true ∧ sp [.ref a, y] H (fun v H' => ∃ b : Bool, v = .bl b ∧ Q (.bl b) H') E
theorem op_eqO (F : FnOk X.prog X.w X.K X.mg X.base CX k f fd ps sp) (hs : PySem.W.findIn X.K (.ref C) "__eq__" = some (some (.ref f))) (hf : PySem.W.isFn X.K (.ref f) = true) (hb : Binds X.K fd ps []) (hx : Passes CX X E) (hr : Room k X.A) : OpR X (compareOp .Eq) (rEqO X.K C sp E) := by
  intro pins s σ H x y v u Q I rx ry h
  obtain ⟨a, dx, fs, t, rfl, ha, ty, nf, hq⟩ := h
  cases (show v = Value.ref a from rx)
  obtain ⟨mA, J, _⟩ := ins_get I.hok ha
  obtain ⟨od, J, _⟩ := J.look
  obtain ⟨P, kx, hP, _⟩ := kit_of I ry ty
  obtain ⟨m, fr⟩ := I.fr
  have hl : ([Value.ref a, u] ++ []).length = ps.length := (show ([V.ref a, y] : List V).length = _ from F.len _ _ _ _ hq)
  show wpAny (model X.prog X.w) X.A (richCompare .Eq (.ref a) u) _ _ s
  refine PySem.W.cmp_K (op := .Eq) hr.units0 fr I.ok.mod.kin J (kx.ty _ _ I.kIn hP) nf hs hf (wpAny_call (codeAny_mono (F.run X.A X.stack s H ⟨[.ref a, u], []⟩ [.ref a, u] [.ref a, y] _ E hr I.env0 (hb s [.ref a, u] I.kIn hl) (.cons rfl (.cons ry .nil)) hq) fun res s' hres => ?_))
  match res, hres with
  | .error er, hres => exact hx pins σ H s er s' I hres
  | .ok .next, hres => exact hres.elim
  | .ok .brk, hres => exact hres.elim
  | .ok .cont, hres => exact hres.elim
  | .ok (.ret z0), hres =>
    obtain ⟨z, H', I', rz, b, rfl, q⟩ := I.after hres
    cases (show z0 = Value.bool b from rz)
    exact ⟨.bl b, H', I', rfl, q⟩
end
end MM
namespace MM
open PySem PySem.Spec PyProof.Rows L2
/-! ### sep.join(reversed(xs)) -/
theorem strs_of : ∀ {zs : List Str} {l : List Value}, Vals (zs.map V.str) l → StrsAre l zs
  | [], _, h => by
    cases h
    exact .nil
  | z :: zs, _, h => by
    cases h with
    | cons a r =>
      obtain ⟨t, rfl⟩ := a
      exact .cons z t (strs_of r)
section
variable {prog : Program} {w : World} {A : Around} {E : Value → Shared → Prop} {s : Shared}
theorem join_rev {x : Str} {t : Tok} {ys : List Str} {it l : Addr} {items : Array Value} {Q : Value → Shared → Prop} (hh : A.handled = none) (hit : s.heap.IsRevIter it l ((items.size : Int) - 1)) (hl : s.heap.IsList l items) (hne : l ≠ it) (hn : items.size ≤ sizeLine)
    (hP : ∀ acc : Array Value, ItemsOf (fun i v => items[items.size - 1 - i]? = some v) acc items.size → StrsAre acc.toList ys) (hok : (ys.map (·.length)).sum + ys.length * x.length ≤ 16777216)
    (hq : ∀ (h' : Heap) (t' : Tok) (k : Nat), (∀ b o, b ≠ it → s.heap.get? b = some o → h'.get? b = some o) → Q (.str (Txt.join x ys) t') { s with heap := h', toks := k }) :
    wpAny (model prog w) A (call (.builtin "str.join") [.str x t, .ref it]) Q E s := by
  refine wpAny_call (codeAny_call_builtin F.slot_str_join.plain F.entry_str_join (F.slot_str_join.check _ _ _ _ _ _ _ _ (typeIs_str _ _ _) (F.args_str_join_2 _ _) ?_))
  rw [join_tree_other]
  refine wpAny_bind (wpAny_typeOf (Heap.IsRevIter.typeIs hit) ?_)
  show wpAny _ A.in1 ((pyIter (.ref it)).tryCatch _ >>= fun i0 => collect i0 >>= fun c0 => joinTail x c0) _ _ s
  refine wpAny_bind (wpAny_tryCatch (wpAny_pyIter_revIter hit ?_))
  refine wpAny_bind (RT.collect_rev (A := A.in1) hh hit hl hne hn fun h' tk acc hk hacc => ?_)
  obtain ⟨l0, h0, e0⟩ := strsAre_values (hP acc hacc)
  subst e0
  rw [h0]
  have fit := joinOk_of hok
  unfold JoinOk at fit
  rw [Bool.not_eq_true'] at fit
  have g : Gives (joinTail x (strValues l0)) (joinMade x l0) := by
    have g0 := gives_joinTail x l0 fit
    rcases l0 with _ | ⟨p, _ | ⟨q, r⟩⟩ <;> exact g0
  exact g prog w A (wants Q E) _ (post_join l0 ⟨joinFit_length fit, fun t' k => hq h' t' k hk⟩)
end
section
variable {X : Cx}
def tJoinRev (K : PySem.W.Frag) (to te : TE) : TE := fun σ H Q => to σ H fun x H1 => (∃ a, x = .str a) ∧ te σ H1 fun v H2 => ∃ (a : Str) (q : Addr) (ys : List Str), x = .str a ∧ v = .ref q ∧ SqL K H2 q (ys.map V.str) ∧ (ys.reverse.map (·.length)).sum + ys.reverse.length * a.length ≤ 16777216 ∧ Q (.str (Txt.join a ys.reverse)) H2
theorem pe_joinRev {o e : Expr} {to te : TE} {apos pos p pos2 : Pos} (hc : X.calm = true) (ho : PE X o to) (hg : Gl X "reversed") (hm : X.mg "reversed" = none) (he : PE X e te)
    (hs1 : starEach [.Call (.Name "reversed" p) [e] [] pos2] X.env = [(false, eval (.Call (.Name "reversed" p) [e] [] pos2) X.env)] := by rfl) (hs : starEach [e] X.env = (false, eval e X.env) :: starEach [] X.env := by rfl)
    (hbase : attributeBase o "join" X.env (eval o X.env) = eval o X.env := by rfl) (hline : (apos.endLine == pos.line) = true := by rfl) :
    PE X (.Call (.Attribute o "join" apos) [.Call (.Name "reversed" p) [e] [] pos2] [] pos) (tJoinRev X.K to te) := by
  refine ⟨fun pins s σ H Q I h => ?_⟩
  refine PySem.Call_method1 hbase hs1 hline (thn (ho.run pins s σ H _ I h) fun v s1 hh => ?_)
  obtain ⟨x, H1, I1, r1, ⟨a, rfl⟩, q1⟩ := hh
  obtain ⟨t, rfl⟩ := _root_.id r1
  refine ⟨"str", _, F.plainAttrs_str, F.slot_str_join, F.type_str_join, typeIs_str _ _ _, (fun _ e => nomatch e), Calls.callWith_builtin rfl (Calls.evalArgs_plain (Calls.spliced_cons ?_))⟩
  refine Call_ (ld_blt I1 hg hm PyProof.Rows.boot_reversed (PyProof.Rows.callWith_type1 (args_cons (thn (he.run pins s1 σ H1 _ I1 q1) fun u s2 hh => args_nil ?_) hs) hs rfl))
  obtain ⟨v, H2, I2, r2, a', q, ys, ea, rfl, hq, hz, q2⟩ := hh
  cases ea
  cases (show u = Value.ref q from r2)
  obtain ⟨its, rv, p', hsz⟩ := I2.list hq
  refine call_reversed_list p'.isList ?_
  have grow : ∀ b o, s2.heap.get? b = some o → (s2.heap.push (revObj q ((its.toArray.size : Int) - 1))).get? b = some o := fun b o z => Heap.get?_push_of_some _ z
  have I3 : Inv X pins σ H2 { s2 with heap := s2.heap.push (revObj q ((its.toArray.size : Int) - 1)) } := I2.kept (t' := s2.toks) grow
  obtain ⟨f0, f1, f2, f3, f4, f5⟩ := I2.fpOk (H' := H2) (b := s2.heap.objs.size) (Nat.le_refl _) (I2.hok.fresh (Nat.le_refl _))
  have hl := p'.isList
  obtain ⟨ol, hol, _⟩ := _root_.id hl
  have hne : q ≠ s2.heap.objs.size := Nat.ne_of_lt (Heap.lt_size hol)
  have hn : its.toArray.size ≤ sizeLine := by rw [List.size_toArray, ← rv.length]; exact hsz
  refine Calls.spliced_nil ?_
  refine join_rev (s := { s2 with heap := s2.heap.push (revObj q ((its.toArray.size : Int) - 1)) }) (ys := ys.reverse) (I2.ok.hd hc) ⟨_, Heap.get?_push_size _ rfl, rfl, rfl⟩ (hl.push _) hne hn (fun acc hacc => strs_of ?_) hz fun h' t' k hk => ?_
  · rw [List.map_reverse]
    exact RT.vals_rev rv hacc
  · exact ⟨.str _, H2, I3.turned (t' := k) (fun b o hb z => hk b o hb z) f0 f1 f3 f4 f5, ⟨t', rfl⟩, q2⟩
end
end MM
namespace MM
open PySem PySem.Spec PySem.Calls PyProof.Rows L2
section
variable {X : Cx} {CX : CXT} {k j : Nat} {C : Addr} {qual : Str} {st : Stmt} {ps : List Str} {sp : Sp} {E : XK}
/-- x == y by the __eq__ of x's class -/
theorem op_eqC (c : Cm X.prog X.w X.K X.mg X.base CX k C "__eq__" qual st ps sp) (b : Bd "__eq__" qual st ps) (hx : Passes CX X E) (hr : Room j X.A) (hk : k ≤ j) : OpR X (compareOp .Eq) (rEqO X.K C sp E) := by
  obtain ⟨f, fd, F, M, hc, G⟩ := c.ex
  exact op_eqO G M.1 M.2 (F.bindsN b) hx (hr.mono hk)
theorem nf_self {K : PySem.W.Frag} {C : Addr} : PySem.W.notFirst K C (.ref C) = true := by
  unfold PySem.W.notFirst
  simp
end
end MM
namespace MM
open PySem PySem.Spec PyProof.Rows L2
theorem no' {A B : Prop} {b : Bool} (hb : b = false) (h : B) : if b = true then A else B := by
  subst hb
  exact iteF h
theorem upd_keep {H H1 : Hp} {D : Addr} {o : HO} (nD : H D = none) (s : Same H H1) : Same H (L2.upd H1 D o) := fun b u e => by
  rw [upd_ne (ne_of_none e nD)]
  exact s b u e
section
variable {J : It} {n : Nat} {G : Hp → Prop} {Y : Nat → Hp → V → Hp → Prop}
/-- a comprehension without a test whose i-th thing has Ps i -/
theorem lc_all (w : Walk J n G Y) (hY : ∀ i H x H', Y i H x H' → Same H H') {g : TG} {te : TE} {vs : List Nat} {σ : L2.St} {H : Hp} {D : Addr} {Qd : Hp → Prop} (nD : H D = none) (hn : n < sizeLine) (Ps : Nat → V → Hp → Prop)
    (hm : ∀ j v H1 H2, Same H1 H2 → Ps j v H1 → Ps j v H2) (hp : ∀ j v H1 acc acc', H1 D = some (.lst acc) → Ps j v H1 → Ps j v (L2.upd H1 D (.lst acc'))) (hG : ∀ H', Same H H' → G H')
    (hs : ∀ i x H1 H2 (R : V → Hp → Prop), i < n → Same H H1 → Y i H1 x H2 → (∀ v H3, Same H2 H3 → Ps i v H3 → R v H3) → g x (wipe σ vs) H2 fun σ2 H3 => wipe σ2 vs = wipe σ vs ∧ te σ2 H3 R)
    (hd : ∀ (us : List V) H', us.length = n → H' D = some (.lst us) → Same H H' → (∀ j v, us[j]? = some v → Ps j v H') → Qd H') :
    ∃ W : Nat → Nat → Hp → Prop, (∃ m, W 0 m (L2.upd H D (.lst []))) ∧ ∀ i m H, W i m H →
      (J.stop i H ∧ Qd H) ∨ (J.go i H ∧ ∃ Nx : Hp → Prop, (∀ H', Nx H' → ∃ m', m' < m ∧ W (i + 1) m' H') ∧ ∀ x H', J.yld i H x H' → g x (wipe σ vs) H' fun σ2 H2 => wipe σ2 vs = wipe σ vs ∧ tYes σ2 H2 fun b H3 =>
        if b = true then te σ2 H3 fun y H4 => ∃ acc, H4 D = some (.lst acc) ∧ acc.length < sizeLine ∧ Nx (L2.upd H4 D (.lst (acc ++ [y]))) else Nx H3) := by
  refine lc_it w (fun i H' => ∃ us : List V, us.length = i ∧ H' D = some (.lst us) ∧ Same H H' ∧ ∀ j v, us[j]? = some v → Ps j v H') ⟨[], rfl, upd_same, upd_keep nD (Same.refl H), fun j v h => by simp at h⟩ (fun i H' _ ⟨_, _, _, s, _⟩ => hG H' s) ?_ (fun H' ⟨us, l, e, s, p⟩ => hd us H' l e s p)
  rintro i x H1 H2 hi ⟨us, hl, e, s, p⟩ y
  refine hs i x H1 H2 _ hi s y fun v H3 s3 pv => ?_
  have s2 := hY _ _ _ _ y
  have e3 := s3 _ _ (s2 _ _ e)
  refine ⟨us, e3, by omega, us ++ [v], by rw [List.length_append, hl]; rfl, upd_same, upd_keep nD (s.trans (s2.trans s3)), fun j u hj => ?_⟩
  by_cases hjl : j < us.length
  · rw [List.getElem?_append_left hjl] at hj
    exact hp _ _ _ _ _ e3 (hm _ _ _ _ (s2.trans s3) (p j u hj))
  · rw [List.getElem?_append_right (by omega)] at hj
    have ej : j = us.length := by
      by_cases hz : j - us.length = 0
      · omega
      · have : ([v] : List V)[j - us.length]? = none := List.getElem?_eq_none_iff.mpr (by simp; omega)
        rw [this] at hj
        cases hj
    subst ej
    rw [Nat.sub_self] at hj
    cases hj
    rw [hl]
    exact hp _ _ _ _ _ e3 pv
/-- a comprehension whose i-th thing is the whole number f i -/
theorem lc_ints (w : Walk J n G Y) (hY : ∀ i H x H', Y i H x H' → Same H H') {g : TG} {te : TE} {vs : List Nat} {σ : L2.St} {H : Hp} {D : Addr} {Qd : Hp → Prop} (nD : H D = none) (hn : n < sizeLine) (f : Nat → Int) (hG : ∀ H', Same H H' → G H')
    (hs : ∀ i x H1 H2 (R : V → Hp → Prop), i < n → Same H H1 → Y i H1 x H2 → (∀ H3, Same H2 H3 → R (.int (f i)) H3) → g x (wipe σ vs) H2 fun σ2 H3 => wipe σ2 vs = wipe σ vs ∧ te σ2 H3 R)
    (hd : ∀ H', H' D = some (.lst (((List.range n).map f).map V.int)) → Same H H' → Qd H') :
    ∃ W : Nat → Nat → Hp → Prop, (∃ m, W 0 m (L2.upd H D (.lst []))) ∧ ∀ i m H, W i m H →
      (J.stop i H ∧ Qd H) ∨ (J.go i H ∧ ∃ Nx : Hp → Prop, (∀ H', Nx H' → ∃ m', m' < m ∧ W (i + 1) m' H') ∧ ∀ x H', J.yld i H x H' → g x (wipe σ vs) H' fun σ2 H2 => wipe σ2 vs = wipe σ vs ∧ tYes σ2 H2 fun b H3 =>
        if b = true then te σ2 H3 fun y H4 => ∃ acc, H4 D = some (.lst acc) ∧ acc.length < sizeLine ∧ Nx (L2.upd H4 D (.lst (acc ++ [y]))) else Nx H3) := by
  refine lc_all w hY nD hn (fun i v _ => v = .int (f i)) (fun _ _ _ _ _ h => h) (fun _ _ _ _ _ _ h => h) hG (fun i x H1 H2 R hi s y k => hs i x H1 H2 R hi s y fun H3 s3 => k _ H3 s3 rfl) fun us H' l e s p => ?_
  have eu : us = ((List.range n).map f).map V.int := by
    refine List.ext_getElem? fun j => ?_
    by_cases hj : j < us.length
    · have h1 := List.getElem?_eq_getElem hj
      rw [h1, p j _ h1]
      rw [List.getElem?_map, List.getElem?_map, List.getElem?_range (by omega)]
      rfl
    · rw [List.getElem?_eq_none_iff.mpr (by omega), List.getElem?_eq_none_iff.mpr (by simp; omega)]
  subst eu
  exact hd H' e s
end
theorem yFn_same {f : Nat → V} : ∀ i H x H', YFn f i H x H' → Same H H' := fun _ _ _ _ h => by rw [h.1]; exact Same.refl _
theorem yAt_same {xs : List V} : ∀ i H x H', YAt xs i H x H' → Same H H' := fun _ _ _ _ h => by rw [h.1]; exact Same.refl _
theorem yPair_same {xs ys : Nat → Option V} : ∀ i H x H', YPair xs ys i H x H' → Same H H' := by
  rintro i H x H' ⟨T, a, b, rfl, nT, rfl, _⟩
  exact upd_keep nT (Same.refl H)
/-! ### lists of whole numbers, compared -/
theorem dps_ints {K : PySem.W.Frag} {H : Hp} : ∀ ns : List Int, DpAll K H (ns.map V.int) (ns.map PyData.int)
  | [] => .nil
  | n :: ns => .cons (.int n) (dps_ints ns)
theorem dp_ints {K : PySem.W.Frag} {H : Hp} {a : Addr} {ns : List Int} (h : H a = some (.lst (ns.map V.int))) : Dp K H (.ref a) (.list (ns.map PyData.int)) := .lst (SqL.of h) (dps_ints ns)
theorem lay_ints : ∀ ns : List Int, PyData.canLayAll0 (ns.map PyData.int) = true
  | [] => rfl
  | n :: ns => by
    rw [List.map_cons, PyData.canLayAll0, lay_ints ns]
    rfl
theorem dep_ints : ∀ ns : List Int, PyData.depthAll (ns.map PyData.int) ≤ 1
  | [] => by simp [PyData.depthAll]
  | n :: ns => by
    have h := dep_ints ns
    simp only [List.map_cons, PyData.depthAll, PyData.depth]
    omega
theorem sh_ints (ns : List Int) : SeqAt.shaped (.list (ns.map PyData.int)) = true := by
  have h := dep_ints ns
  show (PyData.canLay0 (.list (ns.map PyData.int)) && decide (PyData.depth (.list (ns.map PyData.int)) ≤ 64)) = true
  rw [Bool.and_eq_true]
  refine ⟨by simp only [PyData.canLay0]; exact lay_ints ns, decide_eq_true ?_⟩
  simp only [PyData.depth]
  omega
theorem eqv_intL (ns : List Int) : PyData.eqv (.list (ns.map PyData.int)) (.list (ns.map PyData.int)) = true := SeqAt.eqv_refl _ (by simp only [PyData.canLay0]; exact lay_ints ns)
/-! ### steps from each to the next -/
def stp (f : Nat → Int) (n : Nat) : List Int := (List.range n).map fun i => f (i + 1) - f i
theorem stp_sum (f : Nat → Int) : ∀ n, (stp f n).sum = f n - f 0
  | 0 => by simp [stp]
  | n + 1 => by
    have h := stp_sum f n
    unfold stp at *
    rw [List.range_succ, List.map_append, List.sum_append, h]
    simp
    omega
end MM
namespace MM
open PySem PySem.Spec PySem.Calls PyProof.Rows L2
/-! ### x != y where the class has an own __eq__ and no __ne__ -/
section
variable {prog : Program} {w : World} {A : Around} {E : Value → Shared → Prop} {s : Shared} {K : PySem.W.Frag} {x C L f : Addr} {h₀ : Heap} {m : Str → Option Value} {ox : Obj} {od : Option Obj} {name : Str} {b tb : Value}
theorem ifBound_B {M : Model} {id : String} {args : List Value} {Q : Option Value → Shared → Prop} (X : K.In s.heap) (I : PySem.W.InstAt s.heap x ox C od) (hs : PySem.W.findIn K (.ref C) name = some (some (.builtin id))) (S : Slot "object" name id)
    (h : wpAny M A (call (.builtin id) (.ref x :: args)) (fun v => Q (some v)) E s) : wpAny M A (callSpecialIfBound? (.ref x) name args) Q E s := by
  simp only [callSpecialIfBound?, bindSpecialIfBound?]
  refine wpAny_holding (wpAny_bind (wpAny_bind (wpAny_bind (I.type.here ((PySem.W.looks_findIn X hs).here ?_)))))
  simp only [S.bind]
  refine wpAny_bind (wpAny_askSetting (wpAny_ite ?_))
  have fin : wpAny M A (call (.builtin id) ([.ref x] ++ args) >>= fun v => pure (some v)) Q E s := wpAny_bind (wpAny_mono h (fun v s' h' => wpAny_pure h') fun _ _ h' => h')
  split
  · exact wpAny_bind (wpAny_pure (wpAny_pure fin))
  · exact wpAny_tryCatch (wpAny_bind (wpAny_pure (wpAny_pure fin)))
theorem objNe_own {Q : Fin → Shared → Prop} (X : K.In s.heap) (I : PySem.W.InstAt s.heap x ox C od) (hs : PySem.W.findIn K (.ref C) "__eq__" = some (some (.ref f))) (hf : PySem.W.isFn K (.ref f) = true) (hu : A.units < cLine)
    (hcall : wpAny (model prog w) A (call (.ref f) [.ref x, b]) (fun v s' => ∃ r, v = .bool r ∧ Q (.done (.ret (.bool (!r)))) s') E s) :
    wpAny (model prog w) A (Builtin.«object.__ne__» ⟨[.ref x, b], []⟩) Q E s := by
  obtain ⟨h, g, d, t, os⟩ := s
  unfold Builtin.«object.__ne__»
  repeat (first
    | with_reducible refine wpAny_cRoomFor hu ?_
    | (refine wpAny_bind (m := callSpecialIfBound? (.ref x) (Str.ofString "__eq__") [b])
        (PySem.W.ifBound_K X I hs hf (wpAny_mono hcall (fun r s' hr => by
          obtain ⟨b, rfl, hq⟩ := hr
          repeat (first | exact hq | exact wpAny_pure hq | exact wpAny_truthy_bool hq | (refine wpAny_bind (m := truthy (.bool _)) (wpAny_truthy_bool ?_)) | wp_step)) fun _ _ e => e)))
    | wp_step)
/-- what the written part says of such a class -/
structure NeT (K : PySem.W.Frag) (C : Addr) : Prop where
  ne : PySem.W.findIn K (.ref C) "__ne__" = some (some (.builtin "object.__ne__"))
  cls : ∃ nm q N bs hd sn sub ab col dd k0 k1 k2 k3 k5 nw, K.lookup C = some (excClassObj nm q C N bs [.type "object"] hd sn sub ab col dd k0 k1 k2 k3 k5 nw)
theorem ne_K {Q : Value → Shared → Prop} (T : NeT K C) (hu : A.units + 1 < cLine) (F : Fr h₀ L s.heap m) (X₀ : K.In h₀) (I : PySem.W.InstAt s.heap x ox C od) (hb : PySem.W.Looks (model prog w) s.heap (typeOf b) tb) (hn : PySem.W.notFirst K C tb = true)
    (hs : PySem.W.findIn K (.ref C) "__eq__" = some (some (.ref f))) (hf : PySem.W.isFn K (.ref f) = true)
    (h : wpAny (model prog w) A.in1 (call (.ref f) [.ref x, b]) (fun v s' => ∃ r, v = .bool r ∧ Q (.bool (!r)) s') E s) : wpAny (model prog w) A (richCompare .NotEq (.ref x) b) Q E s := by
  have X := X₀.keeps F.keep
  obtain ⟨nm, q, N, bs, hd, sn, sub, ab, col, dd, k0, k1, k2, k3, k5, nw, hC⟩ := T.cls
  have one : wpAny (model prog w) A (tryCompare (.ref x) "__ne__" b) (fun r s' => ∃ v, r = some v ∧ Q v s') E s := by
    unfold tryCompare
    obtain ⟨hp, g, d, t, os⟩ := s
    refine wpAny_bind (ifBound_B X I T.ne PySem.F.cmp_object.ne (wpAny_call (codeAny_call_builtin PySem.F.cmp_object.ne.plain PySem.F.cmpEntry_ne (wpAny_check_slot_inst PySem.F.cmpKind_ne PySem.F.cmpSplit_ne (PySem.F.cmpArgs_ne _ _) PySem.F.cmp_object.hasObject I.at_ I.cls (X _ _ hC) (objNe_own (A := A.in1) X I hs hf hu (wpAny_mono h (fun v s' hv => ?_) fun _ _ e => e))))))
    obtain ⟨r, rfl, hq⟩ := hv
    first | exact ⟨r, rfl, wpAny_pure ⟨_, rfl, hq⟩⟩ | exact ⟨r, rfl, wpAny_pure (wpAny_pure ⟨_, rfl, hq⟩)⟩ | exact ⟨r, rfl, ⟨_, rfl, hq⟩⟩
  unfold richCompare
  simp only [oneThing_ref]
  refine wpAny_holding (wpAny_bind (wpAny_cRoomFor (Nat.lt_of_succ_lt hu) ?_))
  refine wpAny_bind (I.type.here (wpAny_bind (hb.here ?_)))
  split
  · rename_i q
    have e : PySem.W.subIn K tb (.ref C) = some false := by
      rcases Bool.or_eq_true_iff.mp hn with e | e
      · rw [beq_iff_eq.mp e] at q
        simp at q
      · exact beq_iff_eq.mp e
    refine wpAny_bind ((PySem.W.looks_subIn X e).here ?_)
    simp only [Bool.false_eq_true, if_false]
    refine wpAny_bind (wpAny_mono one (fun r s' z => ?_) fun _ _ e => e)
    obtain ⟨v, rfl, hq⟩ := z
    exact wpAny_pure hq
  · refine wpAny_bind (wpAny_pure ?_)
    simp only [Bool.false_eq_true, if_false]
    refine wpAny_bind (wpAny_mono one (fun r s' z => ?_) fun _ _ e => e)
    obtain ⟨v, rfl, hq⟩ := z
    exact wpAny_pure hq
end
section
variable {X : Cx} {CX : CXT} {k j : Nat} {C f : Addr} {fd : FuncData} {qual : Str} {st : Stmt} {ps : List Str} {sp : Sp} {E : XK}
def rNeO (K : PySem.W.Frag) (C : Addr) (sp : Sp) (E : XK) : R2 := fun x y H Q => ∃ (a dx : Addr) (fs : List (Str × V)) (t : Value), x = .ref a ∧ H a = some (.ins C dx fs) ∧ TyX K H y t ∧ PySem.W.notFirst K C t = true ∧ sp [.ref a, y] H (fun v H' => ∃ b : Bool, v = .bl b ∧ Q (.bl (!b)) H') E
theorem op_neO (T : NeT X.K C) (F : FnOk X.prog X.w X.K X.mg X.base CX k f fd ps sp) (hs : PySem.W.findIn X.K (.ref C) "__eq__" = some (some (.ref f))) (hf : PySem.W.isFn X.K (.ref f) = true) (hb : Binds X.K fd ps []) (hx : Passes CX X E) (hr : Room (k + 1) X.A) : OpR X (compareOp .NotEq) (rNeO X.K C sp E) := by
  intro pins s σ H x y v u Q I rx ry h
  obtain ⟨a, dx, fs, t, rfl, ha, ty, nf, hq⟩ := h
  cases (show v = Value.ref a from rx)
  obtain ⟨mA, J, _⟩ := ins_get I.hok ha
  obtain ⟨od, J, _⟩ := J.look
  obtain ⟨P, kx, hP, _⟩ := kit_of I ry ty
  obtain ⟨m, fr⟩ := I.fr
  have hl : ([Value.ref a, u] ++ []).length = ps.length := (show ([V.ref a, y] : List V).length = _ from F.len _ _ _ _ hq)
  have hr1 : Room k X.A.in1 := hr.in1
  have hun : X.A.units + 1 < cLine := by
    have := hr.un
    omega
  show wpAny (model X.prog X.w) X.A (richCompare .NotEq (.ref a) u) _ _ s
  refine ne_K T hun fr I.ok.mod.kin J (kx.ty _ _ I.kIn hP) nf hs hf (wpAny_call (codeAny_mono (F.run X.A.in1 X.stack s H ⟨[.ref a, u], []⟩ [.ref a, u] [.ref a, y] _ E hr1 I.env0.in1 (hb s [.ref a, u] I.kIn hl) (.cons rfl (.cons ry .nil)) hq) fun res s' hres => ?_))
  match res, hres with
  | .error er, hres => exact hx pins σ H s er s' I hres
  | .ok .next, hres => exact hres.elim
  | .ok .brk, hres => exact hres.elim
  | .ok .cont, hres => exact hres.elim
  | .ok (.ret z0), hres =>
    obtain ⟨z, H', I', rz, b, rfl, q⟩ := I.after hres
    cases (show z0 = Value.bool b from rz)
    exact ⟨b, rfl, .bl (!b), H', I', rfl, q⟩
theorem op_neC (T : NeT X.K C) (c : Cm X.prog X.w X.K X.mg X.base CX k C "__eq__" qual st ps sp) (b : Bd "__eq__" qual st ps) (hx : Passes CX X E) (hr : Room j X.A) (hk : k + 1 ≤ j) : OpR X (compareOp .NotEq) (rNeO X.K C sp E) := by
  obtain ⟨f, fd, F, M, hc, G⟩ := c.ex
  exact op_neO T G M.at_ M.fn (F.bindsN b) hx (hr.mono hk)
end
end MM
namespace MM
open PySem PySem.Spec PyProof.Rows L2
theorem hu65 {k : Nat} {A : Around} (r : Room k A) : A.units + 65 < cLine := by
  have := r.un
  omega
section
variable {X : Cx}
/-- sum(t) of a tuple of whole numbers -/
def rSumT (K : PySem.W.Frag) : List V → Hp → VK → Prop := fun vs H Q => ∃ (a : Addr) (ns : List Int), vs = [V.ref a] ∧ SqT K H a (ns.map V.int) ∧ Q (.int ns.sum) H
theorem cr_sumT (hc : X.calm = true) : CallR X (.builtin "sum") (rSumT X.K) := by
  intro pins s σ H vs us Q I r h
  obtain ⟨a, ns, rfl, hs, q⟩ := h
  obtain ⟨its, rv, hl, _⟩ := I.tuple hs
  rw [Vals.ref1 r]
  have hi := rv.ints
  obtain ⟨xs, hx⟩ := hi.allInts.items
  have hn : numsOf its.toArray.toList = ns := by rw [show its.toArray.toList = its from rfl, hi.numsOf]
  have hl : s.heap.IsTuple a its.toArray := hl
  rw [hx] at hl hn
  rw [nums_intItems] at hn
  refine PySem.W.ktm_sumG (I.ok.hd hc) hl fun h' tk t' hk => ⟨.int _, H, I.kept hk, ⟨_, rfl⟩, ?_⟩
  rw [preSum_eq, List.take_of_length_le (by simp), hn]
  exact q
end
/-! ### data of rows of whole numbers -/
def tupD (ns : List Int) : PyData := .tuple (ns.map PyData.int)
theorem dp_tup {K : PySem.W.Frag} {H : Hp} {a : Addr} {ns : List Int} (h : H a = some (.tup (ns.map V.int))) : Dp K H (.ref a) (tupD ns) := .tup (SqT.of h) (dps_ints ns)
theorem lay_tups : ∀ zs : List (List Int), PyData.canLayAll0 (zs.map tupD) = true
  | [] => rfl
  | z :: zs => by
    rw [List.map_cons, PyData.canLayAll0, lay_tups zs, tupD, PyData.canLay0, lay_ints]
    rfl
theorem dep_tups : ∀ zs : List (List Int), PyData.depthAll (zs.map tupD) ≤ 3
  | [] => by simp [PyData.depthAll]
  | z :: zs => by
    have h := dep_tups zs
    have h2 := dep_ints z
    simp only [List.map_cons, PyData.depthAll, tupD, PyData.depth]

    omega
theorem sh_tups (zs : List (List Int)) : SeqAt.shaped (.list (zs.map tupD)) = true := by
  have h := dep_tups zs
  show (PyData.canLay0 (.list (zs.map tupD)) && decide (PyData.depth (.list (zs.map tupD)) ≤ 64)) = true
  rw [Bool.and_eq_true]
  refine ⟨by simp only [PyData.canLay0]; exact lay_tups zs, decide_eq_true ?_⟩
  simp only [PyData.depth]
  omega
theorem sh_tup (ns : List Int) : SeqAt.shaped (tupD ns) = true := by
  have h := dep_ints ns
  show (PyData.canLay0 (tupD ns) && decide (PyData.depth (tupD ns) ≤ 64)) = true
  rw [Bool.and_eq_true]
  refine ⟨by simp only [tupD, PyData.canLay0]; exact lay_ints ns, decide_eq_true ?_⟩
  simp only [tupD, PyData.depth]
  omega
theorem eqv_tup (ns : List Int) : PyData.eqv (tupD ns) (tupD ns) = true := SeqAt.eqv_refl _ (by simp only [tupD, PyData.canLay0]; exact lay_ints ns)
/-- a list whose things are the rows zs -/
def Rows (H : Hp) (us : List V) (zs : List (List Int)) : Prop := us.length = zs.length ∧ ∀ (j : Nat) (u : V), us[j]? = some u → ∃ (q : Addr) (z : List Int), u = .ref q ∧ zs[j]? = some z ∧ H q = some (.tup (z.map V.int))
theorem Rows.same {H H1 : Hp} {us : List V} {zs : List (List Int)} (h : Rows H us zs) (s : Same H H1) : Rows H1 us zs := ⟨h.1, fun j u hu => by
  obtain ⟨q, z, e1, e2, e3⟩ := h.2 j u hu
  exact ⟨q, z, e1, e2, s _ _ e3⟩⟩
theorem Rows.dps {K : PySem.W.Frag} {H : Hp} : ∀ {us : List V} {zs : List (List Int)}, Rows H us zs → DpAll K H us (zs.map tupD)
  | [], [], _ => .nil
  | [], _ :: _, h => by have := h.1; simp at this
  | _ :: _, [], h => by have := h.1; simp at this
  | u :: us, z :: zs, h => by
    obtain ⟨q, z', rfl, e2, e3⟩ := h.2 0 u rfl
    cases e2
    refine .cons (dp_tup e3) (Rows.dps ⟨by have := h.1; simpa using this, fun j v hv => h.2 (j + 1) v (by simpa using hv)⟩)
theorem Rows.dp {K : PySem.W.Frag} {H : Hp} {a : Addr} {us : List V} {zs : List (List Int)} (h : Rows H us zs) (e : H a = some (.lst us)) : Dp K H (.ref a) (.list (zs.map tupD)) := .lst (SqL.of e) h.dps
theorem any_row {zs : List (List Int)} {z : List Int} (h : z ∈ zs) : ((zs.map tupD).any fun d => PyData.eqv d (tupD z)) = true := List.any_eq_true.mpr ⟨tupD z, List.mem_map.mpr ⟨z, h, rfl⟩, eqv_tup z⟩
end MM
namespace MM
/-! ### stretches of months, as whole numbers -/
/-- so many whole months lie, from a part of a day on -/
def rowF (a b p : Int) (n : Nat) : Int := (p + n * a) / b
theorem same_div {a b p q : Int} (hb : 0 < b) (n : Nat) (h0 : 0 ≤ q) (h1 : q ≤ p) (h2 : p < b) (hno : ¬ (q < (-(n : Int) * a) % b ∧ (-(n : Int) * a) % b ≤ p)) : rowF a b q n = rowF a b p n := by
  unfold rowF
  have e1 := Int.mul_ediv_add_emod (p + n * a) b
  have e2 := Int.emod_nonneg (p + n * a) (Int.ne_of_gt hb)
  have e3 := Int.emod_lt_of_pos (p + n * a) hb
  have en : -(n : Int) * a = -((n : Int) * a) := Int.neg_mul _ _
  rw [en] at hno
  generalize (n : Int) * a = z at *
  generalize hc : (p + z) / b = c at *
  refine Int.le_antisymm (by rw [← hc]; exact Int.ediv_le_ediv hb (by omega)) ?_
  refine Int.le_ediv_of_mul_le hb ?_
  rw [Int.mul_comm]
  apply Int.not_lt.mp
  intro hlt
  apply hno
  have et : (-z) % b = b * c - z := by
    have : -z = (b * c - z) + b * (-c) := by rw [Int.mul_neg]; omega
    rw [this, Int.add_mul_emod_self_left]
    exact Int.emod_eq_of_lt (by omega) (by omega)
  rw [et]
  omega
theorem max_le {p : Int} : ∀ L : List Int, (∃ t ∈ L, t ≤ p) → ∃ t ∈ L, t ≤ p ∧ ∀ u ∈ L, u ≤ p → u ≤ t
  | [], h => by
    obtain ⟨t, ht, _⟩ := h
    cases ht
  | x :: L, h => by
    by_cases hL : ∃ t ∈ L, t ≤ p
    · obtain ⟨t, ht, htp, hm⟩ := max_le L hL
      by_cases hx : x ≤ p ∧ t < x
      · refine ⟨x, List.mem_cons_self, hx.1, fun u hu hup => ?_⟩
        rcases List.mem_cons.mp hu with rfl | hu
        · exact Int.le_refl _
        · have := hm u hu hup
          omega
      · refine ⟨t, List.mem_cons_of_mem _ ht, htp, fun u hu hup => ?_⟩
        rcases List.mem_cons.mp hu with rfl | hu
        · omega
        · exact hm u hu hup
    · obtain ⟨t, ht, htp⟩ := h
      rcases List.mem_cons.mp ht with rfl | ht
      · refine ⟨t, List.mem_cons_self, htp, fun u hu hup => ?_⟩
        rcases List.mem_cons.mp hu with rfl | hu
        · exact Int.le_refl _
        · exact absurd ⟨u, hu, hup⟩ hL
      · exact absurd ⟨t, ht, htp⟩ hL
/-- the parts at which stretches of n months begin to be other ones -/
def parts (a b : Int) (n : Nat) : List Int := (List.range (min (n + 1) b.toNat)).map fun (i : Nat) => (-(i : Int) * a) % b
theorem parts_mem {a b : Int} (hb : 0 < b) {n i : Nat} (hi : i ≤ n) : (-(i : Int) * a) % b ∈ parts a b n := by
  refine List.mem_map.mpr ⟨i % b.toNat, List.mem_range.mpr ?_, ?_⟩
  · have h1 : i % b.toNat < b.toNat := Nat.mod_lt _ (by omega)
    have h2 : i % b.toNat ≤ i := Nat.mod_le _ _
    omega
  · have e : (i : Int) = ((i % b.toNat : Nat) : Int) + b * ((i / b.toNat : Nat) : Int) := by
      have h := Nat.mod_add_div i b.toNat
      have hbt : ((b.toNat : Nat) : Int) = b := by omega
      have h' : ((i % b.toNat + b.toNat * (i / b.toNat) : Nat) : Int) = (i : Int) := by rw [h]
      rw [← h', Int.natCast_add, Int.natCast_mul, hbt]
    have e2 : -(i : Int) * a = -((i % b.toNat : Nat) : Int) * a + b * (-((i / b.toNat : Nat) : Int) * a) := by
      rw [e]
      generalize ((i % b.toNat : Nat) : Int) = u
      generalize ((i / b.toNat : Nat) : Int) = v
      grind
    rw [e2, Int.add_mul_emod_self_left]
theorem parts_bd {a b : Int} (hb : 0 < b) {n : Nat} {t : Int} (ht : t ∈ parts a b n) : 0 ≤ t ∧ t < b := by
  obtain ⟨i, _, rfl⟩ := List.mem_map.mp ht
  exact ⟨Int.emod_nonneg _ (Int.ne_of_gt hb), Int.emod_lt_of_pos _ hb⟩
/-- each stretch is one that begins at one of the parts -/
theorem part_of {a b : Int} (hb : 0 < b) (n : Nat) {p : Int} (h0 : 0 ≤ p) (h1 : p < b) : ∃ t ∈ parts a b n, ∀ i : Nat, i ≤ n → rowF a b t i = rowF a b p i := by
  have z0 : (0 : Int) ∈ parts a b n := by
    have h := parts_mem (a := a) hb (n := n) (Nat.zero_le n)
    simpa using h
  obtain ⟨t, ht, htp, hm⟩ := max_le (p := p) (parts a b n) ⟨0, z0, h0⟩
  refine ⟨t, ht, fun i hi => same_div hb i (parts_bd hb ht).1 htp h1 fun ⟨k1, k2⟩ => ?_⟩
  have := hm _ (parts_mem hb hi) k2
  omega
theorem row_zero {a b p : Int} (h0 : 0 ≤ p) (h1 : p < b) : rowF a b p 0 = 0 := by
  unfold rowF
  rw [show p + ((0 : Nat) : Int) * a = p by simp]
  exact Int.ediv_eq_zero_of_lt h0 h1
theorem row_two {a b p : Int} (hb : 0 < b) (h0 : 0 ≤ p) (h1 : p < b) (n : Nat) : (n * a) / b ≤ rowF a b p n ∧ rowF a b p n ≤ (n * a) / b + 1 := by
  unfold rowF
  refine ⟨Int.ediv_le_ediv hb (by omega), ?_⟩
  have e1 := Int.mul_ediv_add_emod ((n : Int) * a) b
  have e3 := Int.emod_lt_of_pos ((n : Int) * a) hb
  refine Int.le_of_lt_add_one (Int.ediv_lt_of_lt_mul hb ?_)
  generalize (n : Int) * a / b = c at *
  have : (c + 1 + 1) * b = b * c + b + b := by grind
  rw [this]
  omega
/-- the part of a day at which moon k comes, in parts by the month's bottom -/
def prt (m o : Rat) (k : Int) : Int := ((o + k * m - ((stF m o k : Int) : Rat)) * (m.den : Rat)).floor
theorem den_posR (m : Rat) : (0 : Rat) < (m.den : Rat) := by
  have := m.den_pos
  exact_mod_cast this
theorem frac_bd (x : Rat) : 0 ≤ x - (x.floor : Rat) ∧ x - (x.floor : Rat) < 1 := by
  have h1 : (x.floor : Rat) ≤ x := Rat.floor_le x
  have h2 : x < (x.floor : Rat) + 1 := by rw [← cast_add1]; exact Rat.lt_floor_add_one x
  constructor <;> grind
theorem prt_bd (m o : Rat) (k : Int) : 0 ≤ prt m o k ∧ prt m o k < (m.den : Int) := by
  unfold prt stF
  obtain ⟨h1, h2⟩ := frac_bd (o + k * m)
  have hd := den_posR m
  generalize o + k * m - ((o + k * m).floor : Rat) = f at *
  constructor
  · refine Rat.le_floor_iff.mpr ?_
    show ((0 : Int) : Rat) ≤ f * (m.den : Rat)
    have := Rat.mul_nonneg h1 (Rat.le_of_lt hd)
    simpa using this
  · refine Rat.floor_lt_iff.mpr ?_
    show f * (m.den : Rat) < (((m.den : Nat) : Int) : Rat)
    have : f * (m.den : Rat) < 1 * (m.den : Rat) := Rat.mul_lt_mul_of_pos_right h2 hd
    rw [Rat.one_mul] at this
    exact this
theorem mul_den (m : Rat) : m * (m.den : Rat) = (m.num : Rat) := by
  have hd := den_posR m
  have h : (m.num : Rat) / (m.den : Rat) = m := by
    have e := Rat.num_divInt_den m
    rw [Rat.divInt_eq_div] at e
    exact e
  generalize (m.num : Rat) = a at *
  generalize (m.den : Rat) = b at *
  grind
theorem rr1 (o k n m b S c p : Rat) (h1 : (o + k * m - S) * b < p + 1) (h2 : p + n * (m * b) + 1 ≤ b * c + b) : (o + (k + n) * m) * b < (S + c + 1) * b := by
  have e1 : (o + (k + n) * m) * b = (o + k * m - S) * b + S * b + n * (m * b) := by grind
  have e2 : (S + c + 1) * b = S * b + b * c + b := by grind
  rw [e1, e2]
  generalize (o + k * m - S) * b = u at *
  generalize n * (m * b) = v at *
  generalize S * b = x at *
  generalize b * c = y at *
  grind
theorem rr2 (o k n m b S c p : Rat) (h1 : p ≤ (o + k * m - S) * b) (h2 : b * c ≤ p + n * (m * b)) : (S + c) * b ≤ (o + (k + n) * m) * b := by
  have e1 : (o + (k + n) * m) * b = (o + k * m - S) * b + S * b + n * (m * b) := by grind
  have e2 : (S + c) * b = S * b + b * c := by grind
  rw [e1, e2]
  generalize (o + k * m - S) * b = u at *
  generalize n * (m * b) = v at *
  generalize S * b = x at *
  generalize b * c = y at *
  grind
/-- the days of n months from month k on, by the part at which they begin -/
theorem st_row (m o : Rat) (k : Int) (n : Nat) : stF m o (k + n) - stF m o k = rowF m.num m.den (prt m o k) n := by
  have hd := den_posR m
  have hdI := den_pos m
  obtain ⟨f1, f2⟩ := frac_bd (o + k * m)
  have key : stF m o (k + n) = stF m o k + rowF m.num m.den (prt m o k) n := by
    have hfl : (prt m o k : Rat) ≤ (o + k * m - ((stF m o k : Int) : Rat)) * (m.den : Rat) := Rat.floor_le _
    have hfu : (o + k * m - ((stF m o k : Int) : Rat)) * (m.den : Rat) < ((prt m o k + 1 : Int) : Rat) := Rat.lt_floor_add_one _
    have e1 := Int.mul_ediv_add_emod (prt m o k + n * m.num) m.den
    have e2 := Int.emod_nonneg (prt m o k + n * m.num) (Int.ne_of_gt hdI)
    have e3 := Int.emod_lt_of_pos (prt m o k + n * m.num) hdI
    have hmd := mul_den m
    unfold rowF
    generalize hc : (prt m o k + (n : Int) * m.num) / (m.den : Int) = c at *
    have l1 : (m.den : Int) * c ≤ prt m o k + n * m.num := by omega
    have l2 : prt m o k + n * m.num + 1 ≤ (m.den : Int) * c + m.den := by omega
    have r1 : (m.den : Rat) * (c : Rat) ≤ (prt m o k : Rat) + (n : Rat) * (m.num : Rat) := by exact_mod_cast l1
    have r2 : (prt m o k : Rat) + (n : Rat) * (m.num : Rat) + 1 ≤ (m.den : Rat) * (c : Rat) + (m.den : Rat) := by exact_mod_cast l2
    have hfu' : (o + k * m - ((stF m o k : Int) : Rat)) * (m.den : Rat) < (prt m o k : Rat) + 1 := by rw [← cast_add1]; exact hfu
    have hcast : ((k + n : Int) : Rat) = (k : Rat) + (n : Rat) := by exact_mod_cast rfl
    refine Int.le_antisymm ?_ ?_
    · refine floor_le_iff.mpr ?_
      rw [hcast]
      have e4 : ((stF m o k + c + 1 : Int) : Rat) = ((stF m o k : Int) : Rat) + (c : Rat) + 1 := by exact_mod_cast rfl
      rw [e4]
      rw [← hmd] at r2
      exact Rat.lt_of_mul_lt_mul_right (rr1 _ _ _ _ _ _ _ _ hfu' r2) (Rat.le_of_lt hd)
    · refine Rat.le_floor_iff.mpr ?_
      rw [hcast]
      have e4 : ((stF m o k + c : Int) : Rat) = ((stF m o k : Int) : Rat) + (c : Rat) := by exact_mod_cast rfl
      rw [e4]
      rw [← hmd] at r1
      exact Rat.le_of_mul_le_mul_right (rr2 _ _ _ _ _ _ _ _ hfl r1) hd
  omega
end MM
namespace MM
open PySem PySem.Spec PyProof.Rows L2
/-! ### calls of a def with defaults, which never raises -/
/-- how f(.., k = v, ..) binds where f has defaults -/
structure Kdn (x : Str) (st : Stmt) (dn n : Nat) (ks ps : List Str) (g : {α : Type} → List α → List α → List α → List α) : Prop where
  bind : ∀ (T : Addr) (kV doc pm : Value) (an : Option Addr) (cdv ct : Value) (us its ws : List Value), us.length = n → its.length = dn → ws.length = ks.length →
    ∃ k, bindArgs (PySem.W.fnOf x x (defArgs st) (defBody st) (defScope st) (.ref T) kV doc pm an cdv ct) ⟨us, ks.zip ws⟩ = seqItems? (.ref T) >>= k ∧ k (some its.toArray) = pure (ps.zip (g us its ws))
  rel : ∀ {vs ds zs : List V} {us its ws : List Value}, Vals vs us → Vals ds its → Vals zs ws → Vals (g vs ds zs) (g us its ws)
section
variable {X : Cx} {CX : CXT} {k j n d : Nat} {f : Addr} {fd : FuncData} {ps ks : List Str} {sp : Sp} {dvs : List V} {x : Str} {st : Stmt} {p pos : Pos} {e : Expr} {es : List Expr} {kws : List Keyword} {t tk : TA} {E : XK}
/-- f(e, ..): n values, the defaults from the d-th on -/
theorem pe_caD (c : Ca X.prog X.w X.K X.mg X.base CX k x st dvs ps sp) (b : Bd1 x x st ps n d dvs.length) (hd : dvs ≠ []) (hn : n + (dvs.length - d) = ps.length) (hr : Room j X.A) (hk : k ≤ j) (hx : Passes CX X E) (hg : Gl X x) (ha : PA X (e :: es) t)
    (hdb : (x == ("__debug__" : Str)) = false := by decide) (he : starEach (e :: es) X.env = (false, eval e X.env) :: starEach es X.env := by rfl) (hpl : (backTo pos (starEach es X.env)).any (·.1) = false := by rfl) :
    PE X (.Call (.Name x p) (e :: es) [] pos) (tCall sp (dvs.drop d) E t) := by
  obtain ⟨f, fd, F, hm, G⟩ := c.ex
  obtain ⟨ds, r, bb⟩ := F.binds1 n d hd hn b
  exact pe_call G (hr.mono hk) hg hm F.kp bb r hx ha hdb he hpl
theorem run_fnkP {pins : List (Addr × Obj)} {σ : L2.St} {H : Hp} {s : Shared} {Q : VK} {us ws : List Value} {vs zs : List V} {g : List Value → List Value → List Value} {gV : List V → List V → List V} (F : FnOk X.prog X.w X.K X.mg X.base CX k f fd ps sp) (hr : Room k X.A) (hb : KBn X.K fd ps n ks g gV) (hx : Passes CX X E)
    (I : Inv X pins σ H s) (r : Vals vs us) (rz : Vals zs ws) (l1 : vs.length = n) (l2 : zs.length = ks.length) (h : sp (gV vs zs) H Q E) : wpAny (model X.prog X.w) X.A (call (.ref f) us (ks.zip ws)) (EP X pins σ Q) X.xe s := by
  have r2 := hb.rel r rz
  refine wpAny_call (codeAny_mono (F.run X.A X.stack s H ⟨us, ks.zip ws⟩ (g us ws) (gV vs zs) Q _ hr I.env0 (hb.to s us ws I.kIn (r.length.symm.trans l1) (rz.length.symm.trans l2)) r2 h) fun r s' hq => ?_)
  match r, hq with
  | .error e, hq => exact hx pins σ H s e s' I hq
  | .ok (.ret u), hq => exact I.after hq
  | .ok .next, hq => exact False.elim hq
  | .ok .brk, hq => exact False.elim hq
  | .ok .cont, hq => exact False.elim hq
/-- f(e, .., k = v, ..) -/
theorem pe_caDk {g : {α : Type} → List α → List α → List α → List α} (c : Ca X.prog X.w X.K X.mg X.base CX k x st dvs ps sp) (b : Kdn x st dvs.length n ks ps g) (hd : dvs ≠ []) (hr : Room j X.A) (hk : k ≤ j) (hx : Passes CX X E) (hg : Gl X x) (ha : PA X (e :: es) t) (hkw : PK X kws tk)
    (hall : (backToKw pos (keywordEach kws X.env)).all (·.1.isSome) = true := by rfl) (hks : (backToKw pos (keywordEach kws X.env)).filterMap (·.1) = ks := by rfl) (hdb : (x == ("__debug__" : Str)) = false := by decide)
    (he : starEach (e :: es) X.env = (false, eval e X.env) :: starEach es X.env := by rfl) (hpl : ((backTo pos (starEach (e :: es) X.env)).any (·.1) || (backToKw pos (keywordEach kws X.env)).any (·.1.isNone)) = false := by rfl) :
    PE X (.Call (.Name x p) (e :: es) kws pos) (fun σ H Q => t σ H fun vs H1 => tk σ H1 fun zs H2 => vs.length = n ∧ zs.length = ks.length ∧ sp (g vs dvs zs) H2 Q E) := by
  obtain ⟨f, fd, F, hm, G⟩ := c.ex
  obtain ⟨its, hb⟩ := F.kbindsD n ks g hd b.rel b.bind
  refine ⟨fun pins s σ H Q I h => ?_⟩
  refine wpAny_Call_Name_kw (ld_glob I hg hm ?_ hdb)
  refine PySem.W.callWith_KW (h₀ := X.base) I.ok.mod.kin F.kp hall (thn (ha.run pos pins s σ H _ I h) fun us s1 ⟨vs, H1, I1, r, q⟩ => ?_) hpl he
  refine thn (hkw.run pos pins s1 σ H1 _ I1 q) fun ws s2 ⟨zs, H2, I2, rz, l1, l2, q2⟩ => ⟨I2.kIn, ?_⟩
  rw [hks]
  exact run_fnkP G (hr.mono hk) hb hx I2 r rz l1 l2 q2
/-- f(k = v, ..) -/
theorem pe_caDk0 {g : {α : Type} → List α → List α → List α → List α} (c : Ca X.prog X.w X.K X.mg X.base CX k x st dvs ps sp) (b : Kdn x st dvs.length 0 ks ps g) (hd : dvs ≠ []) (hr : Room j X.A) (hk : k ≤ j) (hx : Passes CX X E) (hg : Gl X x) (hkw : PK X kws tk)
    (hall : (backToKw pos (keywordEach kws X.env)).all (·.1.isSome) = true := by rfl) (hks : (backToKw pos (keywordEach kws X.env)).filterMap (·.1) = ks := by rfl) (hdb : (x == ("__debug__" : Str)) = false := by decide)
    (hpl : ((backTo pos (starEach [] X.env)).any (·.1) || (backToKw pos (keywordEach kws X.env)).any (·.1.isNone)) = false := by rfl) :
    PE X (.Call (.Name x p) [] kws pos) (fun σ H Q => tk σ H fun zs H2 => zs.length = ks.length ∧ sp (g [] dvs zs) H2 Q E) := by
  obtain ⟨f, fd, F, hm, G⟩ := c.ex
  obtain ⟨its, hb⟩ := F.kbindsD 0 ks g hd b.rel b.bind
  refine ⟨fun pins s σ H Q I h => ?_⟩
  refine wpAny_Call_Name_kw (ld_glob I hg hm ?_ hdb)
  refine PySem.W.callWith_KW0 (h₀ := X.base) I.ok.mod.kin F.kp hall ?_ hpl
  refine thn (hkw.run pos pins s σ H _ I h) fun ws s2 ⟨zs, H2, I2, rz, l2, q2⟩ => ⟨I2.kIn, ?_⟩
  rw [hks]
  exact run_fnkP (us := []) (vs := []) G (hr.mono hk) hb hx I2 .nil rz rfl l2 q2
end
end MM
namespace MM
/-! ### rounds: when months and years come together -/
theorem den_mul (x : Rat) : (x.den : Rat) * x = (x.num : Rat) := by
  have h := Rat.num_divInt_den x
  rw [Rat.divInt_eq_div] at h
  have hd : ((x.den : Int) : Rat) ≠ 0 := by
    have := x.den_nz
    intro z
    exact this (by exact_mod_cast z)
  rw [Rat.intCast_natCast] at h hd
  grind
def lcI (a b : Int) : Int := a / (Int.gcd a b : Int) * b
theorem gcd_div_gcd {a b : Int} (ha : 0 < a) : Int.gcd (b / (Int.gcd a b : Int)) (a / (Int.gcd a b : Int)) = 1 := by
  have hg : 0 < Int.gcd a b := Int.gcd_pos_of_ne_zero_left b (by omega)
  have := Int.gcd_ediv_gcd_ediv_gcd (i := a) (j := b) hg
  rw [Int.gcd_comm]
  exact this
theorem lc_facts {a b : Int} (ha : 0 < a) (hb : 0 < b) : 0 < lcI a b ∧ lcI a b % a = 0 ∧ lcI a b % b = 0 ∧ lcI a b / a = b / (Int.gcd a b : Int) ∧ lcI a b / b = a / (Int.gcd a b : Int) ∧ 0 < b / (Int.gcd a b : Int) ∧ 0 < a / (Int.gcd a b : Int) := by
  have hg : 0 < Int.gcd a b := Int.gcd_pos_of_ne_zero_left b (by omega)
  obtain ⟨x, hx⟩ := Int.gcd_dvd_left a b
  obtain ⟨z, hz⟩ := Int.gcd_dvd_right a b
  unfold lcI
  generalize hG : (Int.gcd a b : Int) = G at *
  have hG0 : 0 < G := by omega
  have e1 : a / G = x := by rw [hx, Int.mul_ediv_cancel_left _ (by omega)]
  have e2 : b / G = z := by rw [hz, Int.mul_ediv_cancel_left _ (by omega)]
  have x0 : 0 < x := by
    apply Int.not_le.mp
    intro h
    have := Int.mul_le_mul_of_nonneg_left h (Int.le_of_lt hG0)
    omega
  have z0 : 0 < z := by
    apply Int.not_le.mp
    intro h
    have := Int.mul_le_mul_of_nonneg_left h (Int.le_of_lt hG0)
    omega
  rw [e1, e2]
  have e3 : x * b = a * z := by rw [hx, hz]; ac_rfl
  refine ⟨Int.mul_pos x0 hb, ?_, ?_, ?_, ?_, z0, x0⟩
  · rw [e3]
    exact Int.mul_emod_right _ _
  · exact Int.mul_emod_left _ _
  · rw [e3, Int.mul_ediv_cancel_left _ (by omega)]
  · rw [Int.mul_ediv_cancel _ (by omega)]
def wrD (m y : Rat) : Int := lcI m.num y.num
def wrM (m y : Rat) : Int := wrD m y / m.num * m.den
def wrY (m y : Rat) : Int := wrD m y / y.num * y.den
theorem div_back {a d : Int} (h : d % a = 0) : d / a * a = d := Int.ediv_mul_cancel (Int.dvd_of_emod_eq_zero h)
theorem wr_eqM {m y : Rat} (hm : 0 < m) (hy : 0 < y) : wrD m y * m.den = wrM m y * m.num := by
  have f := lc_facts (num_pos hm) (num_pos hy)
  have := div_back (show wrD m y % m.num = 0 from f.2.1)
  unfold wrM
  rw [Int.mul_right_comm, this]
theorem wr_eqY {m y : Rat} (hm : 0 < m) (hy : 0 < y) : wrD m y * y.den = wrY m y * y.num := by
  have f := lc_facts (num_pos hm) (num_pos hy)
  have := div_back (show wrD m y % y.num = 0 from f.2.2.1)
  unfold wrY
  rw [Int.mul_right_comm, this]
theorem den_ne (x : Rat) : ((x.den : Int) : Rat) ≠ 0 := by
  have := x.den_nz
  intro z
  exact this (by exact_mod_cast z)
theorem of_den {x : Rat} {D M : Int} (h : D * x.den = M * x.num) : (M : Rat) * x = (D : Rat) := by
  have h1 : ((D * x.den : Int) : Rat) = ((M * x.num : Int) : Rat) := by rw [h]
  rw [Rat.intCast_mul, Rat.intCast_mul] at h1
  have h2 := den_mul x
  have h3 := den_ne x
  rw [Rat.intCast_natCast] at h1 h3
  grind
theorem fl_int (x : Rat) (n : Int) : (x + n).floor = x.floor + n := by
  have h1 : ∀ i : Int, (x + n).floor ≤ i ↔ x.floor + n ≤ i := fun i => by
    rw [floor_le_iff]
    have h2 : x.floor + n ≤ i ↔ x.floor ≤ i - n := by omega
    rw [h2, floor_le_iff]
    have e1 : ((i + 1 : Int) : Rat) = (i : Rat) + 1 := cast_add1 i
    have e2 : ((i - n + 1 : Int) : Rat) = (i : Rat) - n + 1 := by rw [cast_add1, Rat.intCast_sub]
    rw [e1, e2]
    grind
  have a := (h1 ((x + n).floor)).mp (Int.le_refl _)
  have b := (h1 (x.floor + n)).mpr (Int.le_refl _)
  omega
theorem st_shift {m o : Rat} {M D : Int} (h : (M : Rat) * m = D) (k t : Int) : stF m o (k + t * M) = stF m o k + t * D := by
  unfold stF
  rw [← fl_int]
  congr 1
  rw [Rat.intCast_add, Rat.intCast_mul, Rat.intCast_mul, ← h]
  grind
theorem ma_shift {m o : Rat} {M D : Int} (hm : 0 < m) (h : (M : Rat) * m = D) (d t : Int) : maF m o (d + t * D) = maF m o d + t * M := by
  refine ma_of hm ?_ ?_
  · rw [st_shift h]
    have := st_ma (o := o) hm d
    omega
  · rw [Int.add_right_comm, st_shift h]
    have := ma_st (o := o) hm d
    omega
theorem md_shift {y k : Rat} {Y D : Int} (h : (Y : Rat) * y = D) (j t : Int) : mdF y k (j + 12 * (t * Y)) = mdF y k j + t * D := by
  unfold mdF
  rw [← fl_int]
  congr 1
  have e : ((12 : Int) : Rat) = 12 := rfl
  rw [Rat.intCast_add, Rat.intCast_mul, Rat.intCast_mul, Rat.intCast_mul, ← h, e]
  grind
theorem j_shift {y k : Rat} {Y D : Int} (hy : 0 < y / 12) (h : (Y : Rat) * y = D) (d t : Int) : jF y k (d + t * D) = jF y k d + 12 * (t * Y) := by
  have key : ∀ j : Int, j < jF y k (d + t * D) ↔ j < jF y k d + 12 * (t * Y) := fun j => by
    rw [← md_lt hy]
    have e : mdF y k j = mdF y k (j - 12 * (t * Y)) + t * D := by
      rw [← md_shift h]
      congr 1
      omega
    rw [e]
    have e2 : j < jF y k d + 12 * (t * Y) ↔ j - 12 * (t * Y) < jF y k d := by omega
    rw [e2, ← md_lt hy]
    omega
  have a := key (jF y k (d + t * D))
  have b := key (jF y k d + 12 * (t * Y))
  omega
end MM
namespace MM
open PySem PySem.Spec PyProof.Rows L2
section
variable {J : It} {n : Nat} {G : Hp → Prop} {Y : Nat → Hp → V → Hp → Prop}
/-- a comprehension with a test, whose i-th thing is the whole number f i, and there where B i -/
theorem lc_filt (w : Walk J n G Y) (hY : ∀ i H x H', Y i H x H' → Same H H') {g : TG} {tt : TT} {te : TE} {vs : List Nat} {σ : L2.St} {H : Hp} {D : Addr} {Qd : Hp → Prop} (nD : H D = none) (hn : n < sizeLine) (f : Nat → Int) (B : Nat → Bool) (hG : ∀ H', Same H H' → G H')
    (hs : ∀ i x H1 H2 (R : V → Hp → Prop) (N : Hp → Prop), i < n → Same H H1 → Y i H1 x H2 → (B i = true → ∀ H3, Same H2 H3 → R (.int (f i)) H3) → (B i = false → ∀ H3, Same H2 H3 → N H3) → g x (wipe σ vs) H2 fun σ2 H3 => wipe σ2 vs = wipe σ vs ∧ tt σ2 H3 fun b H4 => if b = true then te σ2 H4 R else N H4)
    (hd : ∀ H', H' D = some (.lst ((((List.range n).filter B).map f).map V.int)) → Same H H' → Qd H') :
    ∃ W : Nat → Nat → Hp → Prop, (∃ m, W 0 m (L2.upd H D (.lst []))) ∧ ∀ i m H, W i m H →
      (J.stop i H ∧ Qd H) ∨ (J.go i H ∧ ∃ Nx : Hp → Prop, (∀ H', Nx H' → ∃ m', m' < m ∧ W (i + 1) m' H') ∧ ∀ x H', J.yld i H x H' → g x (wipe σ vs) H' fun σ2 H2 => wipe σ2 vs = wipe σ vs ∧ tt σ2 H2 fun b H3 =>
        if b = true then te σ2 H3 fun y H4 => ∃ acc, H4 D = some (.lst acc) ∧ acc.length < sizeLine ∧ Nx (L2.upd H4 D (.lst (acc ++ [y]))) else Nx H3) := by
  refine lc_it w (fun i H' => H' D = some (.lst ((((List.range i).filter B).map f).map V.int)) ∧ Same H H') ⟨upd_same, upd_keep nD (Same.refl H)⟩ (fun i H' _ ⟨_, s⟩ => hG H' s) ?_ (fun H' ⟨e, s⟩ => hd H' e s)
  rintro i x H1 H2 hi ⟨e, s⟩ y
  have s2 := hY _ _ _ _ y
  have el : ((((List.range i).filter B).map f).map V.int).length < sizeLine := by
    rw [List.length_map, List.length_map]
    have := List.length_filter_le B (List.range i)
    rw [List.length_range] at this
    omega
  refine hs i x H1 H2 _ _ hi s y (fun hB H3 s3 => ?_) (fun hB H3 s3 => ?_)
  · refine ⟨_, s3 _ _ (s2 _ _ e), el, ?_, upd_keep nD (s.trans (s2.trans s3))⟩
    rw [upd_same, List.range_succ, List.filter_append, List.map_append, List.map_append]
    simp [hB]
  · refine ⟨?_, s.trans (s2.trans s3)⟩
    rw [s3 _ _ (s2 _ _ e), List.range_succ, List.filter_append]
    simp [hB]
end
/-! ### first days of years -/
def fdF (m y o k : Rat) (a : Int) : Int := stF m o (maF m o (mdF y k (12 * a)))
theorem int_le_floor {i : Int} {x : Rat} : i ≤ x.floor ↔ (i : Rat) ≤ x := by
  have h := floor_le_iff (q := x) (i := i - 1)
  rw [show i - 1 + 1 = i by omega] at h
  constructor
  · intro a
    apply Rat.not_lt.mp
    intro z
    have := h.mpr z
    omega
  · intro a
    apply Int.not_lt.mp
    intro z
    have := h.mp (by omega)
    grind
theorem fl_mono {x z : Rat} (h : x ≤ z) : x.floor ≤ z.floor := by
  rw [int_le_floor]
  have := int_le_floor (i := x.floor) (x := x) |>.mp (Int.le_refl _)
  grind
theorem st_w {m y o : Rat} (f : Fit m y) (i : Int) : stF m o (i + 1) ≤ stF m o i + m.ceil := by
  unfold stF
  rw [← fl_int]
  refine fl_mono ?_
  have h : m ≤ (m.ceil : Rat) := by
    apply Rat.not_lt.mp
    intro z
    have := lt_ceil_iff (q := m) (i := m.ceil) |>.mpr z
    omega
  rw [cast_add1]
  grind
theorem md_w {m y k : Rat} (f : Fit m y) (j : Int) : mdF y k j + m.ceil ≤ mdF y k (j + 1) := by
  unfold mdF
  rw [← fl_int]
  refine fl_mono ?_
  have h := f.between
  rw [cast_add1]
  grind
theorem md_mono {y k : Rat} (hy : 0 < y / 12) {i j : Int} (h : i ≤ j) : mdF y k i ≤ mdF y k j := by
  unfold mdF
  refine fl_mono ?_
  have h1 : (i : Rat) ≤ (j : Rat) := by exact_mod_cast h
  have h2 := Rat.mul_le_mul_of_nonneg_right h1 (Rat.le_of_lt hy)
  grind
/-- in a month falls one mark at most -/
theorem one_mark {m y o k : Rat} (f : Fit m y) {i j : Int} (h1 : stF m o i ≤ mdF y k j) (h2 : mdF y k j < stF m o (i + 1)) : jF y k (stF m o i) = j := by
  have hy := f.ypos
  have a : ¬ j < jF y k (stF m o i) := fun z => by
    have := (md_lt hy).mpr z
    omega
  apply Int.le_antisymm (by omega)
  apply Int.not_lt.mp
  intro z
  have b := md_ge (y := y) (k := k) hy (stF m o i)
  have c := md_w (k := k) f (jF y k (stF m o i))
  have d := md_mono (k := k) hy (show jF y k (stF m o i) + 1 ≤ j by omega)
  have e := st_w (o := o) f i
  omega
theorem ma_st' {m o : Rat} (h1 : 1 ≤ m) (i : Int) : maF m o (stF m o i) = i := by
  have := st_step (o := o) h1 i
  exact ma_of (by grind) (Int.le_refl _) (by omega)
theorem first_jF {m y o k : Rat} (f : Fit m y) (a : Int) : jF y k (stF m o (maF m o (mdF y k (12 * a)))) = 12 * a := one_mark f (st_ma f.pos _) (ma_st f.pos _)
/-- about which year begins on a day -/
theorem first_near {m y o k : Rat} (f : Fit m y) (a : Int) : (((fdF m y o k a - k.floor : Int) : Rat) / y).floor ≤ a ∧ a ≤ (((fdF m y o k a - k.floor : Int) : Rat) / y).floor + 1 := by
  have hp := f.pos
  have hy := f.ypos'
  have y12 : 12 ≤ y := by
    have h1 := f.one
    have h2 := f.between
    have h3 : (1 : Rat) ≤ (m.ceil : Rat) := by
      have : ((1 : Int) : Rat) ≤ (m.ceil : Rat) := by
        have : (1 : Int) ≤ m.ceil := by
          apply Int.not_lt.mp
          intro z
          have hm : m ≤ (m.ceil : Rat) := by
            apply Rat.not_lt.mp
            intro z
            have := lt_ceil_iff (q := m) (i := m.ceil) |>.mpr z
            omega
          have h0 : (m.ceil : Rat) ≤ ((0 : Int) : Rat) := by exact_mod_cast (show m.ceil ≤ 0 by omega)
          have e0 : ((0 : Int) : Rat) = 0 := rfl
          grind
        exact_mod_cast this
      exact this
    grind
  have s1 := st_ma (o := o) hp (mdF y k (12 * a))
  have s2 := ma_st (o := o) hp (mdF y k (12 * a))
  have s3 := st_w (o := o) f (maF m o (mdF y k (12 * a)))
  have bt := f.between
  have kf := int_le_floor (i := k.floor) (x := k) |>.mp (Int.le_refl _)
  have kl := floor_le_iff (q := k) (i := k.floor) |>.mp (Int.le_refl _)
  rw [cast_add1] at kl
  have md1 := int_le_floor (i := mdF y k (12 * a)) (x := k + ((12 * a : Int) : Rat) * (y / 12)) |>.mp (Int.le_refl _)
  have md2 := floor_le_iff (q := k + ((12 * a : Int) : Rat) * (y / 12)) (i := mdF y k (12 * a)) |>.mp (Int.le_refl _)
  rw [cast_add1] at md2
  have e12 : ((12 * a : Int) : Rat) * (y / 12) = (a : Rat) * y := by
    rw [Rat.intCast_mul]
    have : ((12 : Int) : Rat) = 12 := rfl
    rw [this]
    grind
  rw [e12] at md1 md2
  have c1 : ((fdF m y o k a : Int) : Rat) ≤ (mdF y k (12 * a) : Rat) := by exact_mod_cast s1
  have c2 : (mdF y k (12 * a) : Rat) + 1 ≤ (fdF m y o k a : Rat) + (m.ceil : Rat) := by
    have h := Int.lt_of_lt_of_le s2 s3
    have h2 : mdF y k (12 * a) + 1 ≤ fdF m y o k a + m.ceil := h
    have h3 : ((mdF y k (12 * a) + 1 : Int) : Rat) ≤ ((fdF m y o k a + m.ceil : Int) : Rat) := by exact_mod_cast h2
    rw [Rat.intCast_add, Rat.intCast_add] at h3
    exact h3
  have cs : ((fdF m y o k a - k.floor : Int) : Rat) = (fdF m y o k a : Rat) - (k.floor : Rat) := Rat.intCast_sub _ _
  rw [cs]
  generalize (fdF m y o k a : Rat) = A at *
  generalize (k.floor : Rat) = F at *
  generalize (mdF y k (12 * a) : Rat) = Md at *
  generalize (m.ceil : Rat) = Wc at *
  have u1 : A - F < (a : Rat) * y + 1 := by grind
  have u2 : (a : Rat) * y - y / 12 ≤ A - F + 1 := by grind
  constructor
  · rw [floor_le_iff, cast_add1]
    apply (Rat.div_lt_iff hy).mpr
    grind
  · have key : (a - 1 : Int) ≤ ((A - F) / y).floor := by
      rw [int_le_floor, Rat.intCast_sub]
      have : ((1 : Int) : Rat) = 1 := rfl
      rw [this]
      apply Rat.not_lt.mp
      intro z
      have z2 := (Rat.div_lt_iff hy).mp z
      grind
    omega
end MM
namespace MM
open PySem PySem.Spec PyProof.Rows L2
/-! ### figures -/
def dg (d : Nat) : Nat := if d < 10 then 48 + d else 87 + d
/-- the figures, the last one first -/
def lsd (b n : Nat) : List Nat := if h : b < 2 ∨ n < b then [n] else (n % b) :: lsd b (n / b)
termination_by n
decreasing_by exact Nat.div_lt_self (by omega) (by omega)
theorem lsd_lt {b n : Nat} (h : n < b) : lsd b n = [n] := by
  rw [lsd, dif_pos (.inr h)]
theorem lsd_ge {b n : Nat} (hb : 2 ≤ b) (h : b ≤ n) : lsd b n = (n % b) :: lsd b (n / b) := by
  rw [lsd, dif_neg (by omega)]
theorem lsd_ne (b n : Nat) : lsd b n ≠ [] := by
  rw [lsd]
  split <;> simp
theorem lsd_small {b : Nat} (hb : 2 ≤ b) : ∀ (n : Nat), ∀ d ∈ lsd b n, d < b := fun n => by
  induction n using Nat.strongRecOn with
  | _ n ih =>
    intro d hd
    by_cases h : n < b
    · rw [lsd_lt h] at hd
      rw [List.mem_singleton.mp hd]
      exact h
    · rw [lsd_ge hb (by omega)] at hd
      rcases List.mem_cons.mp hd with rfl | hd
      · exact Nat.mod_lt _ (by omega)
      · exact ih (n / b) (Nat.div_lt_self (by omega) (by omega)) d hd
theorem lsd_len {b : Nat} (hb : 2 ≤ b) : ∀ (e n : Nat), n < 2 ^ e → 0 < e → (lsd b n).length ≤ e := fun e => by
  induction e with
  | zero => intro n h h0; omega
  | succ e ih =>
    intro n h h0
    by_cases hn : n < b
    · rw [lsd_lt hn]
      simp
    · rw [lsd_ge hb (by omega), List.length_cons]
      have h1 : n / b ≤ n / 2 := Nat.div_le_div_left hb (by decide)
      have h2 : n / 2 < 2 ^ e := by rw [Nat.pow_succ] at h; omega
      by_cases he : 0 < e
      · have := ih (n / b) (by omega) he
        omega
      · have e0 : e = 0 := by omega
        subst e0
        have : n / b = 0 := by omega
        rw [this, lsd_lt (by omega)]
        simp at h2 ⊢
        have hz : n / b = 0 := by omega
        have := (Nat.div_eq_zero_iff).mp hz
        omega
theorem lsd_val {b : Nat} (hb : 2 ≤ b) : ∀ n : Nat, (lsd b n).foldr (fun d a => a * b + d) 0 = n := fun n => by
  induction n using Nat.strongRecOn with
  | _ n ih =>
    by_cases h : n < b
    · rw [lsd_lt h]
      simp
    · rw [lsd_ge hb (by omega), List.foldr_cons, ih (n / b) (Nat.div_lt_self (by omega) (by omega))]
      have := Nat.div_add_mod n b
      rw [Nat.mul_comm] at this
      exact this
def sg (d : Nat) : Str := ⟨#[dg d]⟩
def txt (ds : List Nat) : Str := ⟨(ds.map dg).toArray⟩
/-- a whole number by a base -/
def numT (b : Nat) (i : Int) : Str := if i < 0 then ("-" : Str) ++ txt (lsd b i.natAbs).reverse else txt (lsd b i.natAbs).reverse
theorem str_ext {x y : Str} (h : x.cps.toList = y.cps.toList) : x = y := by
  cases x
  cases y
  congr
  exact Array.toList_inj.mp h
theorem app_cps (x y : Str) : (x ++ y).cps.toList = x.cps.toList ++ y.cps.toList := by
  show (x.cps ++ y.cps).toList = _
  simp
theorem txt_cps (ds : List Nat) : (txt ds).cps.toList = ds.map dg := rfl
theorem txt_len (ds : List Nat) : (txt ds).length = ds.length := by
  show ((ds.map dg).toArray).size = _
  simp
theorem dash_cps : ("-" : Str).cps.toList = [45] := by decide +kernel
theorem sg_txt (d : Nat) (ds : List Nat) : sg d ++ txt ds = txt (d :: ds) := str_ext (by
  rw [app_cps]
  rfl)
theorem nil_txt : ("" : Str) = txt [] := str_ext (by decide +kernel)
theorem dg_ne {d : Nat} (h : d < 16) : dg d ≠ 45 := by
  unfold dg
  split <;> omega
def FIG : Str := "0123456789abcdef"
theorem fig_len : FIG.length = 16 := by decide +kernel
theorem fig_at {d : Nat} (h : d < 16) : atI FIG.cps.toList (d : Int) = some (dg d) := by
  have : ∀ d : Fin 16, atI FIG.cps.toList ((d.val : Nat) : Int) = some (dg d.val) := by decide +kernel
  exact this ⟨d, h⟩
theorem fig_find {d : Nat} (h : d < 16) : Txt.find FIG (sg d) = (d : Int) := by
  have : ∀ d : Fin 16, Txt.find FIG (sg d.val) = ((d.val : Nat) : Int) := by decide +kernel
  exact this ⟨d, h⟩
theorem glued_nil : ∀ (ps : List Str) (acc : Array Nat), (ps.foldl (fun acc p => acc ++ ("" : Str).cps ++ p.cps) acc).toList = acc.toList ++ (ps.map fun p => p.cps.toList).flatten
  | [], acc => by simp
  | p :: ps, acc => by
    rw [List.foldl_cons, glued_nil ps]
    have e : ("" : Str).cps = #[] := by decide +kernel
    rw [e]
    simp
theorem join_nil (ps : List Str) : (Txt.join ("" : Str) ps).cps.toList = (ps.map fun p => p.cps.toList).flatten := by
  show (((ps.drop 1).foldl (fun acc p => acc ++ ("" : Str).cps ++ p.cps) (ps.headD Str.empty).cps)).toList = _
  cases ps with
  | nil => rfl
  | cons p ps =>
    show ((ps.foldl (fun acc p => acc ++ ("" : Str).cps ++ p.cps) p.cps)).toList = _
    rw [glued_nil]
    simp
theorem flat_sg : ∀ ds : List Nat, ((ds.map sg).map fun p => p.cps.toList).flatten = ds.map dg
  | [] => rfl
  | d :: ds => by
    rw [List.map_cons, List.map_cons, List.flatten_cons, flat_sg ds]
    rfl
theorem join_sg (ds : List Nat) : Txt.join ("" : Str) ((ds.map sg).reverse) = txt ds.reverse := str_ext (by
  rw [join_nil, ← List.map_reverse, flat_sg]
  rfl)
theorem join_dash (ds : List Nat) : Txt.join ("" : Str) ((ds.map sg ++ [("-" : Str)]).reverse) = ("-" : Str) ++ txt ds.reverse := str_ext (by
  rw [join_nil, List.reverse_append, ← List.map_reverse, List.map_append, List.flatten_append, flat_sg, app_cps]
  rfl)
theorem sub_iff (x y : Str) : Builtin.Str.subAt x y 0 = true ↔ x.cps.toList.take y.length = y.cps.toList := by
  unfold Builtin.Str.subAt
  rw [beq_iff_eq, ← Array.toList_inj]
  simp
theorem dash_len : ("-" : Str).length = 1 := by decide +kernel
theorem not_dash {ds : List Nat} (h0 : ds ≠ []) (h : ∀ d ∈ ds, d < 16) : Builtin.Str.subAt (txt ds) ("-" : Str) 0 = false := by
  cases hb : Builtin.Str.subAt (txt ds) ("-" : Str) 0 with
  | false => rfl
  | true =>
    have := (sub_iff _ _).mp hb
    rw [dash_len, dash_cps, txt_cps] at this
    cases ds with
    | nil => exact absurd rfl h0
    | cons d ds =>
      have e : dg d = 45 := by simpa using this
      exact absurd e (dg_ne (h d (by simp)))
theorem is_dash (ds : List Nat) : Builtin.Str.subAt (("-" : Str) ++ txt ds) ("-" : Str) 0 = true := by
  rw [sub_iff, dash_len, app_cps, dash_cps]
  rfl
theorem dash_txt_len (ds : List Nat) : (("-" : Str) ++ txt ds).length = ds.length + 1 := by
  show (("-" : Str).cps ++ (txt ds).cps).size = _
  rw [Array.size_append]
  show ("-" : Str).length + (txt ds).length = _
  rw [dash_len, txt_len]
  omega
theorem rp_txt {ds : List Nat} (h0 : ds ≠ []) (h : ∀ d ∈ ds, d < 16) : Txt.removeprefix (txt ds) ("-" : Str) = txt ds := by
  unfold Txt.removeprefix
  rw [not_dash h0 h]
  rfl
theorem rp_dash (ds : List Nat) : Txt.removeprefix (("-" : Str) ++ txt ds) ("-" : Str) = txt ds := by
  unfold Txt.removeprefix
  rw [is_dash, dash_len, dash_txt_len]
  show (if (ds.length + 1 - 1 == (("-" : Str) ++ txt ds).length) = true then _ else _) = _
  rw [dash_txt_len, if_neg (by simp)]
  refine str_ext ?_
  show ((("-" : Str) ++ txt ds).cps.extract 1 (ds.length + 1)).toList = _
  have e : (("-" : Str) ++ txt ds).cps.toList = 45 :: ds.map dg := by rw [app_cps, dash_cps]; rfl
  rw [Array.toList_extract, e, txt_cps]
  simp
  exact List.take_of_length_le (by simp)
theorem sw_txt {ds : List Nat} (h0 : ds ≠ []) (h : ∀ d ∈ ds, d < 16) : Txt.startswith (txt ds) ("-" : Str) = false := by
  unfold Txt.startswith
  rw [not_dash h0 h, Bool.and_false]
theorem sw_dash (ds : List Nat) : Txt.startswith (("-" : Str) ++ txt ds) ("-" : Str) = true := by
  unfold Txt.startswith
  rw [is_dash, dash_txt_len, dash_len]
  simp
/-! ### a text once or not at all -/
theorem op_mulS {X : Cx} : OpR X (binaryOp .Mult) (fun x y H Q => ∃ (z : Str) (b : Bool), x = .str z ∧ y = .int (if b = true then 1 else 0) ∧ Q (.str (if b = true then z else Str.empty)) H) := by
  intro pins s σ H x y v u Q I rx ry h
  obtain ⟨z, b, rfl, rfl, q⟩ := h
  obtain ⟨t, rfl⟩ := rx
  obtain ⟨t', rfl⟩ := ry
  cases b with
  | false => exact P.mul_str_none (by decide) (by decide) ⟨.str Str.empty, H, I.tok _, ⟨_, rfl⟩, q⟩
  | true =>
    refine P.mul_str (by decide) (fun _ e => by simp at e) (fun _ e => by simp at e) ?_
    rw [if_neg (by decide), if_pos (by simp)]
    exact ⟨.str z, H, I, ⟨_, rfl⟩, q⟩
end MM
namespace MM
open PySem PySem.Spec PySem.Calls PyProof.Rows L2
/-! ### figures by ten are what str tells -/
theorem dg_char {d : Nat} (h : d < 10) : d.digitChar.toNat = dg d := by
  have : ∀ d : Fin 10, d.val.digitChar.toNat = dg d.val := by decide
  exact this ⟨d, h⟩
theorem digits_lsd : ∀ n : Nat, (Nat.toDigits 10 n).map Char.toNat = (lsd 10 n).reverse.map dg := fun n => by
  induction n using Nat.strongRecOn with
  | _ n ih =>
    by_cases h : n < 10
    · rw [Nat.toDigits_of_lt_base h, lsd_lt h]
      show [n.digitChar.toNat] = [dg n]
      rw [dg_char h]
    · rw [Nat.toDigits_of_base_le (by decide) (by omega), lsd_ge (by decide) (by omega), List.map_append, ih (n / 10) (by omega), List.reverse_cons, List.map_append]
      show _ ++ [(n % 10).digitChar.toNat] = _ ++ [dg (n % 10)]
      rw [dg_char (by omega)]
theorem of_cps (s : String) : (Str.ofString s).cps.toList = s.toList.map Char.toNat := by
  show (cpsOfBytes 0 0 s.toByteArray.data.toList).toArray.toList = _
  rw [cpsOfBytes_string]
theorem nat_txt (n : Nat) : Str.ofString n.repr = txt (lsd 10 n).reverse := str_ext (by
  rw [of_cps, txt_cps]
  unfold Nat.repr
  rw [String.toList_ofList]
  exact digits_lsd n)
theorem numT_str (i : Int) : Str.ofString (toString i) = numT 10 i := by
  cases i with
  | ofNat m =>
    show Str.ofString m.repr = _
    unfold numT
    rw [if_neg (show ¬ Int.ofNat m < 0 from Int.not_lt.mpr (Int.natCast_nonneg m)), nat_txt]
    rfl
  | negSucc m =>
    show Str.ofString ("-" ++ m.succ.repr) = _
    unfold numT
    rw [if_pos (by omega)]
    refine str_ext ?_
    rw [of_cps, String.toList_append, List.map_append, app_cps, dash_cps]
    have e : m.succ.repr.toList.map Char.toNat = (txt (lsd 10 m.succ).reverse).cps.toList := by rw [← nat_txt, of_cps]
    rw [e]
    rfl
/-! ### repr(x) of an instance with its own __repr__ -/
def rReprO (C : Addr) (sp : Sp) (E : XK) : List V → Hp → VK → Prop := fun xs H Q => ∃ (a dx : Addr) (fs : List (Str × V)), xs = [.ref a] ∧ H a = some (.ins C dx fs) ∧ sp [.ref a] H (fun v H' => ∃ x : Str, v = .str x ∧ Q (.str x) H') E
theorem call_reprO {X : Cx} {CX : CXT} {k : Nat} {C f : Addr} {fd : FuncData} {ps : List Str} {sp : Sp} {E : XK} (F : FnOk X.prog X.w X.K X.mg X.base CX k f fd ps sp) (hs : PySem.W.findIn X.K (.ref C) "__repr__" = some (some (.ref f))) (hf : PySem.W.isFn X.K (.ref f) = true) (hb : Binds X.K fd ps []) (hx : Passes CX X E) (hr : Room (k + 1) X.A) : CallR X (.builtin "repr") (rReprO C sp E) := by
  intro pins s σ H xs us Q I r h
  obtain ⟨a, dx, fs, rfl, ha, hq⟩ := h
  obtain ⟨u, rfl, r1⟩ := vals1 r
  cases (show u = Value.ref a from r1)
  obtain ⟨mA, J, _⟩ := ins_get I.hok ha
  obtain ⟨od, J, _⟩ := J.look
  obtain ⟨m, fr⟩ := I.fr
  have hr1 : Room k X.A.in1 := hr.in1
  have hl : ([Value.ref a] ++ []).length = ps.length := (show ([V.ref a] : List V).length = _ from F.len _ _ _ _ hq)
  refine PySem.W.repr_K hr1.units0 fr I.ok.mod.kin J hs hf (wpAny_call (codeAny_mono (F.run X.A.in1 X.stack s H ⟨[.ref a], []⟩ [.ref a] [.ref a] _ E hr1 I.env0.in1 (hb s [.ref a] I.kIn hl) (.cons rfl .nil) hq) fun res s' hres => ?_))
  match res, hres with
  | .error er, hres => exact hx pins σ H s er s' I hres
  | .ok .next, hres => exact hres.elim
  | .ok .brk, hres => exact hres.elim
  | .ok .cont, hres => exact hres.elim
  | .ok (.ret u), hres =>
    obtain ⟨z, H', I', rz, x, rfl, q⟩ := I.after hres
    obtain ⟨t, rfl⟩ := rz
    exact ⟨.str x, H', I', ⟨t, rfl⟩, q⟩
end MM
namespace MM
open PySem PySem.Spec PySem.Calls PyProof.Rows L2
/-! ### x in [..] where a comparison runs code of its own -/
section
variable {prog : Program} {w : World} {A : Around} {R : Result → Shared → Prop}
theorem in_loopG (l : Addr) (x : Value) (N : Nat) (B : Nat → Bool) (Iv : Nat → Shared → Prop)
    (hl : ∀ i s, Iv i s → ∃ (its : Array Value) (n : Nat), s.heap.get? l = some { cls := .type "list", data := .seq its n } ∧ its.size = N ∧ ∀ h : i < its.size, wpAny (model prog w) A.in1 (eqBool its[i] x) (fun r s' => r = B i ∧ Iv (i + 1) s') (fun e s' => R (.error e) s') s)
    (fT : ∀ i s, i < N → B i = true → Iv (i + 1) s → R (.ok (.ret (.bool true))) s) (fF : (∀ j, j < N → B j = false) → ∀ s, Iv N s → R (.ok (.ret (.bool false))) s) (k : Nat) :
    ∀ i : Nat, N - i = k → i ≤ N → (∀ j, j < i → B j = false) → ∀ s, Iv i s →
      wpAny (model prog w) A.in1 (Builtin.«list.__contains__.loop» ⟨[.ref l, x, rawInt i], []⟩) (GQ.FinOf prog w A R) (fun e s' => R (.error e) s') s := by
  induction k with
  | zero =>
    intro i hk hi hno s h
    obtain ⟨its, n, h1, hs, _⟩ := hl _ _ h
    have ei : i = N := by omega
    subst ei
    have hR := fF hno s h
    obtain ⟨hp, g, d, tk, os⟩ := s
    wp_walk using wpAny_loadPart' h1
    have e1 : its[((i : Nat) : Int).toNat]? = none := by simp; omega
    rw [e1]
    wp_walk
    exact hR
  | succ k ih =>
    intro i hk hi hno s h
    obtain ⟨its, n, h1, hs, turn⟩ := hl _ _ h
    have hlt : i < its.size := by omega
    have ht := turn hlt
    obtain ⟨hp, g, d, tk, os⟩ := s
    wp_walk using wpAny_loadPart' h1
    have e1 : its[((i : Nat) : Int).toNat]? = some its[i] := by simp [hlt]
    have hc : ((i : Int) + 1) = ((i + 1 : Nat) : Int) := by omega
    rw [e1]
    refine wpAny_bind (wpAny_mono ht (fun r s2 h2 => ?_) fun _ _ z => z)
    obtain ⟨hr, h2⟩ := h2
    cases hb : B i with
    | true =>
      rw [hb] at hr
      subst hr
      have hR := fT i s2 (by omega) hb h2
      obtain ⟨hp2, g2, d2, tk2, os2⟩ := s2
      wp_walk
      exact hR
    | false =>
      rw [hb] at hr
      subst hr
      have hrec := ih (i + 1) (by omega) (by omega) (fun j hj => by
        by_cases e : j = i
        · subst e
          exact hb
        · exact hno j (by omega)) s2 h2
      obtain ⟨hp2, g2, d2, tk2, os2⟩ := s2
      wp_walk
      rw [hc]
      exact ⟨plainId_quiet PySem.MeetsSeq.plain_contains_loop _, codeAny_builtin PySem.MeetsSeq.entry_contains_loop (by
        rw [Around.under_plainId PySem.MeetsSeq.plain_contains_loop _]
        exact hrec)⟩
theorem in_listG {E : Value → Shared → Prop} {s : Shared} {Q : Value → Shared → Prop} (l : Addr) (x : Value) (N : Nat) (B : Nat → Bool) (Iv : Nat → Shared → Prop)
    (hl : ∀ i s, Iv i s → ∃ (its : Array Value) (n : Nat), s.heap.get? l = some { cls := .type "list", data := .seq its n } ∧ its.size = N ∧ ∀ h : i < its.size, wpAny (model prog w) A.in1 (eqBool its[i] x) (fun r s' => r = B i ∧ Iv (i + 1) s') E s)
    (fT : ∀ i s, i < N → B i = true → Iv (i + 1) s → Q (.bool true) s) (fF : (∀ j, j < N → B j = false) → ∀ s, Iv N s → Q (.bool false) s) (h : Iv 0 s) : wpAny (model prog w) A (compareOp .In x (.ref l)) Q E s := by
  obtain ⟨its, n, h1, _, _⟩ := hl _ _ h
  show wpAny _ A (do return .bool (← contains (.ref l) x)) Q E s
  refine wpAny_bind (wpAny_contains_slot ⟨_, h1, rfl⟩ F.slot_list_contains (wpAny_mono (GQ.call_here (Q := fun v s' => ∃ b, v = .bool b ∧ Q (.bool b) s') F.slot_list_contains ⟨_, h1, rfl⟩ F.entry_list_contains (F.args_list_contains_2 _ _) ?_) (fun v s' hv => ?_) fun _ _ e => e))
  · have go := in_loopG (prog := prog) (w := w) (A := A) (R := wants (fun v s' => ∃ b, v = .bool b ∧ Q (.bool b) s') E) l x N B Iv hl (fun i s hi hb q => ⟨true, rfl, fT i s hi hb q⟩) (fun hno s q => ⟨false, rfl, fF hno s q⟩) (N - 0) 0 rfl (Nat.zero_le _) (fun j hj => absurd hj (Nat.not_lt_zero j)) s h
    obtain ⟨hp, g, d, tk, os⟩ := s
    wp_walk
    exact ⟨plainId_quiet PySem.MeetsSeq.plain_contains_loop _, codeAny_builtin PySem.MeetsSeq.entry_contains_loop (by
      rw [Around.under_plainId PySem.MeetsSeq.plain_contains_loop _]
      exact go)⟩
  · obtain ⟨b, rfl, hq⟩ := hv
    exact wpAny_truthy_bool (wpAny_pure hq)
end
/-- == inside a builtin, with either answer: it may run code, and the heap may grow -/
def EqB (X : Cx) (n : Nat) (D : V → V → Hp → Bool → Prop) : Prop :=
  ∀ (A : Around) (pins : List (Addr × Obj)) (s : Shared) (σ : L2.St) (H : Hp) (x y : V) (u v : Value) (b : Bool), L2.Sub X n A → Inv X pins σ H s → RelV x u → RelV y v → D x y H b →
    wpAny (model X.prog X.w) A (eqBool u v) (fun r s' => r = b ∧ ∃ H', Inv X pins σ H' s' ∧ Ext H H') X.xe s
/-- x in [..]: B i tells whether the i-th thing is == x -/
def rInG (D : V → V → Hp → Bool → Prop) : R2 := fun x y H Q => ∃ (p : Addr) (xs : List V) (B : Nat → Bool), y = .ref p ∧ H p = some (.lst xs) ∧ (∀ i z, xs[i]? = some z → ∀ H', Ext H H' → D z x H' (B i)) ∧ ∀ H', Ext H H' → Q (.bl ((List.range xs.length).any B)) H'
theorem op_inG {X : Cx} {n : Nat} {D : V → V → Hp → Bool → Prop} (h : EqB X n D) (hr : Room (n + 1) X.A) : OpR X (compareOp .In) (rInG D) := by
  intro pins s σ H x y v u Q I rx ry hq
  obtain ⟨p, xs, B, rfl, hp, hD, q⟩ := hq
  cases (show u = Value.ref p from ry)
  have sb : L2.Sub X (n + 1) X.A := ⟨hr, rfl⟩
  refine in_listG (A := X.A) p v xs.length B (fun _ s' => ∃ H', Inv X pins σ H' s' ∧ Ext H H') ?_ ?_ ?_ ⟨H, I, Ext.rfl'⟩
  · rintro i s' ⟨H', I', e⟩
    obtain ⟨z, its, k, r, ek⟩ := I'.hok p _ (e _ _ hp)
    refine ⟨its.toArray, k, ek, by rw [List.size_toArray, ← r.length], fun h1 => ?_⟩
    have hi : i < its.length := by simpa using h1
    have hx : i < xs.length := by rw [r.length]; exact hi
    obtain ⟨w, hw, rw'⟩ := r.get (List.getElem?_eq_getElem hx)
    have ew : its.toArray[i] = w := by
      rw [List.getElem?_eq_getElem hi] at hw
      simpa using Option.some.inj hw
    rw [ew]
    refine wpAny_mono (h X.A.in1 pins s' σ H' _ x w v (B i) sb.in1 I' rw' rx (hD i _ (List.getElem?_eq_getElem hx) H' e)) (fun c s2 z2 => ?_) fun _ _ y => y
    obtain ⟨hc, H2, I2, e2⟩ := z2
    exact ⟨hc, H2, I2, e.trans e2⟩
  · rintro i s' hi hb ⟨H', I', e⟩
    refine ⟨.bl true, H', I', rfl, ?_⟩
    have z := q H' e
    have ea : (List.range xs.length).any B = true := List.any_eq_true.mpr ⟨i, List.mem_range.mpr hi, hb⟩
    rw [ea] at z
    exact z
  · rintro hno s' ⟨H', I', e⟩
    refine ⟨.bl false, H', I', rfl, ?_⟩
    have z := q H' e
    have ea : (List.range xs.length).any B = false := by
      rw [List.any_eq_false]
      intro j hj
      rw [hno j (List.mem_range.mp hj)]
      decide
    rw [ea] at z
    exact z
end MM
namespace MM
open PySem PySem.Spec PySem.Calls PyProof.Rows L2
open AutoSeq1 (wpAny_loadPart')
/-! ### plain things == an instance: they decline, the instance's own __eq__ is asked -/
section
theorem int_dec_b (b : Bool) (l C dx : Addr) : Meets (Builtin.«int.__eq__» ⟨[.bool b, .ref l], []⟩) (fun _ R s => s.heap.get? l = some (PySem.W.instObj C dx) ∧ R (.ok (.ret .notImplemented)) s) :=
  .of_wp fun prog w A R s h => by obtain ⟨hp, g, d, tk, os⟩ := s; obtain ⟨hl, h⟩ := h; wp_walk using wpAny_loadPart' hl, wpAny_load hl; exact ⟨_, rfl, h⟩
theorem int_dec_i (b : Int) (u : Tok) (l C dx : Addr) : Meets (Builtin.«int.__eq__» ⟨[.int b u, .ref l], []⟩) (fun _ R s => s.heap.get? l = some (PySem.W.instObj C dx) ∧ R (.ok (.ret .notImplemented)) s) :=
  .of_wp fun prog w A R s h => by obtain ⟨hp, g, d, tk, os⟩ := s; obtain ⟨hl, h⟩ := h; wp_walk using wpAny_loadPart' hl, wpAny_load hl; exact ⟨_, rfl, h⟩
theorem str_dec_s (b : Str) (u : Tok) (l C dx : Addr) : Meets (Builtin.«str.__eq__» ⟨[.str b u, .ref l], []⟩) (fun _ R s => s.heap.get? l = some (PySem.W.instObj C dx) ∧ R (.ok (.ret .notImplemented)) s) :=
  .of_wp fun prog w A R s h => by obtain ⟨hp, g, d, tk, os⟩ := s; obtain ⟨hl, h⟩ := h; wp_walk using wpAny_loadPart' hl, wpAny_load hl; exact ⟨_, rfl, h⟩
end
section
variable {prog : Program} {w : World} {A : Around} {E : Value → Shared → Prop} {s : Shared} {K : PySem.W.Frag} {x C L f dx : Addr} {h₀ : Heap} {m : Str → Option Value} {od : Option Obj} {a : Value} {T : String}
/-- richCompare a x where a is of a built-in type and declines -/
theorem rc_back {Q : Value → Shared → Prop} (hu : A.units < cLine) (F : Fr h₀ L s.heap m) (X₀ : K.In h₀) (I : PySem.W.InstAt s.heap x (PySem.W.instObj C dx) C od) (ha : s.TypeIs a T) (hsub : PySem.W.subIn K (.ref C) (.type T) = some false)
    (one : wpAny (model prog w) A (tryCompare a "__eq__" (.ref x)) (fun r s' => r = none ∧ s' = s) E s)
    (hs : PySem.W.findIn K (.ref C) "__eq__" = some (some (.ref f))) (hf : PySem.W.isFn K (.ref f) = true)
    (h : wpAny (model prog w) A (call (.ref f) [.ref x, a]) (PySem.W.CmpBack Q) E s) : wpAny (model prog w) A (richCompare .Eq a (.ref x)) Q E s := by
  have X := X₀.keeps F.keep
  have two : wpAny (model prog w) A (tryCompare (.ref x) "__eq__" a) (fun r s' => ∃ v, r = some v ∧ Q v s') E s := by
    unfold tryCompare
    refine wpAny_bind (PySem.W.ifBound_K X I hs hf (wpAny_mono h (fun v s' hv => ?_) fun _ _ e => e))
    cases v <;> first | exact hv.elim | exact wpAny_pure ⟨_, rfl, hv⟩
  simp only [richCompare, cmpInfo, ha.oneThing_none]
  refine wpAny_holding (wpAny_bind (wpAny_cRoomFor hu ?_))
  refine wpAny_bind (wpAny_typeOf ha (wpAny_bind (I.type.here ?_)))
  have hne : (Value.type T != Value.ref C) = true := rfl
  simp only [hne, if_true]
  refine wpAny_bind ((PySem.W.looks_subIn X hsub).here ?_)
  simp only [Bool.false_eq_true, if_false, Bool.not_false, if_true]
  refine wpAny_bind (m := tryCompare a _ (.ref x)) (wpAny_mono one (fun r s1 z => ?_) fun _ _ e => e)
  obtain ⟨z1, z2⟩ := z
  subst z1
  subst z2
  refine wpAny_bind (m := tryCompare (.ref x) _ a) (wpAny_mono two (fun r s2 z => ?_) fun _ _ e => e)
  obtain ⟨v, rfl, hq⟩ := z
  exact wpAny_pure hq
end

/-! ### == inside a builtin by an own __eq__, either way about -/
/-- what is of a built-in type and declines beside an instance -/
inductive Pl (K : PySem.W.Frag) (H : Hp) : V → String → Prop where
  | non : Pl K H .non "NoneType"
  | bl (b : Bool) : Pl K H (.bl b) "bool"
  | int (i : Int) : Pl K H (.int i) "int"
  | str (x : Str) : Pl K H (.str x) "str"
  | tup {a : Addr} {xs : List V} (h : H a = some (.tup xs)) : Pl K H (.ref a) "tuple"
  | lst {a : Addr} {xs : List V} (h : H a = some (.lst xs)) : Pl K H (.ref a) "list"
section
variable {prog : Program} {w : World} {A : Around} {E : Value → Shared → Prop} {s : Shared} {K : PySem.W.Frag} {x l C dx : Addr} {od : Option Obj}
theorem tup_dec {items : Array Value} {Q : Option Value → Shared → Prop} (X : K.In s.heap) (I : PySem.W.InstAt s.heap x (PySem.W.instObj C dx) C od) (hl : s.heap.IsTuple l items) (hsub : PySem.W.subIn K (.ref C) (.type "tuple") = some false) (q : Q none s) :
    wpAny (model prog w) A (tryCompare (.ref l) "__eq__" (.ref x)) Q E s := by
  obtain ⟨⟨cls, dd, data, sl⟩, ho, hc, n, hd⟩ := id hl
  simp only at hc hd
  subst hc hd
  refine wpAny_tryCompare_declines ⟨_, ho, rfl⟩ PySem.F.slot_tuple_eq (GQ.call_here PySem.F.slot_tuple_eq ⟨_, ho, rfl⟩ PySem.F.entry_tuple_eq (PySem.F.args_tuple_eq_2 _ _) ?_)
  have L : PySem.W.Looks (model prog w) s.heap (isInstance (.ref x) (.type "tuple")) false := I.type.andThen (PySem.W.looks_subIn X hsub)
  obtain ⟨hp, g, d, tk, os⟩ := s
  wp_walk using wpAny_loadPart' ho, L.here
  exact ⟨rfl, q⟩
theorem lst_dec {items : Array Value} {n : Nat} {Q : Option Value → Shared → Prop} (X : K.In s.heap) (I : PySem.W.InstAt s.heap x (PySem.W.instObj C dx) C od) (ho : s.heap.get? l = some { cls := .type "list", data := .seq items n }) (hsub : PySem.W.subIn K (.ref C) (.type "list") = some false) (q : Q none s) :
    wpAny (model prog w) A (tryCompare (.ref l) "__eq__" (.ref x)) Q E s := by
  refine wpAny_tryCompare_declines ⟨_, ho, rfl⟩ PySem.F.slot_list_eq (GQ.call_here PySem.F.slot_list_eq ⟨_, ho, rfl⟩ PySem.F.entry_list_eq (PySem.F.args_list_eq_2 _ _) ?_)
  have L : PySem.W.Looks (model prog w) s.heap (isInstance (.ref x) (.type "list")) false := I.type.andThen (PySem.W.looks_subIn X hsub)
  obtain ⟨hp, g, d, tk, os⟩ := s
  wp_walk using wpAny_loadPart' ho, L.here
  exact ⟨rfl, q⟩
end
theorem pl_dec {X : Cx} {pins : List (Addr × Obj)} {σ : L2.St} {H : Hp} {s : Shared} {A : Around} {z : V} {u : Value} {T : String} {x C dx : Addr} {od : Option Obj} {E : Value → Shared → Prop} (I : Inv X pins σ H s) (p : Pl X.K H z T) (r : RelV z u) (J : PySem.W.InstAt s.heap x (PySem.W.instObj C dx) C od)
    (hsub : PySem.W.subIn X.K (.ref C) (.type T) = some false) : s.TypeIs u T ∧ wpAny (model X.prog X.w) A (tryCompare u "__eq__" (.ref x)) (fun r s' => r = none ∧ s' = s) E s := by
  cases p with
  | non =>
    cases (show u = Value.none from r)
    exact ⟨rfl, wpAny_tryCompare_declines rfl PySem.F.slot_NoneType_eq (call_gives PySem.F.slot_NoneType_eq rfl PySem.F.entry_NoneType_eq (PySem.F.args_NoneType_eq_2 _ _) (SeqAt.NoneType___eq___none_ref_0 x) ⟨rfl, rfl, rfl⟩)⟩
  | bl b =>
    cases (show u = Value.bool b from r)
    exact ⟨rfl, wpAny_tryCompare_declines rfl PySem.F.slot_bool_eq (call_meets PySem.F.slot_bool_eq rfl PySem.F.entry_int_eq (PySem.F.args_int_eq_2 _ _) (int_dec_b b x C dx) ⟨J.at_, rfl, rfl, rfl⟩)⟩
  | int i =>
    obtain ⟨t, rfl⟩ := r
    exact ⟨typeIs_int s i t, wpAny_tryCompare_declines (typeIs_int s i t) PySem.F.slot_int_eq (call_meets PySem.F.slot_int_eq (typeIs_int s i t) PySem.F.entry_int_eq (PySem.F.args_int_eq_2 _ _) (int_dec_i i t x C dx) ⟨J.at_, rfl, rfl, rfl⟩)⟩
  | str y =>
    obtain ⟨t, rfl⟩ := r
    exact ⟨typeIs_str s y t, wpAny_tryCompare_declines (typeIs_str s y t) PySem.F.slot_str_eq (call_meets PySem.F.slot_str_eq (typeIs_str s y t) PySem.F.entry_str_eq (PySem.F.args_str_eq_2 _ _) (str_dec_s y t x C dx) ⟨J.at_, rfl, rfl, rfl⟩)⟩
  | tup h =>
    rename_i a xs
    cases (show u = Value.ref a from r)
    obtain ⟨its, r2, e, z⟩ := I.tuple (SqT.of h)
    refine ⟨?_, tup_dec I.kIn J e hsub ⟨rfl, rfl⟩⟩
    obtain ⟨o, ho, hc, n, hd⟩ := e
    exact ⟨o, ho, hc⟩
  | lst h =>
    rename_i a xs
    cases (show u = Value.ref a from r)
    obtain ⟨z, its, k, r2, e⟩ := I.hok a _ h
    exact ⟨⟨_, e, rfl⟩, lst_dec I.kIn J e hsub ⟨rfl, rfl⟩⟩
def DOwn (K : PySem.W.Frag) (C : Addr) (sp : Sp) (E : XK) : V → V → Hp → Bool → Prop := fun z x H b =>
  (∃ (a dx : Addr) (fs : List (Str × V)), z = .ref a ∧ H a = some (.ins C dx fs) ∧ ((x = .ref a ∧ b = true) ∨ (x ≠ .ref a ∧ ∃ t, TyX K H x t ∧ PySem.W.notFirst K C t = true ∧ sp [z, x] H (fun v H' => v = .bl b ∧ Ext H H') E))) ∨
  (∃ (a dx : Addr) (fs : List (Str × V)) (T : String), x = .ref a ∧ H a = some (.ins C dx fs) ∧ Pl K H z T ∧ PySem.W.subIn K (.ref C) (.type T) = some false ∧ sp [x, z] H (fun v H' => v = .bl b ∧ Ext H H') E)
theorem rel_ne {x : V} {v : Value} {a : Addr} (r : RelV x v) (h : x ≠ .ref a) : (Value.ref a == v) = false ∧ (v == Value.ref a) = false := by
  constructor
  · rw [beq_eq_false_iff_ne]
    intro z
    subst z
    apply h
    cases x <;> first | (cases r; rfl) | (obtain ⟨_, z⟩ := r; cases z) | (cases r)
  · rw [beq_eq_false_iff_ne]
    intro z
    subst z
    apply h
    cases x <;> first | (cases r; rfl) | (obtain ⟨_, z⟩ := r; cases z) | (cases r)
theorem env_sub {X : Cx} {n : Nat} {A : Around} {pins : List (Addr × Obj)} {σ : L2.St} {H : Hp} {s : Shared} (sb : L2.Sub X n A) (I : Inv X pins σ H s) : Env0 X.prog X.w X.K X.mg X.base A X.stack s H := by
  have e := I.env0
  exact ⟨by rw [sb.fr]; exact e.frames, e.mod, e.bs, e.bsz, e.funs, e.frf, e.hok, e.bare⟩
theorem eqB_own {X : Cx} {n : Nat} {CX : CXT} {C f : Addr} {fd : FuncData} {ps : List Str} {sp : Sp} {E : XK} (F : FnOk X.prog X.w X.K X.mg X.base CX n f fd ps sp)
    (hs : PySem.W.findIn X.K (.ref C) "__eq__" = some (some (.ref f))) (hf : PySem.W.isFn X.K (.ref f) = true) (hb : Binds X.K fd ps []) (hx : Passes CX X E) : EqB X n (DOwn X.K C sp E) := by
  intro A pins s σ H x y u v b sb I rx ry d
  have e0 := env_sub sb I
  obtain ⟨m, hF⟩ := I.fr
  -- the call of the own __eq__
  have run : ∀ (p q : V) (p' q' : Value), RelV p p' → RelV q q' → sp [p, q] H (fun v H' => v = .bl b ∧ Ext H H') E →
      wpAny (model X.prog X.w) A (call (.ref f) [p', q']) (PySem.W.CmpBack (fun v s' => v = .bool b ∧ ∃ H', Inv X pins σ H' s' ∧ Ext H H')) X.xe s := by
    intro p q p' q' rp rq hsp
    have hl := F.len _ _ _ _ hsp
    refine wpAny_call (codeAny_mono (F.run A X.stack s H ⟨[p', q'], []⟩ [p', q'] [p, q] _ E sb.room e0 (by
      have := hb s [p', q'] I.kIn (by simpa using hl)
      simpa using this) (.cons rp (.cons rq .nil)) hsp) fun r s' hq => ?_)
    cases r with
    | error e => exact hx pins σ H s e s' I hq
    | ok fl =>
      cases fl with
      | ret w =>
        obtain ⟨z, H', I', rz, ez, ex⟩ := I.after hq
        subst ez
        cases (show w = Value.bool b from rz)
        exact ⟨rfl, H', I', ex⟩
      | next => exact False.elim hq
      | brk => exact False.elim hq
      | cont => exact False.elim hq
  rcases d with ⟨a, dx, fs, rfl, ha, hh⟩ | ⟨a, dx, fs, T, rfl, ha, pl, hsub, hsp⟩
  · cases (show u = Value.ref a from rx)
    rcases hh with ⟨rfl, rfl⟩ | ⟨hne, t, ty, nf, hsp⟩
    · cases (show v = Value.ref a from ry)
      exact SeqAt.EqAt.same (A := A) (s := s) (.ref a) X.prog X.w X.xe _ ⟨rfl, H, I, Ext.rfl'⟩
    · obtain ⟨mA, J, _⟩ := ins_get I.hok ha
      obtain ⟨od, J, _⟩ := J.look
      obtain ⟨P, kx, hP, _⟩ := kit_of I ry ty
      unfold eqBool
      refine wpAny_holding ?_
      rw [(rel_ne ry hne).1]
      simp only [Bool.false_eq_true, if_false]
      refine wpAny_bind (PySem.W.cmp_K (op := .Eq) sb.room.units0 hF I.ok.mod.kin J (kx.ty _ _ I.kIn hP) nf hs hf (wpAny_mono (run (.ref a) y (.ref a) v rfl ry hsp) (fun w s' hw => ?_) fun _ _ z => z))
      cases w with
      | bool c =>
        obtain ⟨hc, q⟩ := (show Value.bool c = .bool b ∧ _ from hw)
        exact wpAny_truthy_bool ⟨Value.bool.inj hc, q⟩
      | notImplemented => exact hw.elim
      | _ =>
        obtain ⟨hc, q⟩ := hw
        cases hc
  · cases (show v = Value.ref a from ry)
    obtain ⟨mA, J, _⟩ := ins_get I.hok ha
    obtain ⟨od, J, _⟩ := J.look
    obtain ⟨ht, dec⟩ := pl_dec (A := A) (E := X.xe) I pl rx J hsub
    have hne : x ≠ .ref a := by
      rintro rfl
      cases pl with
      | tup h =>
        obtain ⟨its, r2, e, z⟩ := I.tuple (SqT.of h)
        obtain ⟨o, ho, hc, _⟩ := e
        rw [J.at_] at ho
        cases ho
        cases hc
      | lst h =>
        rw [ha] at h
        cases h
    unfold eqBool
    refine wpAny_holding ?_
    rw [(rel_ne rx hne).2]
    simp only [Bool.false_eq_true, if_false]
    have go : wpAny (model X.prog X.w) A (richCompare .Eq u (.ref a)) (fun w s' => wpAny (model X.prog X.w) A (truthOfDropped w) (fun r s' => r = b ∧ ∃ H', Inv X pins σ H' s' ∧ Ext H H') X.xe s') X.xe s := by
      refine rc_back sb.room.units0 hF I.ok.mod.kin J ht hsub dec hs hf (wpAny_mono (run (.ref a) x (.ref a) u rfl rx hsp) (fun w s' hw => ?_) fun _ _ z => z)
      cases w with
      | bool c =>
        obtain ⟨hc, q⟩ := (show Value.bool c = .bool b ∧ _ from hw)
        exact wpAny_truthy_bool ⟨Value.bool.inj hc, q⟩
      | notImplemented => exact hw.elim
      | _ =>
        obtain ⟨hc, q⟩ := hw
        cases hc
    cases u <;> exact wpAny_bind go
theorem op_inO {X : Cx} {CX : CXT} {k j : Nat} {C : Addr} {qual : Str} {st : Stmt} {ps : List Str} {sp : Sp} {E : XK} (c : Cm X.prog X.w X.K X.mg X.base CX k C "__eq__" qual st ps sp) (b : Bd "__eq__" qual st ps) (hx : Passes CX X E) (hr : Room j X.A) (hk : k + 1 ≤ j) :
    OpR X (compareOp .In) (rInG (DOwn X.K C sp E)) := by
  obtain ⟨f, fd, F, M, hc, G⟩ := c.ex
  exact op_inG (eqB_own G M.1 M.2 (F.bindsN b) hx) (hr.mono hk)
/-- the built-in types come of no class of the text -/
theorem sub_T {K : PySem.W.Frag} {C : Addr} {T : String} (ms : List String) (e : fastBuiltinMro T = some (ms.map Value.type)) : PySem.W.subIn K (.type T) (.ref C) = some false := by
  show (fastBuiltinMro T).map (·.contains (.ref C)) = some false
  rw [e]
  show some ((ms.map Value.type).contains (.ref C)) = some false
  congr 1
  rw [List.contains_eq_any_beq]
  rw [List.any_eq_false]
  intro x hx
  obtain ⟨m, _, rfl⟩ := List.mem_map.mp hx
  simp
theorem sub_ty {K : PySem.W.Frag} {C : Addr} {H : Hp} {z : V} {T : String} (p : Pl K H z T) : PySem.W.subIn K (.type T) (.ref C) = some false := by
  cases p with
  | non => exact sub_T ["NoneType", "object"] (by decide +kernel)
  | bl b => exact sub_T ["bool", "int", "object"] (by decide +kernel)
  | int i => exact sub_T ["int", "object"] (by decide +kernel)
  | str x => exact sub_T ["str", "object"] (by decide +kernel)
  | tup h => exact sub_T ["tuple", "object"] (by decide +kernel)
  | lst h => exact sub_T ["list", "object"] (by decide +kernel)
theorem Pl.tyx {K : PySem.W.Frag} {H : Hp} {z : V} {T : String} (p : Pl K H z T) : TyX K H z (.type T) := by
  cases p with
  | non => exact .base .non
  | bl b => exact .base (.bl b)
  | int i => exact .base (.int i)
  | str x => exact .base (.str x)
  | tup e => exact .base (.tup e)
  | lst e => exact .base (.lst e)
theorem Pl.first {K : PySem.W.Frag} {C : Addr} {H : Hp} {z : V} {T : String} (p : Pl K H z T) : PySem.W.notFirst K C (.type T) = true := by
  unfold PySem.W.notFirst
  rw [sub_ty p]
  simp
end MM
namespace MM
open PySem PySem.Spec PySem.Calls PyProof.Rows L2
/-! ### truths as texts -/
def blS (b : Bool) : Str := if b then "True" else "False"
section
variable {prog : Program} {w : World} {A : Around} {E : Value → Shared → Prop} {s : Shared}
open Builtin Builtin.Str in
theorem strOf_bool {b : Bool} {Q : Value → Shared → Prop} (h : Q (.str (blS b) s.toks) { s with toks := s.toks + 1 }) : wpAny (model prog w) A (PySem.Builtin.Str.strOf (.bool b)) Q E s := by
  unfold PySem.Builtin.Str.strOf
  rw [show isExactStr (.bool b) = false from rfl]
  simp only [cRoomFor, show [Value.bool b].any Value.onHeap = false from rfl, Bool.false_eq_true, if_false, pure_bind]
  refine wpAny_bind (m := callSpecial? _ (PySem.Str.ofString "__str__")) (wpAny_callSpecial?_slot (name := PySem.Str.ofString "__str__") (PySem.typeIs_bool s b) PySem.F.slot_bool_str (call_object_str_gives (PySem.typeIs_bool s b) PySem.F.slot_bool_str PySem.F.slot_bool_repr PySem.F.entry_bool_repr (PySem.F.args_bool_repr_1 _) (gives_bool_repr b) ?_ rfl (by cases b <;> decide)))
  exact wpAny_pure h
theorem str_of_bool {b : Bool} {Q : Value → Shared → Prop} (h : Q (.str (blS b) s.toks) { s with toks := s.toks + 1 }) : wpAny (model prog w) A (call (.type "str") [.bool b]) Q E s := by
  refine callType_codes (T := "str") (Bi := Builtin.«object.__init__») (Q₁ := fun r s₁ => ∃ y u, r = .str y u ∧ Q r s₁) PySem.F.called_str (PySem.F.typeCall_str_1 _) PySem.F.entry_object_init ?_ ?_
  · refine codeAny_of_tree ?_
    show wpAny _ A.in1.in1 (do checkBuiltinCall "str.__new__" ⟨[.type "str", .bool b], []⟩; again (.builtin "str.__new__" ⟨[.type "str", .bool b], []⟩)) _ _ s
    refine wpAny_bind (wpAny_of_eq (PySem.F.newCall_str_1 _) (wpAny_pure ⟨plainId_quiet (by decide +kernel) _, codeAny_builtin PySem.F.entry_str_new ?_⟩))
    rw [Around.under_plainId (by decide +kernel) _]
    rw [str_new_tree]
    refine wpAny_bind (wpAny_pure ?_)
    refine wpAny_bind (wpAny_of_eq isSubtype_str_str ?_)
    exact wpAny_bind (strOf_bool (wpAny_pure ⟨_, _, rfl, h⟩))
  · rintro obj s₁ ⟨y, u, rfl, hq⟩
    exact ⟨typeIs_str _ _ _, PySem.F.args_object_init_2 _ _, object_init_meets PySem.F.called_str.init.lookup PySem.F.called_str.made (by decide) prog w A.in1 _ s₁ ⟨typeIs_str _ _ _, rfl, hq⟩⟩
end
section
variable {X : Cx}
theorem call_str_bool : CallR X (.type "str") (fun xs H Q => ∃ b, xs = [.bl b] ∧ Q (.str (blS b)) H) := by
  intro pins s σ H xs us Q I r h
  obtain ⟨b, rfl, q⟩ := h
  obtain ⟨u, rfl, r1⟩ := vals1 r
  cases (show u = Value.bool b from r1)
  exact str_of_bool ⟨.str _, H, I.tok _, ⟨_, rfl⟩, q⟩
/-- str of a whole number or a truth -/
theorem call_strIB : CallR X (.type "str") (fun xs H Q => (∃ i : Int, xs = [.int i] ∧ i.natAbs.log2 < 1920 ∧ Q (.str (toString i)) H) ∨ ∃ b, xs = [.bl b] ∧ Q (.str (blS b)) H) := CallR.or call_str_int call_str_bool
/-- {x} of a truth -/
def tFmtB (te : TE) : TE := fun σ H Q => te σ H fun x H1 => ∃ b : Bool, x = .bl b ∧ Q (.str (blS b)) H1
theorem pe_fmtB {e : Expr} {te : TE} {pos : Pos} (he : PE X e te) : PE X (.FormattedValue e (-1) none pos) (tFmtB te) := by
  refine ⟨fun pins s σ H Q I h => ?_⟩
  refine wpAny_FormattedValue_plain (thn (he.run pins s σ H _ I h) fun v s1 hv => ?_)
  obtain ⟨x, H1, I1, r1, b, rfl, q⟩ := hv
  cases (show v = Value.bool b from r1)
  exact wpAny_formatField_bool ⟨.str (blS b), H1, I1.tok _, ⟨_, rfl⟩, q⟩
end
/-- str(x) of a whole number, a truth, or an instance with its own __str__ -/
@[irreducible] def rSA (C : Addr) (sp : Sp) (E : XK) : List V → Hp → VK → Prop := fun xs H Q => ((∃ i : Int, xs = [.int i] ∧ i.natAbs.log2 < 1920 ∧ Q (.str (toString i)) H) ∨ ∃ b, xs = [.bl b] ∧ Q (.str (blS b)) H) ∨ rStrO C sp E xs H Q
theorem sa_int {C : Addr} {sp : Sp} {E : XK} {H : Hp} {Q : VK} {i : Int} (h : i.natAbs.log2 < 1920) (q : Q (.str (toString i)) H) : rSA C sp E [.int i] H Q := by
  unfold rSA
  exact .inl (.inl ⟨i, rfl, h, q⟩)
theorem sa_bl {C : Addr} {sp : Sp} {E : XK} {H : Hp} {Q : VK} {b : Bool} (q : Q (.str (blS b)) H) : rSA C sp E [.bl b] H Q := by
  unfold rSA
  exact .inl (.inr ⟨b, rfl, q⟩)
theorem sa_own {C : Addr} {sp : Sp} {E : XK} {H : Hp} {Q : VK} {a dx : Addr} {fs : List (Str × V)} (e : H a = some (.ins C dx fs)) (q : sp [.ref a] H (fun v H' => ∃ x : Str, v = .str x ∧ Q (.str x) H') E) : rSA C sp E [.ref a] H Q := by
  unfold rSA
  exact .inr ⟨a, dx, fs, rfl, e, q⟩
theorem call_str_SA {X : Cx} {CX : CXT} {k : Nat} {C : Addr} {qual : Str} {st : Stmt} {ps : List Str} {sp : Sp} {E : XK} (c : Cm X.prog X.w X.K X.mg X.base CX k C "__str__" qual st ps sp) (b : Bd "__str__" qual st ps) (hr : Room (k + 2) X.A) (hx : Passes CX X E) :
    CallR X (.type "str") (rSA C sp E) := by
  obtain ⟨f, fd, F, M, hc, G⟩ := c.ex
  unfold rSA
  exact CallR.or call_strIB (call_strO G M.1 M.2 (F.bindsN b) hx hr)
theorem call_reprC {X : Cx} {CX : CXT} {k : Nat} {C : Addr} {qual : Str} {st : Stmt} {ps : List Str} {sp : Sp} {E : XK} (c : Cm X.prog X.w X.K X.mg X.base CX k C "__repr__" qual st ps sp) (b : Bd "__repr__" qual st ps) (hr : Room (k + 1) X.A) (hx : Passes CX X E) :
    CallR X (.builtin "repr") (rReprO C sp E) := by
  obtain ⟨f, fd, F, M, hc, G⟩ := c.ex
  exact call_reprO G M.1 M.2 (F.bindsN b) hx hr
theorem ln (xs : List V) (h : Nat.ble xs.length 1000 = true := by rfl) : xs.length ≤ sizeLine := Nat.le_trans (Nat.le_of_ble_eq_true h) (by decide)
end MM
namespace MM
open PySem PySem.Spec PySem.Calls PyProof.Rows L2
/-- an own class that comes of no built-in one -/
structure OwnC (K : PySem.W.Frag) (C : Addr) : Prop where
  iC : PySem.W.isClsIn K C = true
  tC : PySem.W.typeIn K (.ref C) = some (.type "type")
  bn : PySem.W.subIn K (.ref C) (.type "NoneType") = some false
  bb : PySem.W.subIn K (.ref C) (.type "bool") = some false
  bi : PySem.W.subIn K (.ref C) (.type "int") = some false
  bs : PySem.W.subIn K (.ref C) (.type "str") = some false
  bt : PySem.W.subIn K (.ref C) (.type "tuple") = some false
  bl : PySem.W.subIn K (.ref C) (.type "list") = some false
theorem OwnC.sub {K : PySem.W.Frag} {C : Addr} {H : Hp} {z : V} {T : String} (o : OwnC K C) (p : Pl K H z T) : PySem.W.subIn K (.ref C) (.type T) = some false := by
  cases p with
  | non => exact o.bn
  | bl _ => exact o.bb
  | int _ => exact o.bi
  | str _ => exact o.bs
  | tup _ => exact o.bt
  | lst _ => exact o.bl
theorem OwnC.kit {K : PySem.W.Frag} {C : Addr} {H : Hp} {z : V} {T : String} (o : OwnC K C) (p : Pl K H z T) : PySem.W.kitOne K (.type T) (.ref C) = some false := kit_no o.iC o.tC (by simp) (sub_ty p)
theorem Pl.ext {K : PySem.W.Frag} {H H' : Hp} {z : V} {T : String} (p : Pl K H z T) (e : Ext H H') : Pl K H' z T := by
  cases p with
  | non => exact .non
  | bl b => exact .bl b
  | int i => exact .int i
  | str x => exact .str x
  | tup h => exact .tup (e _ _ h)
  | lst h => exact .lst (e _ _ h)
theorem Pl.ne {K : PySem.W.Frag} {H : Hp} {z : V} {T : String} {a C dx : Addr} {fs : List (Str × V)} (p : Pl K H z T) (e : H a = some (.ins C dx fs)) : z ≠ .ref a := by
  rintro rfl
  cases p with
  | tup h =>
    rw [e] at h
    cases h
  | lst h =>
    rw [e] at h
    cases h
end MM
namespace MM
open PySem PySem.Spec PySem.Calls PyProof.Rows L2
open AutoSeq1 (wpAny_loadPart')
open GQ (FinOf call_here)
/-! ### tuples of instances, != -/
section
variable {prog : Program} {w : World} {A : Around} {R : Result → Shared → Prop}
theorem tup_ne (l b : Addr) (xs ys : Array Value) (n m : Nat) (dd de : Option Addr) (sl sm : Array (Option Value)) (hz : xs.size = ys.size) (Iv : Nat → Shared → Prop)
    (turn : ∀ i (h1 : i < xs.size) (h2 : i < ys.size) s, Iv i s → wpAny (model prog w) A.in1 (eqBool xs[i] ys[i]) (fun r s' => r = true ∧ Iv (i + 1) s') (fun e s' => R (.error e) s') s)
    (fin : ∀ s, Iv xs.size s → R (.ok (.ret (.bool false))) s) {s : Shared} (ha : s.heap.get? l = some { cls := .type "tuple", dict := dd, data := .seq xs n, slots := sl }) (hb : s.heap.get? b = some { cls := .type "tuple", dict := de, data := .seq ys m, slots := sm }) (h : Iv 0 s) :
    wpAny (model prog w) A.in1 (Builtin.«tuple.__ne__» ⟨[.ref l, .ref b], []⟩) (FinOf prog w A R) (fun e s' => R (.error e) s') s := by
  have f2 := AutoSeq1.sub_tuple_tuple
  have hZ : (xs.toList.zip ys.toList).length = xs.size := by simp [hz]
  have h0 := h
  obtain ⟨hp, g, d, tk, os⟩ := s
  wp_walk using wpAny_loadPart' ha, wpAny_loadPart' hb, wpAny_forIn_list _ (fun rest b s' => b.1 = none ∧ ∃ i, rest = (xs.toList.zip ys.toList).drop i ∧ i ≤ xs.size ∧ Iv i s') _
  case turn =>
    rintro ⟨y, x⟩ rest b s' ⟨hb', i, hq, hi, hI⟩
    have hlt : i < (xs.toList.zip ys.toList).length := by
      by_cases h' : i < (xs.toList.zip ys.toList).length
      · exact h'
      · rw [List.drop_of_length_le (by omega)] at hq
        cases hq
    have h1 : i < xs.size := hZ ▸ hlt
    have h2 : i < ys.size := hz ▸ h1
    rw [List.drop_eq_getElem_cons hlt] at hq
    injection hq with hyx hrest
    have hy : y = xs[i] := by have := congrArg Prod.fst hyx; simpa using this
    have hx : x = ys[i] := by have := congrArg Prod.snd hyx; simpa using this
    subst hy hx
    refine wpAny_bind (wpAny_mono (turn i h1 h2 s' hI) (fun r s2 q2 => ?_) fun _ _ x => x)
    obtain ⟨hr, q2⟩ := q2
    subst hr
    wp_walk
    exact ⟨rfl, i + 1, hrest, h1, q2⟩
  case fin =>
    rintro ⟨b1, b2⟩ s' ⟨hb', i, hq, hi, hI⟩
    simp only at hb'
    subst hb'
    have hge : xs.size ≤ i := by
      by_cases h' : i < (xs.toList.zip ys.toList).length
      · rw [List.drop_eq_getElem_cons h'] at hq
        cases hq
      · omega
    have hi' : i = xs.size := by omega
    have hR : R (.ok (.ret (.bool false))) s' := fin s' (hi' ▸ hI)
    wp_walk
    simpa [Builtin.Tuple.tupleCompareSizes, hz] using hR
  case h =>
    exact ⟨rfl, 0, rfl, Nat.zero_le _, h0⟩
theorem rc_tup_ne {E : Value → Shared → Prop} {s : Shared} {l b : Addr} {xs ys : Array Value} {Q : Value → Shared → Prop} (hz : xs.size = ys.size) (hu : A.units < cLine) (Iv : Nat → Shared → Prop) (hl : s.heap.IsTuple l xs) (hb : s.heap.IsTuple b ys)
    (turn : ∀ i (h1 : i < xs.size) (h2 : i < ys.size) s, Iv i s → wpAny (model prog w) A.in1 (eqBool xs[i] ys[i]) (fun r s' => r = true ∧ Iv (i + 1) s') E s)
    (fin : ∀ s, Iv xs.size s → Q (.bool false) s) (h : Iv 0 s) : wpAny (model prog w) A (richCompare .NotEq (.ref l) (.ref b)) Q E s := by
  obtain ⟨⟨cls, dd, data, sl⟩, ho, hc, n, hd⟩ := id hl
  obtain ⟨⟨cls2, dd2, data2, sl2⟩, ho2, hc2, n2, hd2⟩ := id hb
  simp only at hc hd hc2 hd2
  subst hc hd hc2 hd2
  refine wpAny_richCompare_same_room (op := .NotEq) ⟨_, ho, rfl⟩ ⟨_, ho2, rfl⟩ PySem.F.slot_tuple_ne (call_here PySem.F.slot_tuple_ne ⟨_, ho, rfl⟩ PySem.F.entry_tuple_ne (PySem.F.args_tuple_ne_2 _ _) ?_) hu
  exact tup_ne (R := wants (fun v s' => v ≠ .notImplemented ∧ Q v s') E) l b xs ys n n2 dd dd2 sl sl2 hz Iv turn (fun s' q => ⟨(fun x => nomatch x), fin s' q⟩) ho ho2 h
end
/-- tuples whose things are equal one by one -/
def rNeG (D : Eqv) : R2 := fun x y H Q => D x y H ∧ ∀ H', Ext H H' → Q (.bl false) H'
theorem op_neTG {X : Cx} {n : Nat} {D : Eqv} (hD : Mon D) (h : EqG X n D) (hr : Room (n + 1) X.A) : OpR X (compareOp .NotEq) (rNeG (DTup X.K D)) := by
  intro pins s σ H x y v u Q I rx ry hq
  obtain ⟨⟨a, b, xs, ys, rfl, rfl, ha, hb, p⟩, q⟩ := hq
  cases (show v = Value.ref a from rx)
  cases (show u = Value.ref b from ry)
  have sb : L2.Sub X (n + 1) X.A := ⟨hr, rfl⟩
  obtain ⟨its, r, e, z⟩ := I.tuple ha
  obtain ⟨its2, r2, e2, z2⟩ := I.tuple hb
  have hz : its.toArray.size = its2.toArray.size := by rw [List.size_toArray, List.size_toArray, ← r.length, ← r2.length]; exact p.1
  show wpAny (model X.prog X.w) X.A (richCompare .NotEq (.ref a) (.ref b)) (EP X pins σ Q) X.xe s
  refine rc_tup_ne hz sb.room.units0 (fun _ s' => LoopI X pins σ H s') e e2 (fun i h1 h2 s' q => turnG hD h sb p r r2 i h1 h2 s' q) (fun s' q' => ?_) ⟨H, I, Ext.rfl'⟩
  obtain ⟨H', I', e'⟩ := q'
  exact ⟨.bl false, H', I', rfl, q H' e'⟩
/-- equal things of a class by its own __eq__ -/
theorem eqG_own {X : Cx} {CX : CXT} {k : Nat} {C : Addr} {qual : Str} {st : Stmt} {ps : List Str} {sp : Sp} {E : XK} {D : Eqv} (c : Cm X.prog X.w X.K X.mg X.base CX k C "__eq__" qual st ps sp) (b : Bd "__eq__" qual st ps) (hx : Passes CX X E) (hd : ∀ x y H, D x y H → DOwn X.K C sp E x y H true) : EqG X k D := by
  obtain ⟨f, fd, F, M, hc, G⟩ := c.ex
  intro A pins s σ H x y u v sb I rx ry d
  exact eqB_own G M.1 M.2 (F.bindsN b) hx A pins s σ H x y u v true sb I rx ry (hd x y H d)
end MM
namespace MM
open PySem PySem.Spec PySem.Calls PyProof.Rows L2
open AutoSeq1 (wpAny_loadPart')
open GQ (FinOf call_here)
/-! ### tuples of instances, ==, with either answer -/
section
variable {prog : Program} {w : World} {A : Around} {R : Result → Shared → Prop}
theorem tup_eqB (l b : Addr) (xs ys : Array Value) (n m : Nat) (dd de : Option Addr) (sl sm : Array (Option Value)) (hz : xs.size = ys.size) (B : Nat → Bool) (Iv : Nat → Shared → Prop)
    (turn : ∀ i (h1 : i < xs.size) (h2 : i < ys.size) s, Iv i s → wpAny (model prog w) A.in1 (eqBool xs[i] ys[i]) (fun r s' => r = B i ∧ Iv (i + 1) s') (fun e s' => R (.error e) s') s)
    (finF : ∀ i s, i < xs.size → B i = false → Iv (i + 1) s → R (.ok (.ret (.bool false))) s) (fin : (∀ i, i < xs.size → B i = true) → ∀ s, Iv xs.size s → R (.ok (.ret (.bool true))) s) {s : Shared} (ha : s.heap.get? l = some { cls := .type "tuple", dict := dd, data := .seq xs n, slots := sl }) (hb : s.heap.get? b = some { cls := .type "tuple", dict := de, data := .seq ys m, slots := sm }) (h : Iv 0 s) :
    wpAny (model prog w) A.in1 (Builtin.«tuple.__eq__» ⟨[.ref l, .ref b], []⟩) (FinOf prog w A R) (fun e s' => R (.error e) s') s := by
  have f2 := AutoSeq1.sub_tuple_tuple
  have hZ : (xs.toList.zip ys.toList).length = xs.size := by simp [hz]
  have h0 := h
  obtain ⟨hp, g, d, tk, os⟩ := s
  wp_walk using wpAny_loadPart' ha, wpAny_loadPart' hb, wpAny_forIn_list _ (fun rest b s' => (b.1 = none ∧ ∃ i, rest = (xs.toList.zip ys.toList).drop i ∧ i ≤ xs.size ∧ (∀ j, j < i → B j = true) ∧ Iv i s')) _
  case turn =>
    rintro ⟨y, x⟩ rest b s' ⟨hb', i, hq, hi, hall, hI⟩
    have hlt : i < (xs.toList.zip ys.toList).length := by
      by_cases h' : i < (xs.toList.zip ys.toList).length
      · exact h'
      · rw [List.drop_of_length_le (by omega)] at hq
        cases hq
    have h1 : i < xs.size := hZ ▸ hlt
    have h2 : i < ys.size := hz ▸ h1
    rw [List.drop_eq_getElem_cons hlt] at hq
    injection hq with hyx hrest
    have hy : y = xs[i] := by have := congrArg Prod.fst hyx; simpa using this
    have hx : x = ys[i] := by have := congrArg Prod.snd hyx; simpa using this
    subst hy hx
    refine wpAny_bind (wpAny_mono (turn i h1 h2 s' hI) (fun r s2 q2 => ?_) fun _ _ x => x)
    obtain ⟨hr, q2⟩ := q2
    cases hB : B i with
    | true =>
      rw [hB] at hr
      subst hr
      wp_walk
      refine ⟨rfl, i + 1, hrest, h1, fun j hj => ?_, q2⟩
      by_cases e : j = i
      · subst e
        exact hB
      · exact hall j (by omega)
    | false =>
      rw [hB] at hr
      subst hr
      have q3 := finF i s2 h1 hB q2
      wp_walk
      exact q3
  case fin =>
    rintro ⟨b1, b2⟩ s' ⟨hb', i, hq, hi, hall, hI⟩
    simp only at hb'
    subst hb'
    have hge : xs.size ≤ i := by
      by_cases h' : i < (xs.toList.zip ys.toList).length
      · rw [List.drop_eq_getElem_cons h'] at hq
        cases hq
      · omega
    have hi' : i = xs.size := by omega
    have hR : R (.ok (.ret (.bool true))) s' := fin (fun j hj => hall j (by omega)) s' (hi' ▸ hI)
    wp_walk
    simpa [Builtin.Tuple.tupleCompareSizes, hz] using hR
  case h =>
    exact ⟨rfl, 0, rfl, Nat.zero_le _, fun j hj => absurd hj (Nat.not_lt_zero j), h0⟩
end

/-- x == y, tuples whose i-th things are == just where B i -/
def rEqTB (K : PySem.W.Frag) (D : V → V → Hp → Bool → Prop) : R2 := fun x y H Q => ∃ (a b : Addr) (xs ys : List V) (B : Nat → Bool), x = .ref a ∧ y = .ref b ∧ SqT K H a xs ∧ SqT K H b ys ∧ xs.length = ys.length ∧ (∀ i p q, xs[i]? = some p → ys[i]? = some q → ∀ H', Ext H H' → D p q H' (B i)) ∧ ∀ H', Ext H H' → Q (.bl ((List.range xs.length).all B)) H'
theorem get_arr {xs : List V} {its : List Value} (r : Vals xs its) {i : Nat} (h1 : i < its.toArray.size) : ∃ x, xs[i]? = some x ∧ RelV x its.toArray[i] := by
  have hi : i < its.length := by simpa using h1
  have hx : i < xs.length := by rw [r.length]; exact hi
  obtain ⟨w, hw, rw'⟩ := r.get (List.getElem?_eq_getElem hx)
  refine ⟨_, List.getElem?_eq_getElem hx, ?_⟩
  have ew : its.toArray[i] = w := by
    rw [List.getElem?_eq_getElem hi] at hw
    simpa using Option.some.inj hw
  rw [ew]
  exact rw'
theorem op_eqTB {X : Cx} {n : Nat} {D : V → V → Hp → Bool → Prop} (h : EqB X n D) (hr : Room (n + 1) X.A) : OpR X (compareOp .Eq) (rEqTB X.K D) := by
  intro pins s σ H x y v u Q I rx ry hq
  obtain ⟨a, b, xs, ys, B, rfl, rfl, ha, hb, hlen, hD, q⟩ := hq
  cases (show v = Value.ref a from rx)
  cases (show u = Value.ref b from ry)
  have sb : L2.Sub X (n + 1) X.A := ⟨hr, rfl⟩
  obtain ⟨its, r, e, z⟩ := I.tuple ha
  obtain ⟨its2, r2, e2, z2⟩ := I.tuple hb
  have hz : its.toArray.size = its2.toArray.size := by rw [List.size_toArray, List.size_toArray, ← r.length, ← r2.length]; exact hlen
  have hzx : its.toArray.size = xs.length := by rw [List.size_toArray, ← r.length]
  obtain ⟨⟨cls, dd, data, sl⟩, ho, hc, m1, hd⟩ := id e
  obtain ⟨⟨cls2, dd2, data2, sl2⟩, ho2, hc2, m2, hd2⟩ := id e2
  simp only at hc hd hc2 hd2
  subst hc hd hc2 hd2
  show wpAny (model X.prog X.w) X.A (richCompare .Eq (.ref a) (.ref b)) (EP X pins σ Q) X.xe s
  refine wpAny_richCompare_same_room (op := .Eq) ⟨_, ho, rfl⟩ ⟨_, ho2, rfl⟩ PySem.F.slot_tuple_eq (call_here PySem.F.slot_tuple_eq ⟨_, ho, rfl⟩ PySem.F.entry_tuple_eq (PySem.F.args_tuple_eq_2 _ _) ?_) sb.room.units0
  refine tup_eqB (R := wants (fun v s' => v ≠ .notImplemented ∧ EP X pins σ Q v s') X.xe) a b its.toArray its2.toArray m1 m2 dd dd2 sl sl2 hz B (fun _ s' => LoopI X pins σ H s') ?_ ?_ ?_ ho ho2 ⟨H, I, Ext.rfl'⟩
  · intro i h1 h2 s' hl
    obtain ⟨H', I', x'⟩ := hl
    obtain ⟨p, hp, rp⟩ := get_arr r h1
    obtain ⟨p2, hp2, rp2⟩ := get_arr r2 h2
    refine wpAny_mono (h X.A.in1 pins s' σ H' _ _ _ _ (B i) sb.in1 I' rp rp2 (hD i p p2 hp hp2 H' x')) (fun c s2 z2 => ?_) fun _ _ y => y
    obtain ⟨hc, H2, I2, x2⟩ := z2
    exact ⟨hc, H2, I2, x'.trans x2⟩
  · rintro i s' hi hB ⟨H', I', x'⟩
    refine ⟨(fun z => nomatch z), .bl false, H', I', rfl, ?_⟩
    have z := q H' x'
    have ea : (List.range xs.length).all B = false := by
      rw [List.all_eq_false]
      exact ⟨i, List.mem_range.mpr (by omega), by rw [hB]; decide⟩
    rw [ea] at z
    exact z
  · rintro hall s' ⟨H', I', x'⟩
    refine ⟨(fun z => nomatch z), .bl true, H', I', rfl, ?_⟩
    have z := q H' x'
    have ea : (List.range xs.length).all B = true := by
      rw [List.all_eq_true]
      intro j hj
      exact hall j (by have := List.mem_range.mp hj; omega)
    rw [ea] at z
    exact z
/-! ### x not in [..] by an own __eq__ -/
section
variable {prog : Program} {w : World} {A : Around}
theorem notin_listG {E : Value → Shared → Prop} {s : Shared} {Q : Value → Shared → Prop} (l : Addr) (x : Value) (N : Nat) (B : Nat → Bool) (Iv : Nat → Shared → Prop)
    (hl : ∀ i s, Iv i s → ∃ (its : Array Value) (n : Nat), s.heap.get? l = some { cls := .type "list", data := .seq its n } ∧ its.size = N ∧ ∀ h : i < its.size, wpAny (model prog w) A.in1 (eqBool its[i] x) (fun r s' => r = B i ∧ Iv (i + 1) s') E s)
    (fT : ∀ i s, i < N → B i = true → Iv (i + 1) s → Q (.bool false) s) (fF : (∀ j, j < N → B j = false) → ∀ s, Iv N s → Q (.bool true) s) (h : Iv 0 s) : wpAny (model prog w) A (compareOp .NotIn x (.ref l)) Q E s := by
  obtain ⟨its, n, h1, _, _⟩ := hl _ _ h
  show wpAny _ A (do return .bool (!(← contains (.ref l) x))) Q E s
  refine wpAny_bind (wpAny_contains_slot ⟨_, h1, rfl⟩ PySem.F.slot_list_contains (wpAny_mono (call_here (Q := fun v s' => ∃ b, v = .bool b ∧ Q (.bool (!b)) s') PySem.F.slot_list_contains ⟨_, h1, rfl⟩ PySem.F.entry_list_contains (PySem.F.args_list_contains_2 _ _) ?_) (fun v s' hv => ?_) fun _ _ e => e))
  · have go := in_loopG (prog := prog) (w := w) (A := A) (R := wants (fun v s' => ∃ b, v = .bool b ∧ Q (.bool (!b)) s') E) l x N B Iv hl (fun i s hi hb q => ⟨true, rfl, fT i s hi hb q⟩) (fun hno s q => ⟨false, rfl, fF hno s q⟩) (N - 0) 0 rfl (Nat.zero_le _) (fun j hj => absurd hj (Nat.not_lt_zero j)) s h
    obtain ⟨hp, g, d, tk, os⟩ := s
    wp_walk
    exact ⟨plainId_quiet PySem.MeetsSeq.plain_contains_loop _, codeAny_builtin PySem.MeetsSeq.entry_contains_loop (by
      rw [Around.under_plainId PySem.MeetsSeq.plain_contains_loop _]
      exact go)⟩
  · obtain ⟨b, rfl, hq⟩ := hv
    exact wpAny_truthy_bool (wpAny_pure hq)
/-! ### [..].count(x) by an own __eq__ -/
theorem count_loopG {R : Result → Shared → Prop} (l : Addr) (x : Value) (N : Nat) (B : Nat → Bool) (Iv : Nat → Shared → Prop)
    (hl : ∀ i s, Iv i s → ∃ (its : Array Value) (n : Nat), s.heap.get? l = some { cls := .type "list", data := .seq its n } ∧ its.size = N ∧ ∀ h : i < its.size, wpAny (model prog w) A.in1 (eqBool its[i] x) (fun r s' => r = B i ∧ Iv (i + 1) s') (fun e s' => R (.error e) s') s)
    (fin : ∀ s t k, Iv N s → R (.ok (.ret (.int (((List.range N).countP B : Nat) : Int) t))) { s with toks := k }) (k : Nat) :
    ∀ i : Nat, N - i = k → i ≤ N → ∀ s, Iv i s →
      wpAny (model prog w) A.in1 (Builtin.«list.count.loop» ⟨[.ref l, x, rawInt i, rawInt ((((List.range i).countP B : Nat)) : Int)], []⟩) (FinOf prog w A R) (fun e s' => R (.error e) s') s := by
  induction k with
  | zero =>
    intro i hk hi s h
    obtain ⟨its, n, h1, hs, _⟩ := hl _ _ h
    have ei : i = N := by omega
    subst ei
    have hR := fin s
    obtain ⟨hp, g, d, tk, os⟩ := s
    wp_walk using wpAny_loadPart' h1
    have e1 : its[((i : Nat) : Int).toNat]? = none := by simp; omega
    rw [e1]
    wp_walk
    exact hR _ _ h
  | succ k ih =>
    intro i hk hi s h
    obtain ⟨its, n, h1, hs, turn⟩ := hl _ _ h
    have hlt : i < its.size := by omega
    have ht := turn hlt
    obtain ⟨hp, g, d, tk, os⟩ := s
    wp_walk using wpAny_loadPart' h1
    have e1 : its[((i : Nat) : Int).toNat]? = some its[i] := by simp [hlt]
    have hc : ((i : Int) + 1) = ((i + 1 : Nat) : Int) := by omega
    rw [e1]
    refine wpAny_bind (wpAny_mono ht (fun r s2 h2 => ?_) fun _ _ z => z)
    obtain ⟨hr, h2⟩ := h2
    subst hr
    have hrec := ih (i + 1) (by omega) (by omega) s2 h2
    have ec : (if B i = true then (((List.range i).countP B : Nat) : Int) + 1 else (((List.range i).countP B : Nat) : Int)) = (((List.range (i + 1)).countP B : Nat) : Int) := by
      rw [List.range_succ, List.countP_append]
      rw [show List.countP B [i] = if B i = true then 1 else 0 by rw [List.countP_cons]; simp]
      split <;> omega
    obtain ⟨hp2, g2, d2, tk2, os2⟩ := s2
    wp_walk
    rw [hc, ec]
    exact ⟨plainId_quiet PySem.MeetsSeq.plain_count_loop _, codeAny_builtin PySem.MeetsSeq.entry_count_loop (by
      rw [Around.under_plainId PySem.MeetsSeq.plain_count_loop _]
      exact hrec)⟩
end
def rNotInG (D : V → V → Hp → Bool → Prop) : R2 := fun x y H Q => ∃ (p : Addr) (xs : List V) (B : Nat → Bool), y = .ref p ∧ H p = some (.lst xs) ∧ (∀ i z, xs[i]? = some z → ∀ H', Ext H H' → D z x H' (B i)) ∧ ∀ H', Ext H H' → Q (.bl (!(List.range xs.length).any B)) H'
/-- the i-th thing of the list at p beside x, in whatever state came -/
theorem turn_lst {X : Cx} {n : Nat} {D : V → V → Hp → Bool → Prop} (h : EqB X n D) {A : Around} (sb : L2.Sub X n A) {pins : List (Addr × Obj)} {σ : L2.St} {H : Hp} {p : Addr} {xs : List V} {x : V} {v : Value} {B : Nat → Bool} (hp : H p = some (.lst xs)) (rx : RelV x v)
    (hD : ∀ i z, xs[i]? = some z → ∀ H', Ext H H' → D z x H' (B i)) : ∀ (i : Nat) (s' : Shared), LoopI X pins σ H s' → ∃ (its : Array Value) (k : Nat), s'.heap.get? p = some { cls := .type "list", data := .seq its k } ∧ its.size = xs.length ∧ ∀ h1 : i < its.size, wpAny (model X.prog X.w) A (eqBool its[i] v) (fun r s2 => r = B i ∧ LoopI X pins σ H s2) X.xe s' := by
  rintro i s' ⟨H', I', e⟩
  obtain ⟨z, its, k, r, ek⟩ := I'.hok p _ (e _ _ hp)
  refine ⟨its.toArray, k, ek, by rw [List.size_toArray, ← r.length], fun h1 => ?_⟩
  obtain ⟨y, hy, ry⟩ := get_arr r h1
  refine wpAny_mono (h A pins s' σ H' _ x _ v (B i) sb I' ry rx (hD i _ hy H' e)) (fun c s2 z2 => ?_) fun _ _ y => y
  obtain ⟨hc, H2, I2, e2⟩ := z2
  exact ⟨hc, H2, I2, e.trans e2⟩
theorem op_notInG {X : Cx} {n : Nat} {D : V → V → Hp → Bool → Prop} (h : EqB X n D) (hr : Room (n + 1) X.A) : OpR X (compareOp .NotIn) (rNotInG D) := by
  intro pins s σ H x y v u Q I rx ry hq
  obtain ⟨p, xs, B, rfl, hp, hD, q⟩ := hq
  cases (show u = Value.ref p from ry)
  have sb : L2.Sub X (n + 1) X.A := ⟨hr, rfl⟩
  refine notin_listG (A := X.A) p v xs.length B (fun _ s' => LoopI X pins σ H s') (fun i s' hl => turn_lst h sb.in1 hp rx hD i s' hl) ?_ ?_ ⟨H, I, Ext.rfl'⟩
  · rintro i s' hi hb ⟨H', I', e⟩
    refine ⟨.bl false, H', I', rfl, ?_⟩
    have z := q H' e
    have ea : (List.range xs.length).any B = true := List.any_eq_true.mpr ⟨i, List.mem_range.mpr hi, hb⟩
    rw [ea] at z
    exact z
  · rintro hno s' ⟨H', I', e⟩
    refine ⟨.bl true, H', I', rfl, ?_⟩
    have z := q H' e
    have ea : (List.range xs.length).any B = false := by
      rw [List.any_eq_false]
      intro j hj
      rw [hno j (List.mem_range.mp hj)]
      decide
    rw [ea] at z
    exact z
theorem op_notInO {X : Cx} {CX : CXT} {k j : Nat} {C : Addr} {qual : Str} {st : Stmt} {ps : List Str} {sp : Sp} {E : XK} (c : Cm X.prog X.w X.K X.mg X.base CX k C "__eq__" qual st ps sp) (b : Bd "__eq__" qual st ps) (hx : Passes CX X E) (hr : Room j X.A) (hk : k + 1 ≤ j) :
    OpR X (compareOp .NotIn) (rNotInG (DOwn X.K C sp E)) := by
  obtain ⟨f, fd, F, M, hc, G⟩ := c.ex
  exact op_notInG (eqB_own G M.1 M.2 (F.bindsN b) hx) (hr.mono hk)
/-- [..].count(x) -/
def rCountG (D : V → V → Hp → Bool → Prop) : V → List V → Hp → VK → Prop := fun y vs H Q => ∃ (p : Addr) (xs : List V) (x : V) (B : Nat → Bool), y = .ref p ∧ vs = [x] ∧ H p = some (.lst xs) ∧ (∀ i z, xs[i]? = some z → ∀ H', Ext H H' → D z x H' (B i)) ∧ ∀ H', Ext H H' → Q (.int (((List.range xs.length).countP B : Nat) : Int)) H'
theorem mt_countG {X : Cx} {n : Nat} {D : V → V → Hp → Bool → Prop} (h : EqB X n D) (hr : Room (n + 1) X.A) : MtR X "list.count" (rCountG D) := by
  intro pins s σ H y vs v us Q I ry rs hq
  obtain ⟨p, xs, x, B, rfl, rfl, hp, hD, q⟩ := hq
  cases (show v = Value.ref p from ry)
  obtain ⟨u, rfl, rx⟩ := vals1 rs
  have sb : L2.Sub X (n + 1) X.A := ⟨hr, rfl⟩
  obtain ⟨z, its, k, r, ek⟩ := I.hok p _ hp
  refine call_here PySem.F.slot_list_count ⟨_, ek, rfl⟩ PySem.F.entry_list_count (PySem.F.args_list_count_2 _ _) ?_
  have go := count_loopG (prog := X.prog) (w := X.w) (A := X.A) (R := wants (EP X pins σ Q) X.xe) p u xs.length B (fun _ s' => LoopI X pins σ H s') (fun i s' hl => turn_lst h sb.in1 hp rx hD i s' hl) (fun s' t k ⟨H', I', e⟩ => ⟨.int _, H', I'.tok _, ⟨t, rfl⟩, q H' e⟩) xs.length 0 rfl (Nat.zero_le _) s ⟨H, I, Ext.rfl'⟩
  obtain ⟨hp2, g, d, tk, os⟩ := s
  wp_walk
  exact ⟨plainId_quiet PySem.MeetsSeq.plain_count_loop _, codeAny_builtin PySem.MeetsSeq.entry_count_loop (by
    rw [Around.under_plainId PySem.MeetsSeq.plain_count_loop _]
    exact go)⟩
theorem mt_countO {X : Cx} {CX : CXT} {k j : Nat} {C : Addr} {qual : Str} {st : Stmt} {ps : List Str} {sp : Sp} {E : XK} (c : Cm X.prog X.w X.K X.mg X.base CX k C "__eq__" qual st ps sp) (b : Bd "__eq__" qual st ps) (hx : Passes CX X E) (hr : Room j X.A) (hk : k + 1 ≤ j) :
    MtR X "list.count" (rCountG (DOwn X.K C sp E)) := by
  obtain ⟨f, fd, F, M, hc, G⟩ := c.ex
  exact mt_countG (eqB_own G M.1 M.2 (F.bindsN b) hx) (hr.mono hk)
/-! ### {x} and {x!r} of instances with their own __str__ and __repr__ -/
def tFmtO (C : Addr) (sp : Sp) (E : XK) (te : TE) : TE := fun σ H Q => te σ H fun x H1 => ∃ (a dx : Addr) (fs : List (Str × V)), x = .ref a ∧ H1 a = some (.ins C dx fs) ∧ sp [.ref a] H1 (fun v H' => ∃ y : Str, v = .str y ∧ Q (.str y) H') E
section
variable {X : Cx} {CX : CXT} {k j : Nat} {C : Addr} {qual : Str} {st : Stmt} {ps : List Str} {sp : Sp} {E : XK} {e : Expr} {te : TE} {pos : Pos}
theorem run_own {A : Around} {n : Nat} {f : Addr} {fd : FuncData} {pins : List (Addr × Obj)} {σ : L2.St} {H : Hp} {s : Shared} {a : Addr} {Q : Str → Hp → Prop} {R : Value → Shared → Prop} (F : FnOk X.prog X.w X.K X.mg X.base CX n f fd ps sp) (hb : Binds X.K fd ps []) (hx : Passes CX X E) (sb : L2.Sub X n A) (I : Inv X pins σ H s)
    (hq : sp [.ref a] H (fun v H' => ∃ y : Str, v = .str y ∧ Q y H') E) (hR : ∀ y t s' H', Inv X pins σ H' s' → Q y H' → R (.str y t) s') : wpAny (model X.prog X.w) A (call (.ref f) [.ref a]) (PySem.W.StrBack R) X.xe s := by
  have hl : ([Value.ref a] ++ []).length = ps.length := (show ([V.ref a] : List V).length = _ from F.len _ _ _ _ hq)
  refine wpAny_call (codeAny_mono (F.run A X.stack s H ⟨[.ref a], []⟩ [.ref a] [.ref a] _ E sb.room (env_sub sb I) (hb s [.ref a] I.kIn hl) (.cons rfl .nil) hq) fun res s' hres => ?_)
  match res, hres with
  | .error er, hres => exact hx pins σ H s er s' I hres
  | .ok .next, hres => exact hres.elim
  | .ok .brk, hres => exact hres.elim
  | .ok .cont, hres => exact hres.elim
  | .ok (.ret u), hres =>
    obtain ⟨z, H', I', rz, y, rfl, q⟩ := I.after hres
    obtain ⟨t, rfl⟩ := rz
    exact hR y t s' H' I' q
theorem pe_fmtO (he : PE X e te) (c : Cm X.prog X.w X.K X.mg X.base CX k C "__str__" qual st ps sp) (b : Bd "__str__" qual st ps) (hfm : PySem.W.findIn X.K (.ref C) "__format__" = some (some (.builtin "object.__format__"))) (hm : PySem.W.mroIn X.K C (.type "object") = some true) (hr : Room j X.A) (hk : k + 1 ≤ j) (hx : Passes CX X E) :
    PE X (.FormattedValue e (-1) none pos) (tFmtO C sp E te) := by
  obtain ⟨f, fd, F, M, hc, G⟩ := c.ex
  have sb : L2.Sub X (k + 1) X.A := ⟨hr.mono hk, rfl⟩
  refine ⟨fun pins s σ H Q I h => ?_⟩
  refine wpAny_FormattedValue_plain (thn (he.run pins s σ H _ I h) fun v s1 hv => ?_)
  obtain ⟨x, H1, I1, r1, a, dx, fs, rfl, ea, q⟩ := hv
  cases (show v = Value.ref a from r1)
  obtain ⟨mA, J, _⟩ := ins_get I1.hok ea
  obtain ⟨od, J, _⟩ := J.look
  exact PySem.W.kfo_fieldS sb.in1.room.units0 I1.kIn J hfm hm M.1 M.2 (run_own G (F.bindsN b) hx sb.in1 (I1.tok _) q fun y t s' H' I' hq => ⟨.str y, H', I', ⟨t, rfl⟩, hq⟩)
theorem pe_fmtRO (he : PE X e te) (c : Cm X.prog X.w X.K X.mg X.base CX k C "__repr__" qual st ps sp) (b : Bd "__repr__" qual st ps) (hr : Room j X.A) (hk : k + 1 ≤ j) (hx : Passes CX X E) (hz : ∀ (a : Addr) H Q, sp [.ref a] H Q E → sp [.ref a] H (fun v H' => (∀ y, v = .str y → y.length ≤ sizeLine) ∧ Q v H') E) :
    PE X (.FormattedValue e 114 none pos) (tFmtO C sp E te) := by
  obtain ⟨f, fd, F, M, hc, G⟩ := c.ex
  have sb : L2.Sub X (k + 1) X.A := ⟨hr.mono hk, rfl⟩
  refine ⟨fun pins s σ H Q I h => ?_⟩
  refine wpAny_FormattedValue_repr (thn (he.run pins s σ H _ I h) fun v s1 hv => ?_)
  obtain ⟨x, H1, I1, r1, a, dx, fs, rfl, ea, q⟩ := hv
  cases (show v = Value.ref a from r1)
  obtain ⟨mA, J, _⟩ := ins_get I1.hok ea
  obtain ⟨od, J, _⟩ := J.look
  have q2 := hz _ _ _ q
  have sb0 : L2.Sub X k X.A := ⟨(hr.mono hk).mono (Nat.le_succ k), rfl⟩
  have go := run_own (Q := fun y H' => y.length ≤ sizeLine ∧ Q (.str y) H') (R := fun v s' => ∃ y t, v = .str y t ∧ y.length ≤ sizeLine ∧ ∃ H', Inv X pins σ H' s' ∧ Q (.str y) H') G (F.bindsN b) hx sb0 I1 (by
    have e : (fun v H' => (∀ y, v = V.str y → y.length ≤ sizeLine) ∧ ∃ y : Str, v = .str y ∧ Q (.str y) H') = fun v H' => ∃ y : Str, v = .str y ∧ (y.length ≤ sizeLine ∧ Q (.str y) H') := by
      funext v H'
      refine propext ⟨fun ⟨hl, y, e, hq⟩ => ⟨y, e, hl y e, hq⟩, fun ⟨y, e, hl, hq⟩ => ⟨fun z hz => ?_, y, e, hq⟩⟩
      rw [e] at hz
      cases hz
      exact hl
    rw [e] at q2
    exact q2) (fun y t s' H' I' hq => ⟨y, t, rfl, hq.1, H', I', hq.2⟩)
  unfold pyReprObj
  refine wpAny_bind (m := cRoomFor _ _) (wpAny_cRoomFor sb0.room.units0 ?_)
  refine wpAny_bind (wpAny_bind (J.type.here ((PySem.W.looks_findIn I1.kIn M.1).here ?_)))
  show wpAny _ _ (if (some (Value.ref f)).isNone = true then _ else _) _ _ _
  rw [if_neg (by simp)]
  refine wpAny_bind (m := callSpecialIfBound? (.ref a) (Str.ofString "__repr__") _) (PySem.W.ifBound_K I1.kIn J M.1 M.2 (wpAny_mono go (fun r s' hr => ?_) fun _ _ y => y))
  cases r <;> first | exact hr.elim | skip
  obtain ⟨y, t, e1, hl, H', I', hq⟩ := hr
  cases e1
  refine wpAny_bind (wpAny_isInstance (T := "str") (b := true) (typeIs_str _ _ _) isSubtype_str_str (wpAny_pure ?_))
  exact wpAny_formatField_str ⟨.str _, H', I', ⟨_, rfl⟩, hq⟩ ⟨.str _, H', I'.tok _, ⟨_, rfl⟩, hq⟩ hl
end
end MM
namespace MM
open PySem PySem.Spec PyProof.Rows L2
section
variable {J : It} {n : Nat} {G : Hp → Prop} {Y : Nat → Hp → V → Hp → Prop}
/-- a comprehension with a test, whose i-th thing is f i, and there where B i -/
theorem lc_fltV (w : Walk J n G Y) (hY : ∀ i H x H', Y i H x H' → Same H H') {g : TG} {tt : TT} {te : TE} {vs : List Nat} {σ : L2.St} {H : Hp} {D : Addr} {Qd : Hp → Prop} (nD : H D = none) (hn : n < sizeLine) (f : Nat → V) (B : Nat → Bool) (hG : ∀ H', Same H H' → G H')
    (hs : ∀ i x H1 H2 (R : V → Hp → Prop) (N : Hp → Prop), i < n → Same H H1 → Y i H1 x H2 → (B i = true → ∀ H3, Same H2 H3 → R (f i) H3) → (B i = false → ∀ H3, Same H2 H3 → N H3) → g x (wipe σ vs) H2 fun σ2 H3 => wipe σ2 vs = wipe σ vs ∧ tt σ2 H3 fun b H4 => if b = true then te σ2 H4 R else N H4)
    (hd : ∀ H', H' D = some (.lst (((List.range n).filter B).map f)) → Same H H' → Qd H') :
    ∃ W : Nat → Nat → Hp → Prop, (∃ m, W 0 m (L2.upd H D (.lst []))) ∧ ∀ i m H, W i m H →
      (J.stop i H ∧ Qd H) ∨ (J.go i H ∧ ∃ Nx : Hp → Prop, (∀ H', Nx H' → ∃ m', m' < m ∧ W (i + 1) m' H') ∧ ∀ x H', J.yld i H x H' → g x (wipe σ vs) H' fun σ2 H2 => wipe σ2 vs = wipe σ vs ∧ tt σ2 H2 fun b H3 =>
        if b = true then te σ2 H3 fun y H4 => ∃ acc, H4 D = some (.lst acc) ∧ acc.length < sizeLine ∧ Nx (L2.upd H4 D (.lst (acc ++ [y]))) else Nx H3) := by
  refine lc_it w (fun i H' => H' D = some (.lst (((List.range i).filter B).map f)) ∧ Same H H') ⟨upd_same, upd_keep nD (Same.refl H)⟩ (fun i H' _ ⟨_, s⟩ => hG H' s) ?_ (fun H' ⟨e, s⟩ => hd H' e s)
  rintro i x H1 H2 hi ⟨e, s⟩ y
  have s2 := hY _ _ _ _ y
  have el : (((List.range i).filter B).map f).length < sizeLine := by
    rw [List.length_map]
    have := List.length_filter_le B (List.range i)
    rw [List.length_range] at this
    omega
  refine hs i x H1 H2 _ _ hi s y (fun hB H3 s3 => ?_) (fun hB H3 s3 => ?_)
  · refine ⟨_, s3 _ _ (s2 _ _ e), el, ?_, upd_keep nD (s.trans (s2.trans s3))⟩
    rw [upd_same, List.range_succ, List.filter_append, List.map_append]
    simp [hB]
  · refine ⟨?_, s.trans (s2.trans s3)⟩
    rw [s3 _ _ (s2 _ _ e), List.range_succ, List.filter_append]
    simp [hB]
end
/-! ### sorted of pairs of a whole number and a truth -/
section
open SrtO Srt
variable {prog : Program} {w : World} {A : Around} {E : Value → Shared → Prop} {s : Shared}
/-- at v a pair of a whole number and a truth -/
def PrB (h : Heap) (v : Value) (x : Int) (b : Bool) : Prop := ∃ a o t n, v = .ref a ∧ h.get? a = some o ∧ o.cls = .type "tuple" ∧ o.data = .seq #[.int x t, .bool b] n
theorem PrB.keeps {h h' : Heap} {v : Value} {x : Int} {b : Bool} (p : PrB h v x b) (k : ∀ c o, h.get? c = some o → o.cls = .type "tuple" → h'.get? c = some o) : PrB h' v x b := by
  obtain ⟨a, o, t, n, rfl, e, c, d⟩ := p
  exact ⟨a, o, t, n, rfl, k a o e c, c, d⟩
theorem prb_firsts {h : Heap} : ∀ {vs : List Value}, (∀ v ∈ vs, ∃ x b, PrB h v x b) → ∃ fs : List Value, PySem.W.KatTups h vs fs ∧ fs.length = vs.length ∧ ∀ f ∈ fs, ∃ x t, f = Value.int x t
  | [], _ => ⟨[], .nil, rfl, fun _ z => absurd z List.not_mem_nil⟩
  | v :: vs, hp => by
    obtain ⟨fs, k, l, i⟩ := prb_firsts (vs := vs) fun u hu => hp u (List.mem_cons_of_mem _ hu)
    obtain ⟨x, b, a, o, t, n, rfl, ho, hc, hd⟩ := hp v List.mem_cons_self
    refine ⟨.int x t :: fs, .cons ho hc hd rfl k, congrArg Nat.succ l, fun f hf => ?_⟩
    rcases List.mem_cons.mp hf with rfl | hf
    · exact ⟨x, t, rfl⟩
    · exact i f hf
/-- the pair's key -/
def kB (p : Int × Bool) : Int × Int := (p.1, b2i p.2)
theorem prb_cmp {vs : List Value} {k : Value → Int × Bool} (hp : ∀ v ∈ vs, PrB s.heap v (k v).1 (k v).2) : Cmp prog w A s (tuples' true) (fun p => p.1 ∈ vs) (lt2 fun v u => lexB (kB (k v)) (kB (k u))) := by
  intro p q m1 m2
  obtain ⟨a, o, t, n, e, ho, hc, hd⟩ := hp _ m1
  obtain ⟨a', o', t', n', e', ho', hc', hd'⟩ := hp _ m2
  show wpAny (model prog w) A (keyLt' (tuples' true) p.1 q.1) (fun r s' => s' = s ∧ r = lexB (kB (k p.1)) (kB (k q.1))) (fun _ _ => False) s
  generalize (k p.1) = z at *
  generalize (k q.1) = z' at *
  obtain ⟨x, b⟩ := z
  obtain ⟨x', b'⟩ := z'
  rw [e, e']
  refine PySem.W.kat_lt ho hd ho' hd' (PySem.W.kat_cons (SeqAt.EqAt.int_int x t x' t' prog w _ _ (PySem.W.kat_go (fun e1 => ?_) (fun e1 => ?_))))
  · have ex : x = x' := by simpa using e1
    refine PySem.W.kat_yes (PySem.W.kat_cons (SeqAt.EqAt.bool_bool b b' prog w _ _ (PySem.W.kat_go (fun e2 => ?_) (fun e2 => ?_))))
    · have ey : b = b' := by simpa using e2
      refine PySem.W.kat_yes (PySem.W.kat_nil ⟨rfl, ?_⟩)
      show decide (2 < 2) = lexB (x, b2i b) (x', b2i b')
      rw [ex, ey]
      unfold lexB
      rw [if_pos rfl, decide_eq_false (Int.lt_irrefl _)]
      rfl
    · refine PySem.W.kat_no (PySem.W.kat_one _ _ (PyProof.Rows.lt_bool ?_))
      refine (show s = s ∧ decide (b2i b < b2i b') = lexB (x, b2i b) (x', b2i b') from ⟨rfl, ?_⟩)
      unfold lexB
      rw [if_pos ex]
  · have ex : ¬ x = x' := by simpa using e1
    refine PySem.W.kat_no (oneLt_int ⟨rfl, ?_⟩)
    show _ = lexB (x, b2i b) (x', b2i b')
    unfold lexB
    rw [if_neg ex]
theorem prb_sorted {l : Addr} {vs : List Value} {k : Value → Int × Bool} {Q : Value → Shared → Prop} (hl : s.heap.IsList l vs.toArray) (hz : vs.length ≤ sizeLine) (hp : ∀ v ∈ vs, PrB s.heap v (k v).1 (k v).2)
    (hs : Srtd (fun v u => lexB (kB (k v)) (kB (k u))) vs)
    (h : ∀ (h' : Heap) (d : Addr), (∀ b o, s.heap.get? b = some o → h'.get? b = some o) → s.heap.objs.size ≤ d → (∃ n, h'.get? d = some (seqObj "list" vs.toArray n)) → Q (.ref d) { s with heap := h' }) :
    wpAny (model prog w) A (call (.builtin "sorted") [.ref l]) Q E s := by
  have O : Swo fun v u => lexB (kB (k v)) (kB (k u)) := swo_lex fun v => kB (k v)
  refine sorted_ord O hl hz (fun h2 h₁ a ha kk => ?_) fun out so sb => ?_
  · intro h' keep
    have nt : ∀ o, h₁.get? a = some o → o.cls ≠ .type "tuple" := fun o e c => by
      rw [ha] at e
      cases e
      exact absurd (Value.type.inj c) (by decide)
    have hp' : ∀ v ∈ vs, PrB h' v (k v).1 (k v).2 := fun v hm => (hp v hm).keeps fun b o e c => keep b o (fun z => nt o (by rw [← z]; exact (kk b o e).2) c) (kk b o e).2
    obtain ⟨fs, f1, f2, f3⟩ := prb_firsts fun v hm => ⟨_, _, hp' v hm⟩
    refine ⟨tuples' true, fun Q E hq => ?_, prb_cmp hp'⟩
    refine PySem.W.kat_kind (T := .type "int") f1 (by omega) (fun f hm => ?_) (by rfl) ?_
    · obtain ⟨x, t, rfl⟩ := f3 f hm
      exact PySem.W.Looks.now
    · have e : (Value.type "int" != Value.type "tuple") = true := by first | rfl | decide +kernel
      rw [e]
      exact hq
  · obtain rfl : out = vs := stb_uniq O so hs sb
    exact h _ _ (fun b o e => sortedAll_old e) (Nat.le_succ _) (sortedAll_at s.heap out out.toArray)
end
/-- sorted(xs) of pairs that stand sorted already -/
def rSortedIB (K : PySem.W.Frag) : List V → Hp → VK → Prop := fun vs H Q => ∃ (a : Addr) (xs : List V) (k : V → Int × Bool), vs = [V.ref a] ∧ SqL K H a xs ∧ (∀ x ∈ xs, ∃ t, x = V.ref t ∧ H t = some (.tup [.int (k x).1, .bl (k x).2])) ∧
  xs.Pairwise (fun x y => SrtO.lexB (kB (k y)) (kB (k x)) = false) ∧ ∀ p, H p = none → Q (.ref p) (upd H p (.lst xs))
theorem cr_sortedIB {X : Cx} : CallR X (.builtin "sorted") (rSortedIB X.K) := by
  intro pins s σ H vs us Q I r h
  obtain ⟨a, xs, k, rfl, hs, hx, hp, q⟩ := h
  obtain ⟨its, rv, hl, hz⟩ := I.list hs
  obtain ⟨u, rfl, ru⟩ := vals1 r
  obtain rfl : u = Value.ref a := ru
  obtain ⟨e1, e2⟩ := refs_back rv fun x m => by
    obtain ⟨t, e, _⟩ := hx x m
    exact ⟨t, e⟩
  refine prb_sorted (k := fun u => k (backV u)) hl.isList (by rw [← rv.length]; exact hz) (fun v hv => ?_) ?_ fun h' d kp hd hn => ?_
  · obtain ⟨t, rfl⟩ := e2 v hv
    have hm : V.ref t ∈ xs := by rw [e1]; exact List.mem_map.mpr ⟨_, hv, rfl⟩
    obtain ⟨t', e, ht⟩ := hx _ hm
    cases e
    obtain ⟨_, its2, r2, o, ho, hc, n, hd⟩ := I.hok _ _ ht
    obtain ⟨u1, u2, rfl, ri, rj⟩ := vals2 r2
    obtain ⟨t1, rfl⟩ := ri
    cases (show u2 = Value.bool _ from rj)
    exact ⟨t, o, t1, n, rfl, ho, hc, hd⟩
  · rw [e1, List.pairwise_map] at hp
    exact hp
  · obtain ⟨n, hn⟩ := hn
    exact ⟨.ref d, upd H d (.lst xs), I.laid (t' := s.toks) kp hd ⟨hz, its, n, rv, hn⟩, rfl, q d (I.hok.fresh hd)⟩
end MM
namespace MM
open PySem PySem.Spec PySem.Calls PyProof.Rows L2
open AutoSeq1 (wpAny_loadPart')
open GQ (FinOf call_here ListI)
/-! ### lists of instances, != -/
section
variable {prog : Program} {w : World} {A : Around} {R : Result → Shared → Prop}
theorem ne_loop (l b : Addr) (N : Nat) (Iv : Nat → Shared → Prop) (hl : ListI prog w A (fun e s' => R (.error e) s') l b N Iv) (fin : ∀ s, Iv N s → R (.ok (.ret (.bool false))) s) (d : Nat) :
    ∀ i : Nat, N - i = d → i ≤ N → ∀ s, Iv i s → wpAny (model prog w) A.in1 (Builtin.«list.__eq__.loop» ⟨[.ref l, .ref b, rawInt i, rawInt 3], []⟩) (FinOf prog w A R) (fun e s' => R (.error e) s') s := by
  induction d with
  | zero =>
    intro i hd hi s h
    obtain ⟨xs, ys, n, m, gx, gy, zx, zy, _⟩ := hl _ _ h
    have hR : R (.ok (.ret (.bool false))) s := fin s ((show i = N by omega) ▸ h)
    obtain ⟨hp, g, dd, tk, os⟩ := s
    wp_walk using wpAny_loadPart' gx, wpAny_loadPart' gy
    rw [show xs[((i : Nat) : Int).toNat]? = none by simp; omega, show ys[((i : Nat) : Int).toNat]? = none by simp; omega]
    wp_walk using wpAny_loadPart' gx, wpAny_loadPart' gy
    show R (.ok (.ret (.bool (xs.size != ys.size)))) _
    rw [zx, zy]
    simpa using hR
  | succ d ih =>
    intro i hd hi s h
    obtain ⟨xs, ys, n, m, gx, gy, zx, zy, turn⟩ := hl _ _ h
    have l1 : i < xs.size := by omega
    have l2 : i < ys.size := by omega
    have ht := turn l1 l2
    obtain ⟨hp, g, dd, tk, os⟩ := s
    wp_walk using wpAny_loadPart' gx, wpAny_loadPart' gy
    have ec : ((i : Int) + 1) = ((i + 1 : Nat) : Int) := by omega
    rw [show xs[((i : Nat) : Int).toNat]? = some xs[i] by simp [l1], show ys[((i : Nat) : Int).toNat]? = some ys[i] by simp [l2]]
    refine wpAny_bind (wpAny_mono ht (fun r s2 q2 => ?_) fun _ _ x => x)
    obtain ⟨hr, q2⟩ := q2
    subst hr
    have again := ih (i + 1) (by omega) (by omega) s2 q2
    obtain ⟨hp2, g2, d2, tk2, os2⟩ := s2
    wp_walk
    rw [ec]
    exact ⟨plainId_quiet MeetsSeq3.plain_eq_loop _, codeAny_builtin MeetsSeq3.entry_eq_loop (by
      rw [Around.under_plainId MeetsSeq3.plain_eq_loop _]
      exact again)⟩
theorem list_ne (l b : Addr) (N : Nat) (Iv : Nat → Shared → Prop) (hl : ListI prog w A (fun e s' => R (.error e) s') l b N Iv) (fin : ∀ s, Iv N s → R (.ok (.ret (.bool false))) s) {s : Shared} (h : Iv 0 s) :
    wpAny (model prog w) A.in1 (Builtin.«list.__ne__» ⟨[.ref l, .ref b], []⟩) (FinOf prog w A R) (fun e s' => R (.error e) s') s := by
  obtain ⟨xs, ys, n, m, gx, gy, zx, zy, _⟩ := hl _ _ h
  have first := ne_loop (A := A) (R := R) l b N Iv hl fin _ 0 rfl (Nat.zero_le _) s h
  obtain ⟨hp, g, d, tk, os⟩ := s
  have f3 := AutoSeq1.sub_list_list
  have nz : ¬ (xs.size != ys.size) = true := by simp [zx, zy]
  wp_walk using wpAny_loadPart' gx, wpAny_loadPart' gy
  exact ⟨plainId_quiet MeetsSeq3.plain_eq_loop _, codeAny_builtin MeetsSeq3.entry_eq_loop (by
    rw [Around.under_plainId MeetsSeq3.plain_eq_loop _]
    exact first)⟩
end
theorem op_neLG {X : Cx} {n : Nat} {D : Eqv} (hD : Mon D) (h : EqG X n D) (hr : Room (n + 1) X.A) : OpR X (compareOp .NotEq) (rNeG (DList D)) := by
  intro pins s σ H x y v u Q I rx ry hq
  obtain ⟨⟨a, b, xs, ys, rfl, rfl, ha, hb, p⟩, q⟩ := hq
  cases (show v = Value.ref a from rx)
  cases (show u = Value.ref b from ry)
  have sb : L2.Sub X (n + 1) X.A := ⟨hr, rfl⟩
  have hL : ListI X.prog X.w X.A X.xe a b xs.length (fun _ s' => LoopI X pins σ H s') := fun i s' z => by
    obtain ⟨H1, I1, e1⟩ := id z
    obtain ⟨_, its, k, r, e⟩ := I1.hok a _ (e1 _ _ ha)
    obtain ⟨_, its2, k2, r2, e2⟩ := I1.hok b _ (e1 _ _ hb)
    exact ⟨its.toArray, its2.toArray, k, k2, e, e2, by rw [List.size_toArray, ← r.length], by rw [List.size_toArray, ← r2.length, ← p.1], fun h1 h2 => turnG hD h sb p r r2 i h1 h2 s' z⟩
  obtain ⟨xa, ya, n1, n2, g1, g2, _⟩ := hL 0 s ⟨H, I, Ext.rfl'⟩
  show wpAny (model X.prog X.w) X.A (richCompare .NotEq (.ref a) (.ref b)) (EP X pins σ Q) X.xe s
  refine wpAny_richCompare_same_room (op := .NotEq) ⟨_, g1, rfl⟩ ⟨_, g2, rfl⟩ PySem.F.slot_list_ne (call_here PySem.F.slot_list_ne ⟨_, g1, rfl⟩ PySem.F.entry_list_ne (PySem.F.args_list_ne_2 _ _) ?_) sb.room.units0
  refine list_ne (R := wants (fun v s' => v ≠ .notImplemented ∧ EP X pins σ Q v s') X.xe) a b xs.length _ hL (fun s' z => ⟨(fun x => nomatch x), ?_⟩) ⟨H, I, Ext.rfl'⟩
  obtain ⟨H', I', e'⟩ := z
  exact ⟨.bl false, H', I', rfl, q H' e'⟩
end MM
namespace MM
/-! ### convergents -/
/-- a state of Euclid's steps over A and B: m months and y years, fm and fy those ahead -/
structure Eu (A B s one two y m fy fm : Int) : Prop where
  s1 : s = 1 ∨ s = -1
  e1 : m * B - y * A = s * two
  e2 : fm * B - fy * A = -(s * one)
  det : m * fy - fm * y = s
  t0 : 0 ≤ two
  to : two ≤ one
  o0 : 0 < one
  y0 : 0 ≤ y
  f0 : 0 ≤ fy
theorem Eu.step {A B s one two y m fy fm : Int} (h : Eu A B s one two y m fy fm) (ht : two ≠ 0) : Eu A B (-s) two (one % two) (one / two * y + fy) (one / two * m + fm) y m := by
  obtain ⟨s1, e1, e2, det, t0, to, o0, y0, f0⟩ := h
  have e := Int.mul_ediv_add_emod one two
  have r0 := Int.emod_nonneg one ht
  have r1 := Int.emod_lt_of_pos one (show 0 < two by omega)
  have p0 : 0 ≤ one / two := Int.ediv_nonneg (by omega) t0
  generalize one / two = p at *
  generalize one % two = r at *
  refine ⟨by omega, ?_, ?_, ?_, r0, by omega, by omega, ?_, y0⟩
  · grind
  · grind
  · grind
  · have := Int.mul_nonneg p0 y0
    omega
/-- the convergents behind a state, of at most so many years -/
def cvs (most : Int) : Nat → Int → Int → Int → Int → Int → Int → List (Int × Int)
  | 0, _, _, _, _, _, _ => []
  | f + 1, one, two, y, m, fy, fm =>
    if two = 0 then [] else if most < one / two * y + fy then [] else (one / two * y + fy, one / two * m + fm) :: cvs most f two (one % two) (one / two * y + fy) (one / two * m + fm) y m
theorem cvs_go {most : Int} {f : Nat} {one two y m fy fm : Int} (ht : two ≠ 0) (hm : ¬ most < one / two * y + fy) : cvs most (f + 1) one two y m fy fm = (one / two * y + fy, one / two * m + fm) :: cvs most f two (one % two) (one / two * y + fy) (one / two * m + fm) y m := by
  rw [cvs, if_neg ht, if_neg hm]
theorem cvs_end {most : Int} {f : Nat} {one two y m fy fm : Int} (ht : two = 0) : cvs most f one two y m fy fm = [] := by
  cases f with
  | zero => rfl
  | succ f => rw [cvs, if_pos ht]
theorem cvs_stop {most : Int} {f : Nat} {one two y m fy fm : Int} (ht : two ≠ 0) (hm : most < one / two * y + fy) : cvs most f one two y m fy fm = [] := by
  cases f with
  | zero => rfl
  | succ f => rw [cvs, if_neg ht, if_pos hm]
theorem Eu.part {A B s one two y m fy fm : Int} (h : Eu A B s one two y m fy fm) (ht : two ≠ 0) : 1 ≤ one / two := by
  have := h.to
  have := h.t0
  exact (Int.le_ediv_iff_mul_le (by omega)).mpr (by omega)
theorem Eu.less {A B s one two y m fy fm : Int} (h : Eu A B s one two y m fy fm) (ht : two ≠ 0) {f : Nat} (hf : one * two < 2 ^ (f + 1)) : two * (one % two) < 2 ^ f := by
  have p1 := h.part ht
  have e := Int.mul_ediv_add_emod one two
  have r0 := Int.emod_nonneg one ht
  have t0 := h.t0
  have r1 := Int.emod_lt_of_pos one (show 0 < two by omega)
  generalize one / two = p at *
  generalize one % two = r at *
  have h1 : two * r + two * r ≤ one * two := by
    have h2 : r + r ≤ one := by
      have : two * 1 ≤ two * p := Int.mul_le_mul_of_nonneg_left p1 t0
      omega
    have h3 := Int.mul_le_mul_of_nonneg_left h2 t0
    rw [Int.mul_add] at h3
    rw [Int.mul_comm one two]
    exact h3
  rw [Int.pow_succ] at hf
  omega
theorem fuel_pos {one two : Int} (h1 : 0 < one) (h2 : 0 < two) {f : Nat} (hf : one * two < 2 ^ f) : ∃ g, f = g + 1 := by
  cases f with
  | zero =>
    have := Int.mul_pos h1 h2
    rw [Int.pow_zero] at hf
    omega
  | succ g => exact ⟨g, rfl⟩
/-- more years: the same come first -/
theorem cvs_prefix {a b : Int} (hab : a ≤ b) : ∀ (f : Nat) (one two y m fy fm : Int), cvs a f one two y m fy fm <+: cvs b f one two y m fy fm
  | 0, _, _, _, _, _, _ => List.prefix_refl _
  | f + 1, one, two, y, m, fy, fm => by
    unfold cvs
    by_cases ht : two = 0
    · rw [if_pos ht, if_pos ht]
      exact List.prefix_refl _
    · rw [if_neg ht, if_neg ht]
      by_cases ha : a < one / two * y + fy
      · rw [if_pos ha]
        exact List.nil_prefix
      · rw [if_neg ha, if_neg (by omega)]
        exact (List.prefix_cons_inj _).mpr (cvs_prefix hab f _ _ _ _ _ _)
/-- a row behind another -/
structure Nx (A B : Int) (p q : Int × Int) : Prop where
  lt : p.1 < q.1
  det : (q.2 * p.1 - q.1 * p.2).natAbs = 1
  sg : (q.2 * B - q.1 * A) * (p.2 * B - p.1 * A) ≤ 0
  ls : (q.2 * B - q.1 * A).natAbs < (p.2 * B - p.1 * A).natAbs
/-- how much a row lacks, by parts -/
def dv (A B : Int) (p : Int × Int) : Int := p.2 * B - p.1 * A
/-- the years of the row behind the last two -/
def nxt (A B : Int) (p q : Int × Int) : Int := p.1 + ((dv A B p).natAbs : Int) / ((dv A B q).natAbs : Int) * q.1
/-- rows in order behind q, ahead of which p stands -/
def G3 (A B most : Int) : Int × Int → Int × Int → List (Int × Int) → Prop
  | p, q, [] => dv A B q = 0 ∨ most < nxt A B p q
  | _, q, r :: L => Nx A B q r ∧ r.1 ≤ most ∧ G3 A B most q r L
theorem Eu.abs1 {A B s one two y m fy fm : Int} (h : Eu A B s one two y m fy fm) : ((dv A B (y, m)).natAbs : Int) = two := by
  have e := h.e1
  have t0 := h.t0
  show ((m * B - y * A).natAbs : Int) = two
  rw [e]
  rcases h.s1 with z | z <;> rw [z] <;> omega
theorem Eu.abs2 {A B s one two y m fy fm : Int} (h : Eu A B s one two y m fy fm) : ((dv A B (fy, fm)).natAbs : Int) = one := by
  have e := h.e2
  have t0 := h.o0
  show ((fm * B - fy * A).natAbs : Int) = one
  rw [e]
  rcases h.s1 with z | z <;> rw [z] <;> omega
theorem Eu.nx {A B s one two y m fy fm : Int} (h : Eu A B s one two y m fy fm) (ht : two ≠ 0) (hl : y < one / two * y + fy) : Nx A B (y, m) (one / two * y + fy, one / two * m + fm) := by
  have h2 := h.step ht
  have a1 := h.abs1
  have a2 := h2.abs1
  have r0 := Int.emod_nonneg one ht
  have t0 := h.t0
  have r1 := Int.emod_lt_of_pos one (show 0 < two by omega)
  have d2 := h2.det
  have e1 := h.e1
  have e2 := h2.e1
  refine ⟨hl, ?_, ?_, ?_⟩
  · show ((one / two * m + fm) * y - (one / two * y + fy) * m).natAbs = 1
    rw [Int.mul_comm (one / two * y + fy) m, d2]
    rcases h.s1 with z | z <;> rw [z] <;> rfl
  · show ((one / two * m + fm) * B - (one / two * y + fy) * A) * (m * B - y * A) ≤ 0
    rw [e1, e2]
    have e3 : -s * (one % two) * (s * two) = -((one % two) * two) := by
      rcases h.s1 with z | z <;> rw [z] <;> grind
    rw [e3]
    have := Int.mul_nonneg r0 t0
    omega
  · have a2 : (((one / two * m + fm) * B - (one / two * y + fy) * A).natAbs : Int) = one % two := a2
    have a1 : ((m * B - y * A).natAbs : Int) = two := a1
    show ((one / two * m + fm) * B - (one / two * y + fy) * A).natAbs < (m * B - y * A).natAbs
    omega
theorem eu_chain (most : Int) {A B : Int} : ∀ (f : Nat) {s one two y m fy fm : Int}, Eu A B s one two y m fy fm → 1 ≤ y → 1 ≤ fy → one * two < 2 ^ f → G3 A B most (fy, fm) (y, m) (cvs most f one two y m fy fm)
  | 0, s, one, two, y, m, fy, fm, h, hy, hf, hb => by
    left
    have a := h.abs1
    have t0 := h.t0
    by_cases ht : two = 0
    · omega
    · obtain ⟨g, e⟩ := fuel_pos h.o0 (by omega) hb
      cases e
  | f + 1, s, one, two, y, m, fy, fm, h, hy, hf, hb => by
    have a := h.abs1
    unfold cvs
    by_cases ht : two = 0
    · rw [if_pos ht]
      left
      omega
    · rw [if_neg ht]
      by_cases hm : most < one / two * y + fy
      · rw [if_pos hm]
        right
        unfold nxt
        rw [a, h.abs2]
        show most < fy + one / two * y
        omega
      · rw [if_neg hm]
        have p1 := h.part ht
        have hl : y < one / two * y + fy := by
          have := Int.mul_le_mul_of_nonneg_right p1 (show 0 ≤ y by omega)
          omega
        exact ⟨h.nx ht hl, by show one / two * y + fy ≤ most; omega, eu_chain most f (h.step ht) (by omega) hy (h.less ht hb)⟩
theorem eu_start {A B : Int} (h1 : 0 < B) (h2 : B ≤ A) : Eu A B 1 A B 0 1 1 0 := ⟨.inl rfl, by omega, by omega, by omega, by omega, h2, by omega, by omega, by omega⟩
/-- the rows that are told -/
def rowsL (most A B : Int) (f : Nat) : List (Int × Int) :=
  if A % B = 0 then [(1, A / B)]
  else if B / (A % B) = 1 then (1, A / B + 1) :: cvs most f (A % B) (B % (A % B)) 1 (A / B + 1) 1 (A / B)
  else (1, A / B) :: cvs most (f + 1) B (A % B) 1 (A / B) 0 1
theorem rows_prefix {a b : Int} (hab : a ≤ b) (A B : Int) (f : Nat) : rowsL a A B f <+: rowsL b A B f := by
  unfold rowsL
  split
  · exact List.prefix_refl _
  split
  · exact (List.prefix_cons_inj _).mpr (cvs_prefix hab _ _ _ _ _ _ _)
  · exact (List.prefix_cons_inj _).mpr (cvs_prefix hab _ _ _ _ _ _ _)
theorem rows_good {most A B : Int} {f : Nat} (h1 : 0 < B) (h2 : B ≤ A) (hf : A * B < 2 ^ (f + 2)) : ∃ q R, rowsL most A B f = q :: R ∧ q.1 = 1 ∧ 2 * (dv A B q).natAbs ≤ B ∧ G3 A B most (0, 1) q R := by
  have E0 := eu_start h1 h2
  have E1 := E0.step (by omega)
  have f1 := E0.less (by omega) hf
  rw [show A / B * 0 + 1 = 1 by omega, show A / B * 1 + 0 = A / B by omega] at E1
  have a1 := E1.abs1
  have r0 := Int.emod_nonneg A (show B ≠ 0 by omega)
  have r1 := Int.emod_lt_of_pos A h1
  unfold rowsL
  by_cases hr : A % B = 0
  · rw [if_pos hr]
    refine ⟨_, _, rfl, rfl, by omega, .inl (by omega)⟩
  rw [if_neg hr]
  have f2 := E1.less hr f1
  have E2 := E1.step hr
  have e := Int.mul_ediv_add_emod B (A % B)
  have p1 := E1.part hr
  have q0 := Int.emod_nonneg B hr
  have q1 := Int.emod_lt_of_pos B (show 0 < A % B by omega)
  by_cases hp : B / (A % B) = 1
  · rw [if_pos hp]
    rw [hp] at E2 e
    rw [show (1 : Int) * 1 + 0 = 1 by omega, show 1 * (A / B) + 1 = A / B + 1 by omega] at E2
    have a2 := E2.abs1
    have c := eu_chain most f E2 (by omega) (by omega) f2
    refine ⟨_, _, rfl, rfl, ?_, ?_⟩
    · omega
    · revert c
      cases cvs most f (A % B) (B % (A % B)) 1 (A / B + 1) 1 (A / B) with
      | nil =>
        intro c
        rcases c with c | c
        · exact .inl c
        · by_cases hz : B % (A % B) = 0
          · exact .inl (by omega)
          right
          unfold nxt at c ⊢
          have a3 : ((dv A B (0, 1)).natAbs : Int) = B := by
            show ((1 * B - 0 * A).natAbs : Int) = B
            rw [Int.one_mul, Int.zero_mul]
            omega
          rw [a2, E2.abs2] at c
          rw [a2, a3]
          have e2 : B / (B % (A % B)) = 1 + (A % B) / (B % (A % B)) := by
            have e3 : B = A % B + B % (A % B) * 1 := by omega
            have e4 : (A % B + B % (A % B) * 1) / (B % (A % B)) = A % B / (B % (A % B)) + 1 := Int.add_mul_ediv_left _ _ hz
            rw [← e3] at e4
            omega
          rw [e2]
          show most < 0 + (1 + (A % B) / (B % (A % B))) * 1
          have c : most < 1 + A % B / (B % (A % B)) * 1 := c
          omega
      | cons r L => exact fun c => c
  · rw [if_neg hp]
    refine ⟨_, _, rfl, rfl, ?_, ?_⟩
    · have h3 : (A % B) * 2 ≤ (A % B) * (B / (A % B)) := Int.mul_le_mul_of_nonneg_left (by omega) (by omega)
      omega
    · unfold cvs
      rw [if_neg hr]
      by_cases hm : most < B / (A % B) * 1 + 0
      · rw [if_pos hm]
        right
        unfold nxt
        rw [a1, E1.abs2]
        show most < 0 + B / (A % B) * 1
        omega
      · rw [if_neg hm]
        refine ⟨E1.nx hr (by omega), by show B / (A % B) * 1 + 0 ≤ most; omega, eu_chain most f E2 (by omega) (by omega) f2⟩
end MM
namespace MM
/-! ### what rows lack, as fractions -/
/-- a fraction that is u parts, of which K make L -/
structure Pt (K L : Int) (a : Rat) (u : Int) : Prop where
  k0 : 0 < K
  l0 : 0 < L
  e : a.num * K = u * (L * a.den)
theorem Pt.of {a m : Rat} {u B : Int} (hB : 0 < B) (hm : 0 < m.num) (h : a * (B : Rat) = (u : Rat) * m) : Pt (B * m.den) m.num a u := by
  have h1 := den_mul a
  have h2 := den_mul m
  refine ⟨Int.mul_pos hB (by have := m.den_pos; omega), hm, ?_⟩
  have : ((a.num * (B * m.den) : Int) : Rat) = ((u * (m.num * a.den) : Int) : Rat) := by
    rw [Rat.intCast_mul, Rat.intCast_mul, Rat.intCast_mul, Rat.intCast_mul, Rat.intCast_natCast, Rat.intCast_natCast, ← h1, ← h2]
    grind
  exact_mod_cast this
theorem dpos (a : Rat) : (0 : Int) < (a.den : Int) := by
  have := a.den_pos
  omega
theorem Pt.abs {K L u : Int} {a : Rat} (h : Pt K L a u) : (a.num.natAbs : Int) * K = (u.natAbs : Int) * (L * a.den) := by
  have e := congrArg Int.natAbs h.e
  rw [Int.natAbs_mul, Int.natAbs_mul, Int.natAbs_mul, Int.natAbs_natCast] at e
  have e2 : ((a.num.natAbs * K.natAbs : Nat) : Int) = ((u.natAbs * (L.natAbs * a.den) : Nat) : Int) := by rw [e]
  rw [Int.natCast_mul, Int.natCast_mul, Int.natCast_mul] at e2
  have k0 := h.k0
  have l0 := h.l0
  have eK : ((K.natAbs : Nat) : Int) = K := by omega
  have eL : ((L.natAbs : Nat) : Int) = L := by omega
  rw [eK, eL] at e2
  exact e2
theorem Pt.zero {K L u : Int} {a : Rat} (h : Pt K L a u) : a.num = 0 ↔ u = 0 := by
  have e := h.e
  have k0 := h.k0
  have p : 0 < L * (a.den : Int) := Int.mul_pos h.l0 (dpos a)
  constructor
  · intro z
    rw [z, Int.zero_mul] at e
    rcases Int.mul_eq_zero.mp e.symm with z | z
    · exact z
    · omega
  · intro z
    rw [z, Int.zero_mul] at e
    rcases Int.mul_eq_zero.mp e with z | z
    · exact z
    · omega
/-- both by parts: one product by the other is as the parts -/
theorem Pt.two {K L u v : Int} {a b : Rat} (h : Pt K L a u) (g : Pt K L b v) : ∃ W : Int, 0 < W ∧ (a.num.natAbs : Int) * b.den * K = (u.natAbs : Int) * W ∧ (b.num.natAbs : Int) * a.den * K = (v.natAbs : Int) * W := by
  refine ⟨L * a.den * b.den, Int.mul_pos (Int.mul_pos h.l0 (dpos a)) (dpos b), ?_, ?_⟩
  · have := h.abs
    grind
  · have := g.abs
    grind
theorem Pt.less {K L u v : Int} {a b : Rat} (h : Pt K L a u) (g : Pt K L b v) (l : u.natAbs < v.natAbs) : (a.num.natAbs : Int) * b.den < (b.num.natAbs : Int) * a.den := by
  obtain ⟨W, w0, e1, e2⟩ := h.two g
  have l2 : (u.natAbs : Int) * W < (v.natAbs : Int) * W := Int.mul_lt_mul_of_pos_right (by omega) w0
  rw [← e1, ← e2] at l2
  exact Int.lt_of_mul_lt_mul_right l2 (Int.le_of_lt h.k0)
theorem Pt.quo {K L u v : Int} {a b : Rat} (h : Pt K L a u) (g : Pt K L b v) (hv : v ≠ 0) : (a.num.natAbs : Int) * b.den / ((b.num.natAbs : Int) * a.den) = (u.natAbs : Int) / (v.natAbs : Int) := by
  obtain ⟨W, w0, e1, e2⟩ := h.two g
  have k0 := h.k0
  rw [← Int.mul_ediv_mul_of_pos_left _ _ k0, e1, e2, Int.mul_ediv_mul_of_pos_left _ _ w0]
theorem Pt.sign {K L u v : Int} {a b : Rat} (h : Pt K L a u) (g : Pt K L b v) (l : u * v ≤ 0) : a.num * b.num ≤ 0 := by
  have k0 := h.k0
  have p1 : 0 < L * (a.den : Int) := Int.mul_pos h.l0 (dpos a)
  have p2 : 0 < L * (b.den : Int) := Int.mul_pos h.l0 (dpos b)
  have e : (a.num * b.num) * (K * K) = (u * v) * ((L * (a.den : Int)) * (L * (b.den : Int))) := by
    have e1 := h.e
    have e2 := g.e
    grind
  have l2 : (u * v) * ((L * (a.den : Int)) * (L * (b.den : Int))) ≤ 0 := Int.mul_nonpos_of_nonpos_of_nonneg l (Int.le_of_lt (Int.mul_pos p1 p2))
  rw [← e] at l2
  have kk : 0 < K * K := Int.mul_pos k0 k0
  apply Int.not_lt.mp
  intro z
  have := Int.mul_pos z kk
  omega
/-- of what makes B parts, a is half at most -/
theorem Pt.half {B u : Int} {a m : Rat} (h : Pt (B * m.den) m.num a u) (hB : 0 < B) (l : 2 * (u.natAbs : Int) ≤ B) : 2 * (a.num.natAbs : Int) * m.den ≤ a.den * m.num := by
  have e := h.abs
  have p : 0 < m.num * (a.den : Int) := Int.mul_pos h.l0 (dpos a)
  have l2 : 2 * (u.natAbs : Int) * (m.num * (a.den : Int)) ≤ B * (m.num * (a.den : Int)) := Int.mul_le_mul_of_nonneg_right l (Int.le_of_lt p)
  have e2 : (2 * (a.num.natAbs : Int) * m.den) * B = 2 * (u.natAbs : Int) * (m.num * (a.den : Int)) := by grind
  rw [← e2] at l2
  have e3 : B * (m.num * (a.den : Int)) = ((a.den : Int) * m.num) * B := by grind
  rw [e3] at l2
  exact Int.le_of_mul_le_mul_right l2 hB
/-- what so many years (the first) and months lack -/
def lkR (m y : Rat) (p : Int × Int) : Rat := (p.2 : Rat) * m - (p.1 : Rat) * y
theorem lk_dv {m y : Rat} (hm : m ≠ 0) (p : Int × Int) : lkR m y p * (((y / m).den : Int) : Rat) = (dv (y / m).num (y / m).den p : Rat) * m := by
  have h1 := den_mul (y / m)
  unfold lkR dv
  rw [Rat.intCast_sub, Rat.intCast_mul, Rat.intCast_mul, Rat.intCast_natCast, ← h1]
  grind
theorem lk_pt {m y : Rat} (hm : 0 < m) (p : Int × Int) : Pt ((y / m).den * m.den) m.num (lkR m y p) (dv (y / m).num (y / m).den p) :=
  Pt.of (dpos _) (num_pos hm) (lk_dv (by grind) p)
/-- rows as they are told -/
structure RowsOk (A B most : Int) (L : List (Int × Int)) : Prop where
  hd : ∃ q R, L = q :: R ∧ q.1 = 1
  le : ∀ p ∈ L, 1 ≤ p.1 ∧ p.1 ≤ most
  half : ∀ p ∈ L, 2 * ((dv A B p).natAbs : Int) ≤ B
  nx : ∀ j a b, L[j]? = some a → L[j + 1]? = some b → Nx A B a b
  l1 : ∀ q, L = [q] → dv A B q = 0 ∨ most < nxt A B (0, 1) q
  l2 : ∀ j a b, L[j]? = some a → L[j + 1]? = some b → j + 2 = L.length → dv A B b = 0 ∨ most < nxt A B a b
theorem g3_all {A B most : Int} : ∀ (R : List (Int × Int)) (p q : Int × Int), G3 A B most p q R → 1 ≤ q.1 → q.1 ≤ most → 2 * ((dv A B q).natAbs : Int) ≤ B →
    (∀ r ∈ q :: R, (1 ≤ r.1 ∧ r.1 ≤ most) ∧ 2 * ((dv A B r).natAbs : Int) ≤ B) ∧ (∀ j a b, (q :: R)[j]? = some a → (q :: R)[j + 1]? = some b → Nx A B a b) ∧ (R = [] → dv A B q = 0 ∨ most < nxt A B p q) ∧
    (∀ j a b, (q :: R)[j]? = some a → (q :: R)[j + 1]? = some b → j + 2 = (q :: R).length → dv A B b = 0 ∨ most < nxt A B a b)
  | [], p, q, h, h0, h1, h2 => by
    refine ⟨fun r hr => ?_, fun j a b _ e => ?_, fun _ => h, fun j a b _ e => ?_⟩
    · rw [List.mem_singleton.mp hr]
      exact ⟨⟨h0, h1⟩, h2⟩
    · simp at e
    · simp at e
  | r :: R, p, q, h, h0, h1, h2 => by
    obtain ⟨n1, n2, n3⟩ := h
    have ls : (dv A B r).natAbs < (dv A B q).natAbs := n1.ls
    have lt := n1.lt
    obtain ⟨c1, c2, c3, c4⟩ := g3_all R q r n3 (by omega) n2 (by omega)
    refine ⟨fun s hs => ?_, fun j a b ea eb => ?_, fun z => (by cases z), fun j a b ea eb ej => ?_⟩
    · rcases List.mem_cons.mp hs with z | z
      · rw [z]
        exact ⟨⟨h0, h1⟩, h2⟩
      · exact c1 s z
    · cases j with
      | zero =>
        cases ea
        cases eb
        exact n1
      | succ j => exact c2 j a b (by simpa using ea) (by simpa using eb)
    · cases j with
      | zero =>
        cases ea
        cases eb
        refine c3 ?_
        simp at ej
        exact ej
      | succ j => exact c4 j a b (by simpa using ea) (by simpa using eb) (by simp at ej ⊢; omega)
theorem rows_ok {most A B : Int} {f : Nat} (hm : 1 ≤ most) (h1 : 0 < B) (h2 : B ≤ A) (hf : A * B < 2 ^ (f + 2)) : RowsOk A B most (rowsL most A B f) := by
  obtain ⟨q, R, e, e1, e2, g⟩ := rows_good (most := most) h1 h2 hf
  obtain ⟨c1, c2, c3, c4⟩ := g3_all R (0, 1) q g (by omega) (by omega) (by omega)
  rw [e]
  refine ⟨⟨q, R, rfl, e1⟩, fun p hp => (c1 p hp).1, fun p hp => (c1 p hp).2, c2, fun q' z => ?_, c4⟩
  injection z with z1 z2
  subst z1
  exact c3 z2
/-- the last row, where there is one ahead of it, has years and months without a common divisor -/
theorem cop_dvd {a b c d W M : Int} (h : (a * d - c * b).natAbs = 1) (e : a * W = c * M) : c ∣ W := by
  have h2 : (a * d - c * b) = 1 ∨ (a * d - c * b) = -1 := by omega
  have k : (a * d - c * b) * W = c * (M * d - b * W) := by grind
  rcases h2 with z | z
  · rw [z, Int.one_mul] at k
    exact ⟨_, k⟩
  · rw [z] at k
    exact ⟨-(M * d - b * W), by grind⟩
theorem lk_zero {m y : Rat} {M Y : Int} (hm : 0 < m) (hy : 0 < y) (h : (M : Rat) * m = (Y : Rat) * y) {p : Int × Int} (z : lkR m y p = 0) : p.2 * Y = p.1 * M := by
  unfold lkR at z
  have h1 : (p.2 : Rat) * m = (p.1 : Rat) * y := by grind
  have h2 : ((p.2 : Rat) * (Y : Rat) - (p.1 : Rat) * (M : Rat)) * (m * y) = 0 := by grind
  have h3 : m * y ≠ 0 := by
    have := Rat.mul_pos hm hy
    grind
  have h4 : (p.2 : Rat) * (Y : Rat) - (p.1 : Rat) * (M : Rat) = 0 := by grind
  have h5 : ((p.2 * Y : Int) : Rat) = ((p.1 * M : Int) : Rat) := by
    rw [Rat.intCast_mul, Rat.intCast_mul]
    grind
  exact_mod_cast h5
theorem RowsOk.last {A B most : Int} {L : List (Int × Int)} (h : RowsOk A B most L) {q : Int × Int} (hq : L[L.length - 1]? = some q) {W M : Int} (e : q.2 * W = q.1 * M) : W % q.1 = 0 := by
  obtain ⟨p, R, rfl, p1⟩ := h.hd
  cases R with
  | nil =>
    cases hq
    rw [p1]
    exact Int.emod_one _
  | cons r R =>
    have hl : (p :: r :: R).length - 1 = R.length + 1 := by simp
    rw [hl] at hq
    have hj : R.length < (p :: r :: R).length := by simp; omega
    have ha := List.getElem?_eq_getElem hj
    have n := h.nx _ _ _ ha hq
    exact Int.emod_eq_zero_of_dvd (cop_dvd n.det e)
theorem rowsL_len {most A B : Int} {f : Nat} : (rowsL most A B f).length ≤ f + 2 := by
  have c : ∀ (f : Nat) (one two y m fy fm : Int), (cvs most f one two y m fy fm).length ≤ f := by
    intro f
    induction f with
    | zero => intros; exact Nat.le_refl _
    | succ f ih =>
      intro one two y m fy fm
      unfold cvs
      split
      · simp
      split
      · simp
      · have := ih two (one % two) (one / two * y + fy) (one / two * m + fm) y m
        simp only [List.length_cons]
        omega
  unfold rowsL
  split
  · simp
  split
  · have := c f (A % B) (B % (A % B)) 1 (A / B + 1) 1 (A / B)
    simp only [List.length_cons]
    omega
  · have := c (f + 1) B (A % B) 1 (A / B) 0 1
    simp only [List.length_cons]
    omega
end MM
namespace MM
/-! ### no other years lack less -/
theorem nat_sum {u v : Int} (h : 0 ≤ u * v) : u.natAbs ≤ (u + v).natAbs := by
  by_cases hu : 0 < u
  · have : 0 ≤ v := by
      apply Int.not_lt.mp
      intro z
      have := Int.mul_neg_of_pos_of_neg hu z
      omega
    omega
  · by_cases hu' : u < 0
    · have : v ≤ 0 := by
        apply Int.not_lt.mp
        intro z
        have := Int.mul_neg_of_neg_of_pos hu' z
        omega
      omega
    · omega
theorem nat_mul {a d : Int} (h : a ≠ 0) : d.natAbs ≤ (a * d).natAbs := by
  rw [Int.natAbs_mul]
  exact Nat.le_mul_of_pos_left _ (by omega)
/-- of two rows whose years and months have the determinant 1, or -1, and that lack by unlike signs: what comes ahead of the second lacks no less than the first -/
theorem best_core {A B k x : Int} {q q' : Int × Int} (hD : (q'.2 * q.1 - q'.1 * q.2).natAbs = 1) (hs : dv A B q * dv A B q' ≤ 0) (h1 : 1 ≤ q.1) (hk : 1 ≤ k) (hk' : k < q'.1) : (dv A B q).natAbs ≤ (dv A B (k, x)).natAbs := by
  obtain ⟨y0, m0⟩ := q
  obtain ⟨y1, m1⟩ := q'
  unfold dv at *
  dsimp only at *
  generalize hDD : m1 * y0 - y1 * m0 = D at *
  have dd : D * D = 1 := by
    have : D = 1 ∨ D = -1 := by omega
    rcases this with z | z <;> rw [z] <;> rfl
  generalize ha : D * (k * m1 - x * y1) = a
  generalize hb : D * (x * y0 - k * m0) = b
  have ek : k = a * y0 + b * y1 := by
    have : a * y0 + b * y1 = D * (m1 * y0 - y1 * m0) * k := by rw [← ha, ← hb]; grind
    rw [this, hDD, dd, Int.one_mul]
  have ex : x = a * m0 + b * m1 := by
    have : a * m0 + b * m1 = D * (m1 * y0 - y1 * m0) * x := by rw [← ha, ← hb]; grind
    rw [this, hDD, dd, Int.one_mul]
  have ed : x * B - k * A = a * (m0 * B - y0 * A) + b * (m1 * B - y1 * A) := by
    rw [ex, ek]
    grind
  rw [ed]
  generalize hu : m0 * B - y0 * A = u at *
  generalize hv : m1 * B - y1 * A = v at *
  by_cases b0 : b = 0
  · rw [b0, Int.zero_mul, Int.add_zero] at ek ⊢
    have a0 : a ≠ 0 := fun z => by rw [z, Int.zero_mul] at ek; omega
    exact nat_mul a0
  · have hab : a ≠ 0 ∧ a * b ≤ 0 := by
      rcases (show b ≤ -1 ∨ 1 ≤ b by omega) with hb1 | hb1
      · have : b * y1 ≤ -1 * y1 := Int.mul_le_mul_of_nonneg_right hb1 (by omega)
        have h2 : 0 < a * y0 := by omega
        have h3 : 0 < a := by
          apply Int.not_le.mp
          intro z
          have := Int.mul_nonpos_of_nonpos_of_nonneg z (show 0 ≤ y0 by omega)
          omega
        refine ⟨by omega, ?_⟩
        exact Int.mul_nonpos_of_nonneg_of_nonpos (by omega) (by omega)
      · have : 1 * y1 ≤ b * y1 := Int.mul_le_mul_of_nonneg_right hb1 (by omega)
        have h2 : a * y0 < 0 := by omega
        have h3 : a < 0 := by
          apply Int.not_le.mp
          intro z
          have := Int.mul_nonneg z (show 0 ≤ y0 by omega)
          omega
        refine ⟨by omega, ?_⟩
        exact Int.mul_nonpos_of_nonpos_of_nonneg (by omega) (by omega)
    have hp : 0 ≤ (a * u) * (b * v) := by
      have e : (a * u) * (b * v) = (-(a * b)) * (-(u * v)) := by grind
      rw [e]
      exact Int.mul_nonneg (by omega) (by omega)
    exact Nat.le_trans (nat_mul hab.1) (nat_sum hp)
/-- the row that would come next -/
theorem best_next {A B k x : Int} {p q : Int × Int} (hD : (q.2 * p.1 - q.1 * p.2).natAbs = 1) (hs : dv A B q * dv A B p ≤ 0) (h1 : 1 ≤ q.1) (hk : 1 ≤ k) (hk' : k < nxt A B p q) : (dv A B q).natAbs ≤ (dv A B (k, x)).natAbs := by
  by_cases z : dv A B q = 0
  · rw [z]
    exact Nat.zero_le _
  unfold nxt at hk'
  generalize ht : ((dv A B p).natAbs : Int) / ((dv A B q).natAbs : Int) = t at *
  refine best_core (q' := (p.1 + t * q.1, p.2 + t * q.2)) ?_ ?_ h1 hk hk'
  · show ((p.2 + t * q.2) * q.1 - (p.1 + t * q.1) * q.2).natAbs = 1
    have e : (p.2 + t * q.2) * q.1 - (p.1 + t * q.1) * q.2 = -(q.2 * p.1 - q.1 * p.2) := by grind
    rw [e, Int.natAbs_neg]
    exact hD
  · have e : dv A B (p.1 + t * q.1, p.2 + t * q.2) = dv A B p + t * dv A B q := by
      unfold dv
      grind
    rw [e]
    have hle : t * ((dv A B q).natAbs : Int) ≤ ((dv A B p).natAbs : Int) := by
      rw [← ht]
      exact Int.ediv_mul_le _ (by omega)
    have t0 : 0 ≤ t := by
      rw [← ht]
      exact Int.ediv_nonneg (by omega) (by omega)
    generalize dv A B q = u at *
    generalize dv A B p = v at *
    rcases (show 0 < u ∨ u < 0 by omega) with hu | hu
    · have hv : v ≤ 0 := by
        apply Int.not_lt.mp
        intro z
        have := Int.mul_pos hu z
        omega
      have e1 : (u.natAbs : Int) = u := by omega
      have e2 : (v.natAbs : Int) = -v := by omega
      rw [e1, e2] at hle
      exact Int.mul_nonpos_of_nonneg_of_nonpos (by omega) (by omega)
    · have hv : 0 ≤ v := by
        apply Int.not_lt.mp
        intro z
        have := Int.mul_pos_of_neg_of_neg hu z
        omega
      have e1 : (u.natAbs : Int) = -u := by omega
      have e2 : (v.natAbs : Int) = v := by omega
      rw [e1, e2] at hle
      have e3 : t * -u = -(t * u) := by grind
      rw [e3] at hle
      exact Int.mul_nonpos_of_nonpos_of_nonneg (by omega) (by omega)
theorem RowsOk.best {A B most : Int} {L : List (Int × Int)} (h : RowsOk A B most L) {q : Int × Int} (hq : L[L.length - 1]? = some q) {k x : Int} (hk : 1 ≤ k) (hk' : k ≤ most) : (dv A B q).natAbs ≤ (dv A B (k, x)).natAbs := by
  by_cases z : dv A B q = 0
  · rw [z]
    exact Nat.zero_le _
  have hql := h.le q (List.mem_of_getElem? hq)
  obtain ⟨p, R, e, p1⟩ := h.hd
  subst e
  cases R with
  | nil =>
    cases hq
    have n := (h.l1 q rfl).resolve_left z
    have hn : nxt A B (0, -1) q = nxt A B (0, 1) q := by
      unfold nxt dv
      show 0 + (((-1) * B - 0 * A).natAbs : Int) / _ * _ = 0 + ((1 * B - 0 * A).natAbs : Int) / _ * _
      rw [show ((-1) * B - 0 * A).natAbs = (1 * B - 0 * A).natAbs by omega]
    rcases (show dv A B q ≤ 0 ∨ 0 ≤ dv A B q by omega) with hs | hs
    · by_cases hB : 0 ≤ B
      · refine best_next (p := (0, 1)) ?_ ?_ hql.1 hk (by omega)
        · show (q.2 * 0 - q.1 * 1).natAbs = 1
          rw [p1]
          omega
        · refine Int.mul_nonpos_of_nonpos_of_nonneg hs ?_
          unfold dv
          dsimp only
          omega
      · have := h.half q (List.mem_singleton.mpr rfl)
        omega
    · by_cases hB : 0 ≤ B
      · refine best_next (p := (0, -1)) ?_ ?_ hql.1 hk (by rw [hn]; omega)
        · show (q.2 * 0 - q.1 * (-1)).natAbs = 1
          rw [p1]
          omega
        · refine Int.mul_nonpos_of_nonneg_of_nonpos hs ?_
          unfold dv
          dsimp only
          omega
      · have := h.half q (List.mem_singleton.mpr rfl)
        omega
  | cons r R =>
    have hl : (p :: r :: R).length - 1 = R.length + 1 := by simp
    rw [hl] at hq
    have hj : R.length < (p :: r :: R).length := by simp; omega
    have ha := List.getElem?_eq_getElem hj
    have n := h.nx _ _ _ ha hq
    have l2 := (h.l2 _ _ _ ha hq (by simp)).resolve_left z
    exact best_next n.det n.sg hql.1 hk (by omega)
/-- the months that are nearest to so many years, of two as near the fewer -/
def nmo (A B n : Int) : Int := if B - n * A % B < n * A % B then n * A / B + 1 else n * A / B
theorem nmo_of {A B n x : Int} (hB : 0 < B) (h : 2 * ((dv A B (n, x)).natAbs : Int) < B) : x = nmo A B n := by
  unfold nmo
  unfold dv at h
  dsimp only at h
  have e := Int.mul_ediv_add_emod (n * A) B
  have r0 := Int.emod_nonneg (n * A) (show B ≠ 0 by omega)
  have r1 := Int.emod_lt_of_pos (n * A) hB
  generalize n * A % B = R at *
  generalize n * A / B = Q at *
  have ed : x * B - n * A = (x - Q) * B - R := by rw [← e]; grind
  rw [ed] at h
  have hc : x - Q ≤ -1 ∨ x - Q = 0 ∨ x - Q = 1 ∨ 2 ≤ x - Q := by omega
  rcases hc with c | c | c | c
  · have := Int.mul_le_mul_of_nonneg_right c (show 0 ≤ B by omega)
    omega
  · rw [c, Int.zero_mul] at h
    rw [if_neg (by omega)]
    omega
  · rw [c, Int.one_mul] at h
    rw [if_pos (by omega)]
    omega
  · have := Int.mul_le_mul_of_nonneg_right c (show 0 ≤ B by omega)
    omega
/-- one more year looked at -/
def ad (A B : Int) (L : List (Int × Int)) (z : Int × Int) : List (Int × Int) :=
  match L.getLast? with
  | none => L ++ [z]
  | some q => if (dv A B z).natAbs < (dv A B q).natAbs then L ++ [z] else L
def dueL (A B : Int) : Nat → List (Int × Int)
  | 0 => []
  | n + 1 => ad A B (dueL A B n) ((n : Int) + 1, nmo A B ((n : Int) + 1))
theorem last_of {α : Type} {L : List α} {q : α} (h : L.getLast? = some q) : L[L.length - 1]? = some q := by
  rw [← List.getLast?_eq_getElem?]
  exact h
theorem due_rows {A B : Int} {f : Nat} (h1 : 0 < B) (h2 : B ≤ A) (hf : A * B < 2 ^ (f + 2)) : ∀ n : Nat, 1 ≤ n → dueL A B n = rowsL (n : Int) A B f
  | 0, h => by omega
  | 1, _ => by
    have ok := rows_ok (most := 1) (by omega) h1 h2 hf
    obtain ⟨q, R, e, e1⟩ := ok.hd
    have e0 : dueL A B 1 = [(1, nmo A B 1)] := rfl
    rw [e0]
    show _ = rowsL 1 A B f
    have hR : R = [] := by
      cases R with
      | nil => rfl
      | cons r R =>
        have n := ok.nx 0 q r (by rw [e]; rfl) (by rw [e]; rfl)
        have l := ok.le r (by rw [e]; simp)
        have := n.lt
        omega
    have hq : q = (1, nmo A B 1) := by
      have r0 := Int.emod_nonneg A (show B ≠ 0 by omega)
      have r1 := Int.emod_lt_of_pos A h1
      unfold rowsL at e
      unfold nmo
      rw [Int.one_mul]
      by_cases hr : A % B = 0
      · rw [if_pos hr] at e
        injection e with e3 e4
        rw [← e3, if_neg (by omega)]
      · rw [if_neg hr] at e
        have dm := Int.mul_ediv_add_emod B (A % B)
        have m0 := Int.emod_nonneg B hr
        have m1 := Int.emod_lt_of_pos B (show 0 < A % B by omega)
        by_cases hp : B / (A % B) = 1
        · rw [if_pos hp] at e
          injection e with e3 e4
          rw [hp] at dm
          rw [← e3, if_pos (by omega)]
        · rw [if_neg hp] at e
          injection e with e3 e4
          have p1 : 1 ≤ B / (A % B) := (Int.le_ediv_iff_mul_le (by omega)).mpr (by omega)
          have : A % B * 2 ≤ A % B * (B / (A % B)) := Int.mul_le_mul_of_nonneg_left (by omega) (by omega)
          rw [← e3, if_neg (by omega)]
    rw [e, hR, hq]
  | n + 2, _ => by
    have ih := due_rows h1 h2 hf (n + 1) (by omega)
    have ok := rows_ok (most := ((n + 1 : Nat) : Int)) (by omega) h1 h2 hf
    have ok2 := rows_ok (most := ((n + 2 : Nat) : Int)) (by omega) h1 h2 hf
    have pre := rows_prefix (a := ((n + 1 : Nat) : Int)) (b := ((n + 2 : Nat) : Int)) (by omega) A B f
    have e0 : dueL A B (n + 2) = ad A B (dueL A B (n + 1)) (((n + 1 : Nat) : Int) + 1, nmo A B (((n + 1 : Nat) : Int) + 1)) := rfl
    rw [e0, ih]
    generalize rowsL ((n + 1 : Nat) : Int) A B f = L at *
    generalize rowsL ((n + 2 : Nat) : Int) A B f = L2 at *
    have ek : ((n + 1 : Nat) : Int) + 1 = ((n + 2 : Nat) : Int) := by omega
    rw [ek]
    obtain ⟨T, rfl⟩ := pre
    obtain ⟨q0, R0, eL, e1⟩ := ok.hd
    have hL : L ≠ [] := by rw [eL]; simp
    have hlen : 0 < L.length := by rw [eL]; simp
    obtain ⟨q, hq⟩ : ∃ q, L.getLast? = some q := ⟨L.getLast hL, List.getLast?_eq_some_getLast hL⟩
    have hq' := last_of hq
    unfold ad
    rw [hq]
    dsimp only
    cases T with
    | nil =>
      rw [List.append_nil] at ok2 ⊢
      have b := ok2.best hq' (k := ((n + 2 : Nat) : Int)) (x := nmo A B ((n + 2 : Nat) : Int)) (by omega) (by omega)
      rw [if_neg (by omega)]
    | cons r T =>
      have hl1 : (L ++ r :: T)[L.length - 1]? = some q := by
        rw [List.getElem?_append_left (by omega)]
        exact hq'
      have hl2 : (L ++ r :: T)[L.length - 1 + 1]? = some r := by
        rw [show L.length - 1 + 1 = L.length by omega, List.getElem?_append_right (by omega), Nat.sub_self]
        rfl
      have nx := ok2.nx _ _ _ hl1 hl2
      have ler := ok2.le r (by simp)
      have gt : ((n + 1 : Nat) : Int) < r.1 := by
        apply Int.not_le.mp
        intro z
        have b1 : (dv A B q).natAbs ≤ (dv A B r).natAbs := ok.best hq' (k := r.1) (x := r.2) ler.1 z
        have b2 : (dv A B r).natAbs < (dv A B q).natAbs := nx.ls
        omega
      have er : r.1 = ((n + 2 : Nat) : Int) := by omega
      have hT : T = [] := by
        cases T with
        | nil => rfl
        | cons t T =>
          have hl3 : (L ++ r :: t :: T)[L.length - 1 + 1 + 1]? = some t := by
            rw [show L.length - 1 + 1 + 1 = L.length + 1 by omega, List.getElem?_append_right (by omega), show L.length + 1 - L.length = 1 by omega]
            rfl
          have n3 := ok2.nx _ _ _ hl2 hl3
          have l3 := ok2.le t (by simp)
          have := n3.lt
          omega
      have hfq := ok2.half q (List.mem_of_getElem? hl1)
      have ls : (dv A B r).natAbs < (dv A B q).natAbs := nx.ls
      have e2 : r.2 = nmo A B r.1 := nmo_of h1 (by show 2 * ((dv A B r).natAbs : Int) < B; omega)
      have e3 : r = (((n + 2 : Nat) : Int), nmo A B ((n + 2 : Nat) : Int)) := Prod.ext er (by rw [e2, er])
      rw [hT, ← e3, if_pos ls]
theorem Pt.lt_iff {K L u v : Int} {a b : Rat} (h : Pt K L a u) (g : Pt K L b v) : (a.num.natAbs : Int) * b.den < (b.num.natAbs : Int) * a.den ↔ u.natAbs < v.natAbs := by
  constructor
  · intro l
    apply Nat.not_le.mp
    intro z
    obtain ⟨W, w0, e1, e2⟩ := h.two g
    have l2 : (v.natAbs : Int) * W ≤ (u.natAbs : Int) * W := Int.mul_le_mul_of_nonneg_right (by omega) (by omega)
    rw [← e1, ← e2] at l2
    have := Int.le_of_mul_le_mul_right l2 h.k0
    omega
  · exact h.less g
/-- the whole months of so many years, as the law reckons -/
theorem mo_floor {m y : Rat} (hm : 0 < m) (n : Int) : n * y.num * m.den / (y.den * m.num) = n * (y / m).num / ((y / m).den : Int) := by
  have h1 := den_mul m
  have h2 := den_mul y
  have h3 := den_mul (y / m)
  have pB : (0 : Int) < ((y / m).den : Int) := dpos _
  have pY : (0 : Int) < (y.den : Int) * m.num := Int.mul_pos (dpos y) (num_pos hm)
  have e : n * y.num * m.den * ((y / m).den : Int) = n * (y / m).num * ((y.den : Int) * m.num) := by
    have : ((n * y.num * m.den * ((y / m).den : Int) : Int) : Rat) = ((n * (y / m).num * ((y.den : Int) * m.num) : Int) : Rat) := by
      rw [Rat.intCast_mul, Rat.intCast_mul, Rat.intCast_mul, Rat.intCast_mul, Rat.intCast_mul, Rat.intCast_mul, Rat.intCast_natCast, Rat.intCast_natCast, Rat.intCast_natCast, ← h1, ← h2, ← h3]
      grind
    exact_mod_cast this
  rw [← Int.mul_ediv_mul_of_pos_left _ _ pB, e, Int.mul_comm ((y.den : Int) * m.num) ((y / m).den : Int), Int.mul_ediv_mul_of_pos_left _ _ pY]
end MM
namespace MM
open PySem PySem.Spec PySem.Calls PyProof.Rows L2
/-! ### len(x) of an instance with its own __len__ -/
section
variable {prog : Program} {w : World} {A : Around} {E : Value → Shared → Prop} {s : Shared} {K : PySem.W.Frag} {x C f : Addr} {ox : Obj} {od : Option Obj}
open PySem.Builtin in
theorem len_fn {Q : Value → Shared → Prop} (X : K.In s.heap) (I : PySem.W.InstAt s.heap x ox C od) (hs : PySem.W.findIn K (.ref C) "__len__" = some (some (.ref f))) (hf : PySem.W.isFn K (.ref f) = true)
    (hcall : wpAny (model prog w) A.in1 (call (.ref f) [.ref x]) (fun r s' => ∃ n u, r = .int n u ∧ 0 ≤ n ∧ n < 2 ^ 63 ∧ Q (.int n s'.toks) { s' with toks := s'.toks + 1 }) E s) :
    wpAny (model prog w) A (call (.builtin "len") [.ref x]) Q E s := by
  refine PySem.Calls.call_function_entry kind_len plain_len entry_len (args_len1 _) ?_
  unfold Builtin.«len»
  refine wpAny_bind (m := oneArg "len" _) (wpAny_pure ?_)
  refine wpAny_bind (m := callSpecial? (.ref x) (Str.ofString "__len__")) (PySem.W.special_fn X I hs (beq_iff_eq.mp hf) (wpAny_mono hcall (fun r s' hr => ?_) fun _ _ y => y))
  obtain ⟨n, u, rfl, h0, h1, hq⟩ := hr
  refine wpAny_bind (wpAny_holding (wpAny_pure ?_))
  refine wpAny_bind (wpAny_letGo ?_)
  show wpAny _ _ (if n < 0 then _ else _) _ _ _
  rw [if_neg (by omega)]
  show wpAny _ _ (if n ≥ 2 ^ 63 then _ else _) _ _ _
  rw [if_neg (by omega)]
  exact wpAny_bind (wpAny_mkInt (wpAny_pure ⟨_, rfl, hq⟩))
end
def rLenO (C : Addr) (sp : Sp) (E : XK) : List V → Hp → VK → Prop := fun xs H Q => ∃ (a dx : Addr) (fs : List (Str × V)), xs = [.ref a] ∧ H a = some (.ins C dx fs) ∧ sp [.ref a] H (fun v H' => ∃ n : Nat, v = .int n ∧ n < 2 ^ 60 ∧ Q (.int n) H') E
theorem call_lenO {X : Cx} {CX : CXT} {k : Nat} {C f : Addr} {fd : FuncData} {ps : List Str} {sp : Sp} {E : XK} (F : FnOk X.prog X.w X.K X.mg X.base CX k f fd ps sp) (hs : PySem.W.findIn X.K (.ref C) "__len__" = some (some (.ref f))) (hf : PySem.W.isFn X.K (.ref f) = true) (hb : Binds X.K fd ps []) (hx : Passes CX X E) (hr : Room (k + 1) X.A) : CallR X (.builtin "len") (rLenO C sp E) := by
  intro pins s σ H xs us Q I r h
  obtain ⟨a, dx, fs, rfl, ha, hq⟩ := h
  obtain ⟨u, rfl, r1⟩ := vals1 r
  cases (show u = Value.ref a from r1)
  obtain ⟨mA, J, _⟩ := ins_get I.hok ha
  obtain ⟨od, J, _⟩ := J.look
  have hr1 : Room k X.A.in1 := hr.in1
  have hl : ([Value.ref a] ++ []).length = ps.length := (show ([V.ref a] : List V).length = _ from F.len _ _ _ _ hq)
  refine len_fn I.kIn J hs hf (wpAny_call (codeAny_mono (F.run X.A.in1 X.stack s H ⟨[.ref a], []⟩ [.ref a] [.ref a] _ E hr1 I.env0.in1 (hb s [.ref a] I.kIn hl) (.cons rfl .nil) hq) fun res s' hres => ?_))
  match res, hres with
  | .error er, hres => exact hx pins σ H s er s' I hres
  | .ok .next, hres => exact hres.elim
  | .ok .brk, hres => exact hres.elim
  | .ok .cont, hres => exact hres.elim
  | .ok (.ret u), hres =>
    obtain ⟨z, H', I', rz, n, rfl, hn, q⟩ := I.after hres
    obtain ⟨t, rfl⟩ := rz
    refine ⟨(n : Int), t, rfl, by omega, by omega, .int n, H', I'.tok _, ⟨_, rfl⟩, q⟩
theorem call_lenC {X : Cx} {CX : CXT} {k : Nat} {C : Addr} {qual : Str} {st : Stmt} {ps : List Str} {sp : Sp} {E : XK} (c : Cm X.prog X.w X.K X.mg X.base CX k C "__len__" qual st ps sp) (b : Bd "__len__" qual st ps) (hr : Room (k + 1) X.A) (hx : Passes CX X E) :
    CallR X (.builtin "len") (rLenO C sp E) := by
  obtain ⟨f, fd, F, M, hc, G⟩ := c.ex
  exact call_lenO G M.1 M.2 (F.bindsN b) hx hr
/-! ### classes whose __init__ has no defaults -/
theorem di_mk0 {K : PySem.W.Frag} {mg : Str → Option Value} {x qual : Str} {st : Stmt} {f C : Addr} {oc kV doc pm cdv ct : Value} {od an : Option Addr} {osl : Array (Option Value)} (hC : mg x = some (.ref C)) (a : PySem.W.findIn K (.ref C) "__init__" = some (some (.ref f))) (i : PySem.W.isFn K (.ref f) = true)
    (l : K.lookup f = some ⟨oc, od, .func (PySem.W.fnOf "__init__" qual (defArgs st) (defBody st) (defScope st) .none kV doc pm an cdv ct), osl⟩) (c : PySem.W.codeIn K cdv qual = true) (k : PySem.W.keepIn K (.ref f) = true)
    (mk : PySem.W.makesIn K C = true) (kc : PySem.W.keepIn K (.ref C) = true) : Di K mg x C qual st [] :=
  ⟨f, _, ⟨⟨oc, od, .none, kV, doc, pm, an, cdv, ct, osl, rfl, l, c, .inl ⟨rfl, rfl⟩, .inl rfl⟩, k⟩, ⟨mk, a, i, kc⟩, hC⟩
section
variable {X : Cx} {CX : CXT} {k j n d : Nat} {C : Addr} {x m qual : Str} {st : Stmt} {sp : Sp} {ps ks : List Str} {E : XK} {p pos apos : Pos} {e o : Expr} {es : List Expr} {kws : List Keyword} {ta : TE} {t tk : TA}
/-- C(e, ..), all by place -/
theorem pe_ciN (c : Ci X.prog X.w X.K X.mg X.base CX k x C qual st [] ps sp) (b : Bd "__init__" qual st ps) (hr : Room j X.A) (hk : k + 1 ≤ j) (hx : Passes CX X E) (hg : Gl X x) (ha : PA X (e :: es) t)
    (hdb : (x == ("__debug__" : Str)) = false := by decide) (he : starEach (e :: es) X.env = (false, eval e X.env) :: starEach es X.env := by rfl) (hpl : (backTo pos (starEach es X.env)).any (·.1) = false := by rfl) :
    PE X (.Call (.Name x p) (e :: es) [] pos) (tMake C sp [] E t) := by
  obtain ⟨f, fd, F, M, hm, G⟩ := c.ex
  exact pe_make M G (hr.mono hk) hg hm (F.bindsN b) .nil hx ha hdb he hpl
/-- o.m() -/
theorem pe_cm0 {pl : Sem Bool} (c : Cm X.prog X.w X.K X.mg X.base CX k C m qual st ps sp) (b : Bd m qual st ps) (hr : Room j X.A) (hk : k ≤ j) (hx : Passes CX X E) (he : PE X o ta)
    (ht : eval (.Call (.Attribute o m apos) [] [] pos) X.env = (do
      let ov ← eval o X.env
      standAt apos.atName
      let (f, first) ← holding [ov] (getMethod ov m pl)
      callWith pos f first (backTo pos (starEach [] X.env)) (backToKw pos (keywordEach [] X.env))) := by rfl) :
    PE X (.Call (.Attribute o m apos) [] [] pos) (tMeth C m sp [] E ta tNil) := by
  obtain ⟨f, fd, F, M, hc, G⟩ := c.ex
  exact pe_meth0 (pl := pl) he hc M G (hr.mono hk) (F.bindsN b) .nil hx ht
/-- C(k = v, ..), all by keywords -/
theorem pe_ciNK {g : {α : Type} → List α → List α → List α} (c : Ci X.prog X.w X.K X.mg X.base CX k x C qual st [] ps sp) (b : Kbm "__init__" qual st 1 ks ps g) (hrel : ∀ {vs : List V} {us : List Value} {zs : List V} {ws : List Value}, Vals vs us → Vals zs ws → Vals (g vs zs) (g us ws)) (hr : Room j X.A) (hk : k + 1 ≤ j) (hx : Passes CX X E) (hg : Gl X x) (hkw : PK X kws tk)
    (hall : (backToKw pos (keywordEach kws X.env)).all (·.1.isSome) = true := by rfl) (hks : (backToKw pos (keywordEach kws X.env)).filterMap (·.1) = ks := by rfl) (hdb : (x == ("__debug__" : Str)) = false := by decide)
    (hpl : ((backTo pos (starEach [] X.env)).any (·.1) || (backToKw pos (keywordEach kws X.env)).any (·.1.isNone)) = false := by rfl) :
    PE X (.Call (.Name x p) [] kws pos) (tMakeK C 0 ks.length sp g E tNil tk) := by
  obtain ⟨f, fd, F, M, hm, G⟩ := c.ex
  obtain ⟨kV, doc, pm, an, cdv, ct, rfl⟩ := FunD.none F
  exact pe_makeK0 (g := g) (gV := g) M G (hr.mono hk) hg hm ⟨fun s us ws _ l1 l2 => .of_eq (b.bind kV doc pm an cdv ct us ws l1 l2), hrel⟩ hx hkw hall hks hdb hpl
end
end MM
namespace MM
/-! ### kept forms: maths -/
/-- q taken down to a whole part by b -/
def laF (q : Rat) (b : Int) : Rat := ((q * b).floor : Rat) / (b : Rat)
/-- the least first moon -/
def fmF (m o : Rat) : Rat := (((o * (m.den : Int)).floor % m.num : Int) : Rat) / ((m.den : Int) : Rat)
def mkF (y k : Rat) : Rat := laF k ((y / 12).den : Int)
theorem fl_leW (q : Rat) : (q.floor : Rat) ≤ q := Rat.floor_le q
theorem fl_ltW (q : Rat) : q < (q.floor : Rat) + 1 := by
  have := @Rat.lt_floor q
  grind
theorem le_divW {a b c : Rat} (hc : 0 < c) : a ≤ b / c ↔ a * c ≤ b := by
  have h := @Rat.div_lt_iff b c a hc
  constructor
  · intro x
    exact Rat.not_lt.mp fun z => absurd (h.mpr z) (Rat.not_lt.mpr x)
  · intro x
    exact Rat.not_lt.mp fun z => absurd (h.mp z) (Rat.not_lt.mpr x)
theorem fl_ofW {q : Rat} {i : Int} (h1 : (i : Rat) ≤ q) (h2 : q < (i : Rat) + 1) : q.floor = i := by
  have a : q.floor ≤ i := by
    rw [floor_le_iff, cast_add1]
    exact h2
  have b : i ≤ q.floor := Rat.le_floor_iff.mpr h1
  omega
theorem fl_intW (i : Int) : ((i : Rat)).floor = i := fl_ofW (Rat.le_refl) (by grind)
theorem fl_addW (q : Rat) (i : Int) : (q + (i : Rat)).floor = q.floor + i := by
  have h1 := fl_leW q
  have h2 := fl_ltW q
  refine fl_ofW ?_ ?_
  · rw [Rat.intCast_add]
    grind
  · rw [Rat.intCast_add]
    grind
theorem den_neW (q : Rat) : (((q.den : Int)) : Rat) ≠ 0 := by
  have := den_pos q
  intro h
  have := Rat.intCast_eq_zero_iff.mp h
  omega
theorem m_den (m : Rat) : m * ((m.den : Int) : Rat) = (m.num : Rat) := by
  have h := Rat.num_divInt_den m
  rw [Rat.divInt_eq_div] at h
  have h0 := den_neW m
  generalize ((m.den : Int) : Rat) = d at *
  generalize (m.num : Rat) = n at *
  subst h
  grind
theorem m_eq (m : Rat) : m = (m.num : Rat) / ((m.den : Int) : Rat) := by
  have h := m_den m
  have h0 := den_neW m
  grind
theorem la_mul {q : Rat} {b : Int} (hb : (b : Rat) ≠ 0) : laF q b * (b : Rat) = ((q * b).floor : Rat) := by
  unfold laF
  grind
theorem la_la {q : Rat} {b : Int} (hb : (b : Rat) ≠ 0) : laF (laF q b) b = laF q b := by
  have h : (laF q b * b).floor = (q * b).floor := by rw [la_mul hb, fl_intW]
  show ((laF q b * b).floor : Rat) / (b : Rat) = _
  rw [h]
  rfl
theorem la_near {q t : Rat} {b : Int} (hb : (b : Rat) ≠ 0) (t0 : 0 ≤ t) (t1 : t < 1) : laF (laF q b + t * (1 / (b : Rat))) b = laF q b := by
  have h : ((laF q b + t * (1 / (b : Rat))) * b).floor = (q * b).floor := by
    have e1 := la_mul (q := q) hb
    have e : (laF q b + t * (1 / (b : Rat))) * b = ((q * b).floor : Rat) + t := by grind
    rw [e]
    exact fl_ofW (by grind) (by grind)
  show (((laF q b + t * (1 / (b : Rat))) * b).floor : Rat) / (b : Rat) = _
  rw [h]
  rfl
theorem fm_of {m o o' : Rat} {j : Int} (h : (o' * (m.den : Int)).floor = (o * (m.den : Int)).floor + j * m.num) : fmF m o' = fmF m o := by
  unfold fmF
  rw [h, Int.add_mul_emod_self_right]
theorem fm_fm {m o : Rat} (hm : 0 < m) : fmF m (fmF m o) = fmF m o := by
  have hp := num_pos hm
  have h : (fmF m o * (m.den : Int)).floor = (o * (m.den : Int)).floor % m.num := by
    have hb := den_neW m
    have e : fmF m o * ((m.den : Int) : Rat) = (((o * (m.den : Int)).floor % m.num : Int) : Rat) := by
      unfold fmF
      grind
    rw [e, fl_intW]
  show ((((fmF m o) * (m.den : Int)).floor % m.num : Int) : Rat) / _ = _
  rw [h, Int.emod_emod_of_dvd _ (Int.dvd_refl _)]
  rfl
theorem fm_near {m o t : Rat} {j : Int} (t0 : 0 ≤ t) (t1 : t < 1) : fmF m ((laF o (m.den : Int) + t * (1 / ((m.den : Int) : Rat))) + m * (j : Rat)) = fmF m o := by
  have hb := den_neW m
  refine fm_of (j := j) ?_
  have e1 := la_mul (q := o) hb
  have e2 := m_den m
  have e : ((laF o (m.den : Int) + t * (1 / ((m.den : Int) : Rat))) + m * (j : Rat)) * ((m.den : Int) : Rat) = (((o * (m.den : Int)).floor : Rat) + t) + ((j * m.num : Int) : Rat) := by
    rw [Rat.intCast_mul]
    grind
  rw [e, fl_addW]
  congr 1
  exact fl_ofW (by grind) (by grind)
theorem fm_bounds {m o : Rat} (hm : 0 < m) : 0 ≤ fmF m o ∧ fmF m o < m := by
  have hp := num_pos hm
  have hd : (0 : Rat) < ((m.den : Int) : Rat) := Rat.intCast_pos.mpr (den_pos m)
  have h0 := Int.emod_nonneg ((o * (m.den : Int)).floor) (show m.num ≠ 0 by omega)
  have h1 := Int.emod_lt_of_pos ((o * (m.den : Int)).floor) hp
  unfold fmF
  generalize (o * (m.den : Int)).floor % m.num = r at *
  have r0 : (0 : Rat) ≤ (r : Rat) := Rat.intCast_nonneg.mpr h0
  have r1 : (r : Rat) < (m.num : Rat) := Rat.intCast_lt_intCast.mpr h1
  have e := m_den m
  constructor
  · rw [le_divW hd]
    grind
  · rw [Rat.div_lt_iff hd]
    grind
/-- the program's way -/
theorem fm_prog {m o : Rat} (hm : 0 < m) : laF o (m.den : Int) - ((laF o (m.den : Int) / m).floor : Rat) * m = fmF m o := by
  have hb := den_neW m
  have hp := num_pos hm
  have hp' : (m.num : Rat) ≠ 0 := fun z => by
    have := Rat.intCast_eq_zero_iff.mp z
    omega
  have e1 := la_mul (q := o) hb
  have e2 := m_den m
  generalize hF : (o * (m.den : Int)).floor = F at *
  have e3 : laF o (m.den : Int) / m = Rat.divInt F m.num := by
    rw [Rat.divInt_eq_div]
    have hm0 : m ≠ 0 := by grind
    grind
  rw [e3, floor_divInt hp]
  unfold fmF
  rw [hF]
  have e4 : F % m.num = F - m.num * (F / m.num) := Int.emod_def F m.num
  rw [e4, Rat.intCast_sub, Rat.intCast_mul]
  grind
/-- the law's way -/
theorem fm_law {m o : Rat} (hm : 0 < m) : laF (o + m * ((0 - (o / m).floor : Int) : Rat)) (m.den : Int) = fmF m o := by
  have hb := den_neW m
  have hp := num_pos hm
  have e2 := m_den m
  have hd : (0 : Rat) < ((m.den : Int) : Rat) := Rat.intCast_pos.mpr (den_pos m)
  generalize hn : (o / m).floor = n at *
  have n1 : (n : Rat) ≤ o / m := by rw [← hn]; exact fl_leW _
  have n2 : o / m < (n : Rat) + 1 := by rw [← hn]; exact fl_ltW _
  have n1' : (n : Rat) * m ≤ o := by
    have := (le_divW hm).mp n1
    exact this
  have n2' : o < ((n : Rat) + 1) * m := (Rat.div_lt_iff hm).mp n2
  have e : (o + m * ((0 - n : Int) : Rat)) * ((m.den : Int) : Rat) = o * ((m.den : Int) : Rat) + ((-(n * m.num) : Int) : Rat) := by
    rw [Rat.intCast_neg, Rat.intCast_mul, Rat.intCast_sub]
    grind
  unfold laF fmF
  rw [e, fl_addW]
  have f1 := fl_leW (o * ((m.den : Int) : Rat))
  have f2 := fl_ltW (o * ((m.den : Int) : Rat))
  have g1 : n * m.num ≤ (o * ((m.den : Int) : Rat)).floor := by
    refine Rat.le_floor_iff.mpr ?_
    rw [Rat.intCast_mul]
    have := Rat.mul_le_mul_of_nonneg_right n1' (Rat.le_of_lt hd)
    grind
  have g2 : (o * ((m.den : Int) : Rat)).floor < (n + 1) * m.num := by
    have h := Rat.mul_lt_mul_of_pos_right n2' hd
    have h2 : o * ((m.den : Int) : Rat) < (((n + 1) * m.num : Int) : Rat) := by
      rw [Rat.intCast_mul, Rat.intCast_add]
      grind
    have h3 : (((o * ((m.den : Int) : Rat)).floor : Int) : Rat) < (((n + 1) * m.num : Int) : Rat) := by grind
    exact Rat.intCast_lt_intCast.mp h3
  generalize (o * ((m.den : Int) : Rat)).floor = F at *
  have e5 : F % m.num = F + -(n * m.num) := by
    have h6 : F = (F - n * m.num) + m.num * n := by rw [Int.mul_comm m.num n]; omega
    have h7 : 0 ≤ F - n * m.num := by omega
    have h8 : F - n * m.num < m.num := by
      have : (n + 1) * m.num = n * m.num + m.num := by rw [Int.add_mul, Int.one_mul]
      omega
    rw [h6, Int.add_mul_emod_self_left, Int.emod_eq_of_lt h7 h8]
    omega
  rw [e5]
/-- taken down as whole numbers -/
theorem la_low (q : Rat) {b : Int} (hb : 0 < b) : Rat.divInt (q.num * b / q.den) b = laF q b := by
  unfold laF
  rw [Rat.divInt_eq_div]
  congr 2
  have e : q * (b : Rat) = Rat.divInt (q.num * b) q.den := by
    rw [mul_eq]
    congr 1
    show (q.den : Int) * 1 = _
    omega
  rw [e, floor_divInt (den_pos q)]
theorem div_fl {o m : Rat} (hm : 0 < m) : o.num * m.den / (o.den * m.num) = (o / m).floor := by
  have hp := num_pos hm
  rw [div_eq o m (by grind), floor_divInt (Int.mul_pos (den_pos o) hp)]
end MM
namespace MM
open PySem PySem.Spec PyProof.Rows L2 LamX NdefX
/-! ### a lambda that is kept, its maker gone -/
/-- the object at f is the lambda of F's words (F.body is not looked at), its expression e -/
def LmO (f : Addr) (F : NF) (e : Expr) : HO := .ext fun h => ∃ pm ctv : Value, h.get? f = some (PySem.W.kla_obj "<lambda>" F.qual F.params e F.scope F.cl pm F.c ctv)
/-- the cell at c holds v -/
def CelO (c : Addr) (v : V) : HO := .ext fun h => ∃ u, RelV v u ∧ h.IsCell c (some u)
theorem lmO_at {P : Program} {w : World} {H : Hp} {h : Heap} {f : Addr} {F : NF} {e : Expr} (hok : HOk P w H h) (q : H f = some (LmO f F e)) : ∃ pm ctv : Value, h.get? f = some (PySem.W.kla_obj "<lambda>" F.qual F.params e F.scope F.cl pm F.c ctv) := by
  obtain ⟨z, _, _⟩ := hok f _ q
  exact z
theorem celO_at {P : Program} {w : World} {H : Hp} {h : Heap} {c : Addr} {v : V} (hok : HOk P w H h) (q : H c = some (CelO c v)) : ∃ u, RelV v u ∧ h.IsCell c (some u) := by
  obtain ⟨z, _, _⟩ := hok c _ q
  exact z
theorem celO_ok {P : Program} {w : World} {H : Hp} {h : Heap} {c : Addr} {v : V} {u : Value} (r : RelV v u) (i : h.IsCell c (some u)) : ObjOk P w H h c (CelO c v) := by
  obtain ⟨o, ho, hd⟩ := i
  exact ⟨⟨u, r, o, ho, hd⟩, ⟨o, ho⟩, fun h1 h2 ⟨u', r', o', ho', hd'⟩ k => ⟨u', r', o', k _ ho', hd'⟩⟩
theorem lmO_ok {P : Program} {w : World} {H : Hp} {h : Heap} {f : Addr} {F : NF} {e : Expr} {pm ctv : Value} (q : h.get? f = some (PySem.W.kla_obj "<lambda>" F.qual F.params e F.scope F.cl pm F.c ctv)) : ObjOk P w H h f (LmO f F e) :=
  ⟨⟨pm, ctv, q⟩, ⟨_, q⟩, fun h1 h2 ⟨p, t, z⟩ k => ⟨p, t, k _ z⟩⟩
/-- the promise of such a lambda: sp v0, v0 what its one captured cell holds; k the room -/
structure LOk (P : Program) (w : World) (K : PySem.W.Frag) (mg : Str → Option Value) (base : Heap) (CX : CXT) (k : Nat) (F : NF) (e : Expr) (cc : Addr) (ps : List Str) (sp : V → Sp) : Prop where
  run : ∀ (f : Addr) (v0 : V) (A : Around) (outer : List Env) (s : Shared) (H : Hp) (us : List Value) (vs : List V) (Q : VK) (E : XK), Room k A → Env0 P w K mg base A outer s H → H f = some (LmO f F e) → H F.c = some (CodeO F.c F.qual) →
    H cc = some (CelO cc v0) → Vals vs us → vs.length = ps.length → sp v0 vs (del H cc) (fun v H2 => Q v (L2.upd H2 cc (CelO cc v0))) E → codeAny (model P w) A (.call (.ref f) ⟨us, []⟩) (CR CX outer P w H s Q E) s
section
variable {P : Program} {w : World} {K : PySem.W.Frag} {mg : Str → Option Value} {base : Heap} {F : NF} {e : Expr} {cc : Addr} {N ps : List Str} {y : Str} {k : Nat}
theorem del_none {H : Hp} {a b : Addr} (h : H b = none) : del H a b = none := by
  unfold del
  split
  · rfl
  · exact h
theorem del_some {H : Hp} {a b : Addr} {o : HO} (h : del H a b = some o) : b ≠ a ∧ H b = some o := by
  unfold del at h
  split at h
  · cases h
  · rename_i n
    exact ⟨n, h⟩
theorem hok_del {H : Hp} {h : Heap} {c : Addr} {v : V} (q : H c = some (CelO c v)) (hok : HOk P w H h) : HOk P w (del H c) h := fun b u e => by
  obtain ⟨n, e⟩ := del_some e
  refine (hok b u e).stay (fun _ _ _ q => q) (fun d z => ?_) fun d xs z => ?_
  · rw [del_ne (ne_of z q (by intro z; cases z))]
    exact z
  · rw [del_ne (ne_of z q (by intro z; cases z))]
    exact z
theorem hok_put {H : Hp} {h : Heap} {c : Addr} {v : V} {u : Value} (n : H c = none) (r : RelV v u) (i : h.IsCell c (some u)) (hok : HOk P w H h) : HOk P w (L2.upd H c (CelO c v)) h := fun b o e => by
  by_cases hb : b = c
  · subst hb
    rw [upd_same] at e
    cases e
    exact celO_ok r i
  · rw [upd_ne hb] at e
    refine (hok b o e).stay (fun _ _ _ q => q) (fun d z => ?_) fun d xs z => ?_
    · rw [upd_ne (ne_of_none z n)]
      exact z
    · rw [upd_ne (ne_of_none z n)]
      exact z
/-- THE RULE: a kept lambda by its expression -/
theorem lok_of {sp : V → Sp} (S : NScope N ps [y] F.scope) (hcl : F.cl = [(y, cc)]) (hb : ∀ (pm ctv : Value) (us : List Value), us.length = ps.length → bindArgs (PySem.W.kla_fn "<lambda>" F.qual F.params e F.scope F.cl pm (.ref F.c) ctv) ⟨us, []⟩ = pure (ps.zip us))
    (hbody : ∀ (f : Addr) (v0 : V) (A : Around) (outer : List Env) (s : Shared) (H : Hp) (E : XK) (vs : List V) (Q : VK), Room k (A.deeper (envF F f s.heap.objs.size)) → vs.length = ps.length → sp v0 vs H Q E →
      ∃ te : TE, PE (ncx CX0 P w K mg base N F f A outer s H E) e te ∧ te (startF N vs [some v0]) H Q) : LOk P w K mg base CX0 (k + 1) F e cc ps sp := by
  refine ⟨fun f v0 A outer s H us vs Q E hr e0 hf hc hcc r hl hsp => ?_⟩
  obtain ⟨pm, ctv, ho⟩ := lmO_at e0.hok hf
  obtain ⟨u0, r0, ic⟩ := celO_at e0.hok hcc
  have lim : s.heap.NoLimit := e0.mod.nolimit.keeps fun b o e => (e0.bs b o e).1
  have e1 : Env0 P w K mg base A outer s (del H cc) := ⟨e0.frames, e0.mod, fun b o q => ⟨(e0.bs b o q).1, del_none (e0.bs b o q).2⟩, e0.bsz, e0.funs, fun b hb => del_none (e0.frf b hb), hok_del hcc e0.hok, e0.bare⟩
  have nfr : cc ∉ frs outer := fun hm => by
    have z := e0.frf cc hm
    rw [hcc] at z
    cases z
  have C : CellsAt F.cl [y] [some v0] s.heap (del H cc) := by
    rw [hcl]
    refine ⟨rfl, fun x c q => ?_, fun x z c q1 q2 => ?_, fun i x q => ?_⟩
    · have : c = cc := by
        simp only [List.lookup] at q
        split at q
        · exact (Option.some.inj q).symm
        · cases q
      subst this
      exact ⟨del_same, _, ic⟩
    · simp only [List.lookup] at q1 q2
      split at q1
      · rename_i h1
        split at q2
        · rename_i h2
          rw [beq_iff_eq] at h1 h2
          rw [h1, h2]
        · cases q2
      · cases q1
    · match i, q with
      | 0, q =>
        cases q
        refine ⟨cc, by simp [List.lookup], fun v ev => ?_⟩
        cases ev
        exact ⟨u0, r0, ic⟩
      | i + 1, q => simp at q
  have hu : us.length = ps.length := by rw [← r.length]; exact hl
  refine PySem.W.kla_callFunE hr.depth ho rfl S.co S.gen rfl (codeO_at e0.hok hc) ?_
  rw [hb pm ctv us hu]
  refine wpAny_pure (wpAny_newFunctionEnv S.nocell (fun ⟨n, _⟩ hy => S.par n (List.of_mem_zip hy).1) (fun h₁ hns hsb => ⟨lim.fresh _ hsb, ?_⟩) S.kind)
  show codeAny _ _ (.expr e (envF F f s.heap.objs.size)) _ _
  have kp : ∀ b o, s.heap.get? b = some o → h₁.get? b = some o := fun b o e => hsb.extBut b o (Nat.ne_of_lt (Heap.lt_size e)) (Heap.get?_push_of_some _ e)
  have I : Inv (ncx CX0 P w K mg base N F f A outer s (del H cc) E) [] (startF N vs [some v0]) (del H cc) { s with heap := h₁, toks := s.toks + (ps.zip us).length } := inv_startN S hr.hd e1 hl r C hns kp
  obtain ⟨te, hte, hq⟩ := hbody f v0 A outer s (del H cc) E vs (fun v H2 => Q v (L2.upd H2 cc (CelO cc v0))) (hr.deeper _) hl hsp
  refine PySem.W.kla_codeExpr (wpAny_mono (hte.run [] _ (startF N vs [some v0]) (del H cc) _ I hq) (fun v s' hq => ?_) fun e s' hq => ?_)
  · obtain ⟨w', H2, J, rv, q⟩ := hq
    have B : Un (frs outer) [] (del H cc) H2 s.heap s'.heap := J.base
    obtain ⟨oc, hoc, hdc⟩ := ic
    have n2 : H2 cc = none := B.free cc oc hoc del_same (by simp)
    have kc : s'.heap.get? cc = some oc := B.keep cc oc hoc del_same nfr (by simp)
    have ne : ∀ {b : Addr}, H b = none → b ≠ cc := fun {b} h z => by
      rw [z, hcc] at h
      cases h
    have nt : ∀ {b : Addr} {o : HO}, H b = some o → (∀ φ, o ≠ .ext φ) → b ≠ cc := fun {b o} h k z => by
      rw [z, hcc] at h
      exact k _ (Option.some.inj h).symm
    have dn : ∀ {b : Addr}, b ≠ cc → del H cc b = H b := fun {b} h => del_ne h
    refine ⟨w', L2.upd H2 cc (CelO cc v0), J.os, J.bare, ⟨fun b o h1 h2 => B.keep b o h1 ((dn (ne h2)).trans h2), fun b o h1 h2 => B.slot b o h1 ((dn (ne h2)).trans h2), fun b o h1 h2 h3 => ?_, B.there, fun b xs h => ?_, fun b o u h => ?_, fun b ps h => ?_⟩, hok_put n2 r0 ⟨oc, kc, hdc⟩ J.hok, rv, q⟩
    · rw [upd_ne (ne h2)]
      exact B.free b o h1 ((dn (ne h2)).trans h2) h3
    · have n := nt h (fun φ z => by cases z)
      rw [upd_ne n]
      exact B.tups b xs ((dn n).trans h)
    · have n := nt h (fun φ z => by cases z)
      rw [upd_ne n]
      exact B.frzs b o u ((dn n).trans h)
    · have n := nt h (fun φ z => by cases z)
      rw [upd_ne n]
      exact B.tbls b ps ((dn n).trans h)
  · have hq : wpAny (model P w) (A.deeper (envF F f s.heap.objs.size)) (leaving (envF F f s.heap.objs.size) e) (fun _ _ => False) (fun _ _ => False) s' := hq
    exact wpAny_mono hq (fun _ _ z => z.elim) fun _ _ z => z.elim
end
/-! ### a local that holds a lambda, or a def of the top -/
section
variable {X : Cx} {i j k : Nat} {x : Str} {t : TA} {e : Expr} {es : List Expr} {p pos : Pos}
/-- what a value does that is called with one thing: r x H Q -/
def Doe (P : Program) (w : World) (K : PySem.W.Frag) (mg : Str → Option Value) (base : Heap) (k : Nat) (f : Addr) (vs : List V) (H : Hp) (Q : VK) : Prop :=
  (∀ h, HOk P w H h → K.In h → PySem.W.FnAt f h) ∧ ∀ (A : Around) (outer : List Env) (s : Shared) (us : List Value), Room k A → Env0 P w K mg base A outer s H → Vals vs us → codeAny (model P w) A (.call (.ref f) ⟨us, []⟩) (CR CX0 outer P w H s Q E0) s
/-- x(e, ..), x a name that holds it -/
theorem pe_doe (hr : Room j X.A) (hk : k ≤ j) (hN : X.N[i]? = some x) (hv : Vis X.env.scope x) (ha : PA X (e :: es) t)
    (hd : (x == ("__debug__" : Str)) = false := by decide) (hcd : (x == ("__classdict__" : Str)) = false := by decide)
    (he : starEach (e :: es) X.env = (false, eval e X.env) :: starEach es X.env := by rfl) (hpl : (backTo pos (starEach es X.env)).any (·.1) = false := by rfl) :
    PE X (.Call (.Name x p) (e :: es) [] pos) (fun σ H Q => ∃ f, σ[i]? = some (some (.ref f)) ∧ (∀ h, HOk X.prog X.w H h → X.K.In h → PySem.W.FnAt f h) ∧ t σ H fun vs H1 => Doe X.prog X.w X.K X.mg X.base k f vs H1 Q) := by
  refine ⟨fun pins s σ H Q I h => ?_⟩
  obtain ⟨f, hs, hf, ht⟩ := h
  refine wpAny_Call_Name_kw (thn ((pe_var (pos := p) hN hv hd hcd).run pins s σ H (fun v H1 => v = .ref f ∧ H1 = H) I ⟨.ref f, hs, rfl, rfl⟩) fun u s1 ⟨v, H1, I1, r1, q1⟩ => ?_)
  obtain ⟨ev, eH⟩ := q1
  subst ev
  rw [eH] at I1
  obtain rfl : u = Value.ref f := r1
  refine PySem.W.callWith_F (first := []) (hf _ I1.hok I1.kIn) (thn (ha.run pos pins s1 σ H _ I1 ht) fun us s2 ⟨vs, H2, I2, r, h1, h2⟩ => ⟨h1 _ I2.hok I2.kIn, ?_⟩) he hpl
  show wpAny _ _ (call (.ref f) us) _ _ _
  refine wpAny_call (codeAny_mono (h2 X.A X.stack s2 us (hr.mono hk) I2.env0 r) fun r s' hq => ?_)
  cases r with
  | error e => exact hq.elim
  | ok fl =>
    cases fl with
    | ret u => exact I2.after hq
    | next => exact False.elim hq
    | brk => exact False.elim hq
    | cont => exact False.elim hq
end
section
variable {P : Program} {w : World} {K : PySem.W.Frag} {mg : Str → Option Value} {base : Heap} {F : NF} {e : Expr} {cc f : Addr} {ps : List Str} {k : Nat} {sp : V → Sp} {v0 : V}
/-- a kept lambda does what it promises -/
theorem doe_lam (L : LOk P w K mg base CX0 k F e cc ps sp) {H : Hp} (hf : H f = some (LmO f F e)) (hc : H F.c = some (CodeO F.c F.qual)) (hcc : H cc = some (CelO cc v0)) {vs : List V} {Q : VK} (hl : vs.length = ps.length) (h : sp v0 vs (del H cc) (fun v H2 => Q v (L2.upd H2 cc (CelO cc v0))) E0) : Doe P w K mg base k f vs H Q :=
  ⟨fun h hok _ => by
    obtain ⟨pm, ctv, ho⟩ := lmO_at hok hf
    exact ⟨_, _, _, _, ho⟩, fun A outer s us hr e0 r => L.run f v0 A outer s H us vs Q E0 hr e0 hf hc hcc r hl h⟩
/-- a def of the top does what it promises -/
theorem doe_def {x : Str} {st : Stmt} {ps : List Str} {sp : Sp} (c : Ca P w K mg base CX0 k x st [] ps sp) (b : Bd x x st ps) (hm : mg x = some (.ref f)) {H : Hp} {vs : List V} {Q : VK} (h : sp vs H Q E0) : Doe P w K mg base k f vs H Q := by
  obtain ⟨f', fd, Fd, hm', G⟩ := c.ex
  rw [hm] at hm'
  cases hm'
  obtain ⟨oc, od, dV, kV, doc, pm, an, cdv, ct, osl, rfl, lk, hcd, hD, hK⟩ := id Fd.ex
  refine ⟨fun h _ hin => ⟨_, _, _, _, hin _ _ lk⟩, fun A outer s us hr e0 r => ?_⟩
  have kin : K.In s.heap := e0.mod.kin.keeps fun b o e => (e0.bs b o e).1
  have hl : (us ++ ([] : List Value)).length = ps.length := by
    rw [List.append_nil, ← r.length]
    exact G.len _ _ _ _ h
  have q := G.run A outer s H ⟨us, []⟩ us vs Q E0 hr e0 (by
    have z := Fd.bindsN b s us kin hl
    rw [List.append_nil] at z
    exact z) r h
  exact q
end
/-! ### the lambda is made, and known from now on -/
section
variable {X : Cx} {pins : List (Addr × Obj)} {σ : L2.St} {H : Hp} {s : Shared}
abbrev lmF (qual : Str) (params : Arguments) (scope : Scope) (cl : List (Str × Addr)) (c' : Addr) : NF := ⟨"<lambda>", qual, params, [], scope, cl, c'⟩
theorem inv_lm {F : NF} {e : Expr} {pm ctv : Value} {t' : Nat} (I : Inv X pins σ H s) :
    Inv X pins σ (L2.upd H s.heap.objs.size (LmO s.heap.objs.size F e)) { s with heap := s.heap.push (PySem.W.kla_obj "<lambda>" F.qual F.params e F.scope F.cl pm F.c ctv), toks := t' } := by
  refine I.laid (a := s.heap.objs.size) (fun b u e => Heap.get?_push_of_some _ e) (Nat.le_refl _) ?_
  exact lmO_ok (pm := pm) (ctv := ctv) (Heap.get?_push_size _ rfl)
theorem lam_makeT {T : List (Addr × Str)} {c P : Addr} {params : Arguments} {body : Expr} {scope : Scope} {pos : Pos} {E : Value → Shared → Prop} {Q : Value → Shared → Prop} (I : Inv X pins σ H s) (TB : TabB X.base X.mg c P) (hcode : X.env.code = .ref c)
    (hm : (P, X.env.qual ++ "<lambda>") ∈ T) (hu : ∀ p ∈ T, p.1 = P → p.2 = X.env.qual ++ "<lambda>") (hT : Tabs T H) (hdef : defaultsOf params X.env = ([], [])) (hfree : ∀ y ∈ scope.names, y.2 = .free → ∃ c, X.env.cells.lookup y.1 = some c)
    (h : ∀ (f c' : Addr) (H1 : Hp) (s' : Shared), Inv X pins σ H1 s' → ExtN H H1 → (∀ b, H1 b = Option.none → H b = Option.none) → Tabs T H1 → H f = none →
      H1 f = some (LmO f (lmF (X.env.qual ++ "<lambda>") params scope (cloFrom X.env.cells scope.names []) c') body) → H1 c' = some (CodeO c' (X.env.qual ++ "<lambda>")) → Q (.ref f) s') :
    wpAny (model X.prog X.w) X.A (eval (.Lambda params body scope pos) X.env) Q E s := by
  obtain ⟨ps, hP, ht, ha⟩ := hT _ hm
  refine PySem.W.kla_eval hdef ?_
  have bP : s.heap.BuiltinsAt X.mg P := TB.bm.keeps I.bk
  have hP' : s.heap.get? P = some { cls := .none, data := .fields ps } := I.hok P _ hP
  cases hc : codeAmong pos ps.toList with
  | none =>
    refine PySem.W.kla_makeFunction (mg := X.mg) (c := c) (P := P) (ps := ps) (closure_ok hfree) I.ok.glob (I.mod.glob.keeps I.bk) hcode (TB.code.keeps I.bk) hP' ht hc TB.gP bP fun c' ctv h' tk hx hge hlt hrec htb => ?_
    obtain ⟨c2, oc, vs, t, e2, hoc, hd, hv⟩ := hrec
    cases e2
    have nC : H c' = none := I.hok.fresh hge
    have I1 := inv_table (t' := tk) (more := #[rawInt pos.line, rawInt pos.col, .ref c']) (h' := h') I hP (fun b o hb e => hx b o hb e) htb hge ⟨oc, vs, t, hoc, hd, hv⟩
    have hE : ExtN H (L2.upd (L2.upd H P (.tbl (ps ++ #[rawInt pos.line, rawInt pos.col, .ref c']))) c' (CodeO c' (X.env.qual ++ "<lambda>"))) := fun b o e n => by
      rw [upd_ne (ne_of_none e nC), upd_ne (fun z => n ps (Option.some.inj (e.symm.trans (by rw [z]; exact hP))))]
      exact e
    have eL : (ps ++ #[rawInt pos.line, rawInt pos.col, .ref c']).toList = ps.toList ++ [rawInt pos.line, rawInt pos.col, .ref c'] := by simp
    have T1 : Tabs T (L2.upd (L2.upd H P (.tbl (ps ++ #[rawInt pos.line, rawInt pos.col, .ref c']))) c' (CodeO c' (X.env.qual ++ "<lambda>"))) := fun p hp => by
      by_cases hb : p.1 = P
      · rw [hu p hp hb, hb]
        refine ⟨_, by rw [upd_ne (ne_of_none hP nC), upd_same], by rw [eL]; exact PySem.TriplesOk_snoc _ _ _ _ ht, fun p' cv hcv => ?_⟩
        rw [eL] at hcv
        rcases among_app _ ht hcv with z | z
        · obtain ⟨c0, e1, e2⟩ := ha p' cv z
          exact ⟨c0, e1, hE _ _ e2 codeO_ne⟩
        · exact ⟨c', z, upd_same⟩
      · obtain ⟨ps', a1, a2, a3⟩ := hT p hp
        refine ⟨ps', by rw [upd_ne (ne_of_none a1 nC), upd_ne hb]; exact a1, a2, fun p' cv hcv => ?_⟩
        obtain ⟨c0, e1, e2⟩ := a3 p' cv hcv
        exact ⟨c0, e1, hE _ _ e2 codeO_ne⟩
    have nF := I1.hok.fresh (Nat.le_refl _)
    have I2 := inv_lm (F := lmF (X.env.qual ++ "<lambda>") params scope (cloFrom X.env.cells scope.names []) c') (e := body) (t' := tk) (pm := (X.mg "__name__").getD .none) (ctv := ctv) I1
    refine h h'.objs.size c' _ _ I2 (fun b o e n => ?_) (fun b e => upd_none (upd_none (upd_none e))) (T1.ext fun b o e => ?_) (I.hok.fresh (Nat.le_trans hge (Nat.le_of_lt hlt))) upd_same ?_
    · have e1 := hE b o e n
      exact (upd_ne (ne_of_none e1 nF)).trans e1
    · exact (upd_ne (ne_of_none e nF)).trans e
    · exact (upd_ne (Nat.ne_of_lt hlt)).trans upd_same
  | some cv =>
    obtain ⟨c', e, hco⟩ := ha pos cv hc
    subst e
    refine PySem.W.kla_makeFunctionHit (mg := X.mg) (c := c) (P := P) (ps := ps) (closure_ok hfree) I.ok.glob (I.mod.glob.keeps I.bk) hcode (TB.code.keeps I.bk) hP' ht hc bP fun ctv h' tk hx hsz => ?_
    have I1 : Inv X pins σ H { s with heap := h', toks := tk } := I.kept hx
    have nF : H h'.objs.size = none := I1.hok.fresh (Nat.le_refl _)
    have I2 := inv_lm (F := lmF (X.env.qual ++ "<lambda>") params scope (cloFrom X.env.cells scope.names []) c') (e := body) (t' := tk) (pm := (X.mg "__name__").getD .none) (ctv := ctv) I1
    refine h h'.objs.size c' _ _ I2 (fun b o e n => ?_) (fun b e => upd_none e) (hT.ext fun b o e => ?_) nF upd_same ?_
    · exact (upd_ne (ne_of_none e nF)).trans e
    · exact (upd_ne (ne_of_none e nF)).trans e
    · exact (upd_ne (ne_of_none hco nF)).trans hco
end
/-! ### a def that is one return of a lambda -/
/-- such a def, its code object at c -/
structure DfC (K : PySem.W.Frag) (mg : Str → Option Value) (x : Str) (st : Stmt) (c : Addr) : Prop where
  ex : ∃ (f : Addr) (oc : Value) (od : Option Addr) (kV doc pm : Value) (an : Option Addr) (ct : Value) (osl : Array (Option Value)), K.lookup f = some ⟨oc, od, .func (PySem.W.fnOf x x (defArgs st) (defBody st) (defScope st) .none kV doc pm an (.ref c) ct), osl⟩ ∧
    PySem.W.codeIn K (.ref c) x = true ∧ KwdV K kV [] ∧ PySem.W.keepIn K (.ref f) = true ∧ mg x = some (.ref f)
abbrev lamQ (x : Str) : Str := (x ++ ".<locals>.") ++ "<lambda>"
def spMkL (T : List (Addr × Str)) (x y : Str) (lp : Arguments) (lb : Expr) (ls : Scope) : Sp := fun vs H Q _ => ∃ v0, vs = [v0] ∧ Tabs T H ∧ ∀ (f c' cc : Addr) (H' : Hp), ExtN H H' → (∀ b, H' b = none → H b = none) → Tabs T H' → H f = none → H cc = none →
  H' f = some (LmO f (lmF (lamQ x) lp ls [(y, cc)] c') lb) → H' c' = some (CodeO c' (lamQ x)) → H' cc = some (CelO cc v0) → Q (.ref f) H'
section
variable {P : Program} {w : World} {K : PySem.W.Frag} {mg : Str → Option Value} {base : Heap} {x y : Str} {st : Stmt} {c Pt : Addr} {T : List (Addr × Str)} {lp : Arguments} {lb : Expr} {ls : Scope} {lpos rpos : Pos} {k : Nat}
theorem ca_mkL (D : DfC K mg x st c) (S : FnScope [y] [y] (defScope st)) (hst : defBody st = [.Return (some (.Lambda lp lb ls lpos)) rpos]) (hy : (defScope st).names.lookup y = some .cell)
    (hclo : ∀ cells : List (Str × Addr), cloFrom cells ls.names [] = [(y, (cells.lookup y).getD 0)]) (hfr : ∀ z ∈ ls.names, z.2 = .free → z.1 = y) (hdef : ∀ env : Env, defaultsOf lp env = ([], [])) (TB : TabB base mg c Pt) (hm : (Pt, lamQ x) ∈ T) (hu : ∀ p ∈ T, p.1 = Pt → p.2 = lamQ x) :
    Ca P w K mg base CX0 (k + 1) x st [] [y] (spMkL T x y lp lb ls) := by
  obtain ⟨f0, oc, od, kV, doc, pm, an, ct, osl, lk, hcd, hkw, hkp, hmg⟩ := D.ex
  refine ⟨f0, _, ⟨⟨oc, od, .none, kV, doc, pm, an, .ref c, ct, osl, rfl, lk, hcd, .inl ⟨rfl, rfl⟩, hkw⟩, hkp⟩, hmg, ⟨fun vs H Q E h => ?_, fun A outer s H args us vs Q E hr e0 hb r hsp => ?_⟩⟩
  · obtain ⟨v0, rfl, _⟩ := h
    rfl
  obtain ⟨v0, rfl, hT, q⟩ := hsp
  have KX : K.In s.heap := e0.mod.kin.keeps fun b o e => (e0.bs b o e).1
  have lim : s.heap.NoLimit := e0.mod.nolimit.keeps fun b o e => (e0.bs b o e).1
  have hkind : ∀ z ∈ ([y] : List Str).zip us, (defScope st).names.lookup z.1 = some .local ∨ ((defScope st).names.lookup z.1 = some .cell ∧ ((cellsFrom (s.heap.objs.size + 1) (defScope st).names []).lookup z.1).isSome = true) := fun ⟨n, v⟩ hz => by
    rcases S.par n (List.of_mem_zip hz).1 with q | q
    · exact .inl q
    · exact .inr ⟨q, PySem.W.cellsFrom_some _ _ _ (.inl q)⟩
  refine codeAny_call_function hr.depth (KX _ _ lk) rfl S.co S.gen rfl (PySem.W.codeRec_of KX hcd) (hb _ _ _ _ ?_)
  refine wpAny_newFunctionEnv_cells S.kind hkind fun env he s1 xx => ?_
  subst he
  refine ⟨lim.keeps xx.toInCall.keep, codeAny_func ?_⟩
  have I : Inv (cxOf CX0 P w K mg base [y] x (defScope st) f0 (.ref c) A outer s H E) [] (L2.start [y] [v0]) H s1 := inv_start S hr.hd e0 rfl r xx
  rw [hst]
  have cell : ∃ cc, (cxOf CX0 P w K mg base [y] x (defScope st) f0 (.ref c) A outer s H E).env.cells.lookup y = some cc := I.ok.has y (.inl hy)
  obtain ⟨cc, hcc⟩ := cell
  refine wpAny_execs_cons (wpAny_Return_some (lam_makeT I TB rfl hm hu hT (hdef _) (fun z hz e => ⟨cc, by rw [hfr z hz e]; exact hcc⟩) fun f c' H1 s' I1 eN nN T1 nf hf hco => ?_))
  have nc1 : H1 cc = none := I1.freeC y cc hcc
  have ge : s.heap.objs.size ≤ cc := I1.ok.cab y cc rfl hcc
  obtain ⟨m, hn, hl⟩ := I1.loc
  obtain ⟨u, ru, lk2⟩ := hl 0 y v0 rfl rfl (.inr (.inl hy))
  have ic : s'.heap.IsCell cc (some u) := by
    rcases lk2 with ⟨z, _⟩ | ⟨_, a', ha', z⟩
    · have z : (defScope st).names.lookup y = some .local := z
      rw [hy] at z
      cases z
    · rw [hcc] at ha'
      cases ha'
      exact z
  have nc0 : H cc = none := nN cc nc1
  have B : Un (frs outer) [] H H1 s.heap s'.heap := I1.base
  refine ⟨.ref f, L2.upd H1 cc (CelO cc v0), I1.os, I1.bare, ⟨B.keep, B.slot, fun b o h1 h2 h3 => ?_, B.there, fun b xs h => ?_, fun b o u h => ?_, fun b ps h => ?_⟩, hok_put nc1 ru ic I1.hok, rfl, q f c' cc _ (fun b o e n => ?_) (fun b e => nN b (upd_none e)) (T1.ext fun b o e => ?_) nf nc0 ?_ ?_ upd_same⟩
  · have lt := Heap.lt_size h1
    rw [upd_ne (fun z => by rw [z] at lt; exact Nat.lt_irrefl _ (Nat.lt_of_lt_of_le lt ge))]
    exact B.free b o h1 h2 h3
  · have e := B.tups b xs h
    rw [upd_ne (ne_of_none e nc1)]
    exact e
  · have e := B.frzs b o u h
    rw [upd_ne (ne_of_none e nc1)]
    exact e
  · obtain ⟨more, e⟩ := B.tbls b ps h
    exact ⟨more, by rw [upd_ne (ne_of_none e nc1)]; exact e⟩
  · have e1 := eN b o e n
    rw [upd_ne (ne_of_none e1 nc1)]
    exact e1
  · rw [upd_ne (ne_of_none e nc1)]
    exact e
  · rw [upd_ne (ne_of_none hf nc1), hf]
    have z : cloFrom (cxOf CX0 P w K mg base [y] x (defScope st) f0 (.ref c) A outer s H E).env.cells ls.names [] = [(y, cc)] := by
      rw [hclo, hcc]
      rfl
    rw [z]
    rfl
  · rw [upd_ne (ne_of_none hco nc1)]
    exact hco
end
end MM
namespace MM
open PySem PySem.Spec PySem.Calls PyProof.Rows L2 LamX
/-! ### the end of a law with tables of code objects -/
theorem tabs_nil {H : Hp} {p : Addr} {q : Str} (h : H p = some (.tbl #[])) : TabS H p q := by
  refine ⟨_, h, ?_, fun pos cv e => ?_⟩
  · trivial
  · cases e
theorem walk_T {l : PySem.W.OpenLaw} {q : Program} {loose : List Str} {XP : (Str → Option Value) → Heap → Prop} {YP : World → Heap → Prop} {d : DefRec} {K : Params → PySem.W.Frag} {k : Nat} {x : Str} {sp : World → List (Addr × Addr) → Sp} (xs : List Str)
    (hn : l.most = some 63) (hdf : d.params.defaults = []) (rm : Room k callerA)
    (hfd : ∀ y ∈ xs, ((recsOf q).find? fun e => e.name == y).isSome = true)
    (hY : ∀ (w : World) (h : Heap), YP w h → (K w.params).In h)
    (F : ∀ (w : World) (mg : Str → Option Value) (fa : Addr) (h : Heap), (K w.params).In h → h.Ns mainGlobals mg → mg d.name = some (.ref fa) →
      ∃ (cs : List (Addr × Addr)) (fd : FuncData), (∀ p ∈ cs, (∃ y ∈ xs, PySem.W.tabIn (K w.params) y = some p) ∧ (K w.params).lookup p.2 = none) ∧ (∀ (s : Shared) (u : Value), BindsTo s fd ⟨[u], []⟩ [(x, u)]) ∧
        ∀ base : Heap, (K w.params).In base → base.Ns mainGlobals mg → (∀ p ∈ cs, TabB base mg p.1 p.2) → FnOk l.prog w (K w.params) mg base CX0 k fa fd [x] (sp w cs))
    (want : ∀ (w : World) (cs : List (Addr × Addr)) (H : Hp) (a : Addr) (ns : List Int), ns.length ≤ 63 → (∀ p ∈ cs, H p.2 = some (.tbl #[])) → SqL (K w.params) H a (ns.map V.int) → sp w cs [.ref a] H (fun v _ => v = .bl true) fun _ _ _ => False) :
    PySem.W.WalkO q loose XP YP l.row.toRowW d [] (fun f vs => PySem.call f vs) := by
  refine Att.attach_call hn hdf fun w s0 s1 mg mb fa o pm cd doc a vs ns G Y ho hd hcd hmg hobj hints hlen hg => ?_
  have kin := hY w _ Y
  obtain ⟨cs, fd, hcs, hb, hF⟩ := F w mg fa _ kin G.T.g hmg
  have tb : ∀ p ∈ cs, PySem.W.CodeHd s1.heap p.1 p.2 ∧ s1.heap.get? p.2 = some (PySem.W.tabObj #[]) := fun p hp => by
    obtain ⟨⟨y, hy, ht⟩, _⟩ := hcs p hp
    obtain ⟨d', hd'⟩ := Option.isSome_iff_exists.mp (hfd y hy)
    exact PySem.W.tab_of G.T kin hd' ht
  exact law_callTs (CX := CX0) kin G.T.g G.T.b G.T.builtins G.T.nolimit hg (fun p hp => (tb p hp).2) (fun p hp => (hcs p hp).2) (fun p hp => (tb p hp).1) G.T.bmain hobj hints (Nat.le_trans hlen (by decide)) rm hF hb (fun H ht sq => want w cs H a ns hlen ht sq) fun _ _ _ z => z
theorem fin_ofT {P : Program} {w : World} {K : PySem.W.Frag} {mg : Str → Option Value} {st : Stmt} {k : Nat} {x : Str} {sp : Sp} {fa : Addr} {cs : List (Addr × Addr)} (hfa : mg "law" = some (.ref fa)) (D : Df K mg "law" st []) (b : Bd "law" "law" st [x])
    (h : ∀ base : Heap, (∀ p ∈ cs, TabB base mg p.1 p.2) → Ca P w K mg base CX0 k "law" st [] [x] sp) :
    ∃ fd : FuncData, (∀ (s : Shared) (u : Value), BindsTo s fd ⟨[u], []⟩ [(x, u)]) ∧ ∀ base : Heap, K.In base → base.Ns mainGlobals mg → (∀ p ∈ cs, TabB base mg p.1 p.2) → FnOk P w K mg base CX0 k fa fd [x] sp := by
  obtain ⟨f, fd, F, hm⟩ := D.ex
  have e := hfa.symm.trans hm
  cases e
  refine ⟨fd, fun s u => ?_, fun base _ _ tb => ?_⟩
  · obtain ⟨kV, doc, pm, an, cdv, ct, rfl⟩ := FunD.none F
    exact .of_eq (b kV doc pm an cdv ct [u] rfl)
  · obtain ⟨f', fd', F', hm', G⟩ := (h base tb).ex
    have e' := hm.symm.trans hm'
    cases e'
    have e2 := fund_inj F F'
    subst e2
    exact G
section
variable {K : PySem.W.Frag} {h : Heap} {mg : Str → Option Value} {x : Str} {st : Stmt} {f c : Addr} {oc kV doc pm ct : Value} {od an : Option Addr} {osl : Array (Option Value)}
/-- a def whose code object's place is told -/
theorem df_mkC (X : K.In h) (G : h.Ns mainGlobals mg) (a : PySem.W.nsIn K mainGlobals x = some (some (.ref f))) (l : K.lookup f = some ⟨oc, od, .func (PySem.W.fnOf x x (defArgs st) (defBody st) (defScope st) .none kV doc pm an (.ref c) ct), osl⟩)
    (cI : PySem.W.codeIn K (.ref c) x = true) (k : PySem.W.keepIn K (.ref f) = true) : DfC K mg x st c :=
  ⟨f, oc, od, kV, doc, pm, an, ct, osl, l, cI, .inl rfl, k, PySem.W.mg_of X G a⟩
end
end MM
namespace MM
/-! ### tops and bottoms each by itself -/
theorem dv_num {n : Nat} {t b : Int} (h : Sz n t) : Sz n (Rat.divInt t b).num := by
  unfold Sz
  rw [Rat.num_divInt]
  refine Nat.lt_of_le_of_lt (Int.natAbs_ediv_le_natAbs _ _) ?_
  rw [Int.natAbs_mul]
  refine Nat.lt_of_le_of_lt ?_ h
  have : b.sign.natAbs ≤ 1 := by
    rcases Int.lt_trichotomy b 0 with z | z | z
    · rw [Int.sign_eq_neg_one_of_neg z]; decide
    · rw [z]; decide
    · rw [Int.sign_eq_one_of_pos z]; decide
  calc b.sign.natAbs * t.natAbs ≤ 1 * t.natAbs := Nat.mul_le_mul_right _ this
    _ = t.natAbs := Nat.one_mul _
theorem dv_den {n : Nat} {t b : Int} (k : Sz n b) (h0 : 0 < n) : Sz n (Rat.divInt t b).den := by
  unfold Sz
  rw [Rat.den_divInt]
  split
  · exact Nat.one_lt_two_pow (by omega)
  · rw [Int.natAbs_natCast]
    exact Nat.lt_of_le_of_lt (Nat.div_le_self _ _) k
/-- a fraction with a top of a bits and a bottom of b bits -/
structure Pz (a b : Nat) (q : Rat) : Prop where
  num : Sz a q.num
  den : Sz b q.den
theorem Pz.rz {a b n : Nat} {q : Rat} (h : Pz a b q) (ha : a ≤ n := by decide) (hb : b ≤ n := by decide) : Rz n q := ⟨h.num.mono ha, h.den.mono hb⟩
theorem Pz.of {n : Nat} {q : Rat} (h : Rz n q) : Pz n n q := ⟨h.1, h.2⟩
theorem Pz.mono {a b c d : Nat} {q : Rat} (h : Pz a b q) (ha : a ≤ c := by decide) (hb : b ≤ d := by decide) : Pz c d q := ⟨h.num.mono ha, h.den.mono hb⟩
theorem Pz.int {a : Nat} {i : Int} (h : Sz a i) : Pz a 1 (i : Rat) := ⟨h, (by show 1 < 2 ^ 1; decide)⟩
theorem Pz.add {a b c d m l : Nat} {p q : Rat} (h : Pz a b p) (k : Pz c d q) (h1 : a + d < m := by decide) (h2 : c + b < m := by decide) (h3 : b + d ≤ l := by decide) (h4 : 0 < l := by decide) : Pz m l (p + q) := by
  rw [add_eq]
  refine ⟨dv_num ?_, dv_den ((h.den.mul k.den).mono h3) h4⟩
  exact Sz.add (n := max (a + d) (c + b)) ((h.num.mul k.den).mono (by omega)) ((k.num.mul h.den).mono (by omega)) (by omega)
theorem Pz.mul {a b c d m l : Nat} {p q : Rat} (h : Pz a b p) (k : Pz c d q) (h1 : a + c ≤ m := by decide) (h3 : b + d ≤ l := by decide) (h4 : 0 < l := by decide) : Pz m l (p * q) := by
  rw [mul_eq]
  exact ⟨dv_num ((h.num.mul k.num).mono h1), dv_den ((h.den.mul k.den).mono h3) h4⟩
theorem Pz.add_int {a b c m : Nat} {p : Rat} {i : Int} (h : Pz a b p) (k : Sz c i) (h1 : a < m := by decide) (h2 : c + b < m := by decide) (h0 : 0 < b := by decide) : Pz m b (p + (i : Rat)) := by
  rw [add_eq]
  have e1 : ((i : Rat).den : Int) = 1 := rfl
  have e2 : (i : Rat).num = i := rfl
  rw [e1, e2, Int.mul_one, Int.mul_one]
  exact ⟨dv_num (Sz.add (n := max a (c + b)) (h.num.mono (by omega)) ((k.mul h.den).mono (by omega)) (by omega)), dv_den h.den h0⟩
theorem Pz.mul_int {a b c m : Nat} {p : Rat} {i : Int} (h : Pz a b p) (k : Sz c i) (h1 : a + c ≤ m := by decide) (h0 : 0 < b := by decide) : Pz m b (p * (i : Rat)) := by
  rw [mul_eq]
  have e1 : ((i : Rat).den : Int) = 1 := rfl
  have e2 : (i : Rat).num = i := rfl
  rw [e1, e2, Int.mul_one]
  exact ⟨dv_num ((h.num.mul k).mono h1), dv_den h.den h0⟩
/-! ### two calendars, one the other moved -/
theorem fl_add (x : Rat) (i : Int) : (x + (i : Rat)).floor = x.floor + i := by
  have h1 := Rat.floor_le x
  have h2 : x < (x.floor : Rat) + 1 := by rw [← cast_add1]; exact Rat.lt_floor_add_one x
  refine Int.le_antisymm (floor_le_iff.mpr ?_) (Rat.le_floor_iff.mpr ?_)
  · rw [show ((x.floor + i + 1 : Int) : Rat) = (x.floor : Rat) + (i : Rat) + 1 by exact_mod_cast rfl]
    grind
  · rw [show ((x.floor + i : Int) : Rat) = (x.floor : Rat) + (i : Rat) by exact_mod_cast rfl]
    grind
/-- o', k' are o, k moved: days d on, months a, marks e -/
structure Mvd (m y o k o' k' : Rat) (d a e : Int) : Prop where
  st : ∀ i, stF m o' i = stF m o (i + a) + d
  md : ∀ j, mdF y k' j = mdF y k (j + e) + d
theorem mvd_days (m y o k : Rat) (d : Int) : Mvd m y o k (o + (d : Rat)) (k + (d : Rat)) d 0 0 := by
  refine ⟨fun i => ?_, fun j => ?_⟩
  · unfold stF
    rw [← fl_add, Int.add_zero]
    congr 1
    grind
  · unfold mdF
    rw [← fl_add, Int.add_zero]
    congr 1
    grind
theorem mvd_months (m y o k : Rat) (a : Int) : Mvd m y o k (o + m * (a : Rat)) k 0 a 0 := by
  refine ⟨fun i => ?_, fun j => by rw [Int.add_zero, Int.add_zero]⟩
  unfold stF
  rw [Int.add_zero, Rat.intCast_add]
  congr 1
  grind
theorem mvd_years (m y o k : Rat) (A : Int) : Mvd m y o k o (k + y * (A : Rat)) 0 0 (12 * A) := by
  refine ⟨fun i => by rw [Int.add_zero, Int.add_zero], fun j => ?_⟩
  unfold mdF
  rw [Int.add_zero, Rat.intCast_add, Rat.intCast_mul]
  congr 1
  have c12 : ((12 : Int) : Rat) = 12 := rfl
  rw [c12]
  grind
theorem mvd_twelfth (m y o k : Rat) : Mvd m y o k o (k + y / 12) 0 0 1 := by
  refine ⟨fun i => by rw [Int.add_zero, Int.add_zero], fun j => ?_⟩
  unfold mdF
  rw [Int.add_zero, Rat.intCast_add]
  congr 1
  have c1 : ((1 : Int) : Rat) = 1 := rfl
  rw [c1]
  grind
theorem ext_lt {A B : Int} (h : ∀ j : Int, j < A ↔ j < B) : A = B := by
  have h1 := h A
  have h2 := h B
  omega
section
variable {m y o k o' k' : Rat} {d a e : Int}
theorem Mvd.ma (M : Mvd m y o k o' k' d a e) (hm : 0 < m) (x : Int) : maF m o' (x + d) = maF m o x - a := by
  refine ma_of hm ?_ ?_
  · rw [M.st, show maF m o x - a + a = maF m o x by omega]
    have := st_ma (o := o) hm x
    omega
  · rw [M.st, show maF m o x - a + 1 + a = maF m o x + 1 by omega]
    have := ma_st (o := o) hm x
    omega
theorem Mvd.j (M : Mvd m y o k o' k' d a e) (hy : 0 < y / 12) (x : Int) : jF y k' (x + d) = jF y k x - e := by
  refine ext_lt fun j => ?_
  have h1 := md_lt (k := k') hy (j := j) (d := x + d)
  have h2 := md_lt (k := k) hy (j := j + e) (d := x)
  rw [← h1, M.md]
  constructor
  · intro h
    have := h2.mp (by omega)
    omega
  · intro h
    have := h2.mpr (by omega)
    omega
end
end MM
namespace MM
open PySem PySem.Spec PyProof.Rows L2 LamX NdefX
/-! ### a def whose code object is known -/
section
variable {P : Program} {w : World} {K : PySem.W.Frag} {mg : Str → Option Value} {base : Heap} {x : Str} {st : Stmt} {c : Addr} {N ps : List Str} {sp : Sp} {k : Nat}
theorem ca0C (D : DfC K mg x st c) (S : FnScope N ps (defScope st)) (len : ∀ vs H Q E, sp vs H Q E → vs.length = ps.length)
    (body : ∀ (f : Addr) (A : Around) (outer : List Env) (s : Shared) (H : Hp) (vs : List V) (Q : VK) (E : XK), Room k (A.deeper (envOfC x (defScope st) s.heap.objs.size f (.ref c))) → sp vs H Q E →
      ∃ t, PSs (cxOf CX0 P w K mg base N x (defScope st) f (.ref c) A outer s H E).nox (defBody st) t ∧ t { nx := fun _ H' => Q .non H', rt := Q } (L2.start N vs) H) : Ca P w K mg base CX0 (k + 1) x st [] ps sp := by
  obtain ⟨f0, oc, od, kV, doc, pm, an, ct, osl, lk, hcd, hkw, hkp, hmg⟩ := D.ex
  refine ⟨f0, _, ⟨⟨oc, od, .none, kV, doc, pm, an, .ref c, ct, osl, rfl, lk, hcd, .inl ⟨rfl, rfl⟩, hkw⟩, hkp⟩, hmg, ⟨len, fun A outer s H args us vs Q E hr e0 hb r hsp => ?_⟩⟩
  refine run_ofS lk hcd S hr e0 hb r (len _ _ _ _ hsp) fun hr' => ?_
  obtain ⟨t, h1, h2⟩ := body f0 A outer s H vs Q E hr' hsp
  exact ⟨t, h1.nox, h2⟩
end
/-! ### a lambda without captured names, kept -/
theorem clo_nil {cells : List (Str × Addr)} : ∀ (names : List (Str × NameKind)) (acc : List (Str × Addr)), (∀ y ∈ names, y.2 ≠ .free) → cloFrom cells names acc = acc
  | [], _, _ => rfl
  | (n, k) :: r, acc, h => by
    unfold cloFrom
    have hk : ¬ ((k == NameKind.free) = true) := by
      have := h (n, k) List.mem_cons_self
      simpa using this
    rw [if_neg hk]
    exact clo_nil r acc fun y hy => h y (List.mem_cons_of_mem _ hy)
def tLm0 (T : List (Addr × Str)) (q : Str) (params : Arguments) (body : Expr) (scope : Scope) : TE := fun _ H Q => Tabs T H ∧ ∀ (f c' : Addr) (H1 : Hp), ExtN H H1 → (∀ b, H1 b = none → H b = none) → Tabs T H1 → H f = none →
  H1 f = some (LmO f (lmF q params scope [] c') body) → H1 c' = some (CodeO c' q) → Q (.ref f) H1
theorem pe_lm0 {X : Cx} {T : List (Addr × Str)} {c P : Addr} {q : Str} {params : Arguments} {body : Expr} {scope : Scope} {pos : Pos} (TB : TabB X.base X.mg c P) (hcode : X.env.code = .ref c) (hq : X.env.qual ++ "<lambda>" = q)
    (hm : (P, q) ∈ T) (hu : ∀ p ∈ T, p.1 = P → p.2 = q) (hdef : defaultsOf params X.env = ([], [])) (hfr : ∀ y ∈ scope.names, y.2 ≠ .free) : PE X (.Lambda params body scope pos) (tLm0 T q params body scope) := by
  refine ⟨fun pins s σ H Q I h => ?_⟩
  obtain ⟨hT, h⟩ := h
  subst hq
  refine lam_makeT I TB hcode hm hu hT hdef (fun y hy e => absurd e (hfr y hy)) fun f c' H1 s' I1 eN nN T1 nf hf hco => ?_
  rw [clo_nil _ _ hfr] at hf
  exact ⟨.ref f, H1, I1, rfl, h f c' H1 eN nN T1 nf hf hco⟩
structure LOk0 (P : Program) (w : World) (K : PySem.W.Frag) (mg : Str → Option Value) (base : Heap) (CX : CXT) (k : Nat) (F : NF) (e : Expr) (ps : List Str) (sp : Sp) : Prop where
  run : ∀ (f : Addr) (A : Around) (outer : List Env) (s : Shared) (H : Hp) (us : List Value) (vs : List V) (Q : VK) (E : XK), Room k A → Env0 P w K mg base A outer s H → H f = some (LmO f F e) → H F.c = some (CodeO F.c F.qual) →
    Vals vs us → vs.length = ps.length → sp vs H Q E → codeAny (model P w) A (.call (.ref f) ⟨us, []⟩) (CR CX outer P w H s Q E) s
section
variable {P : Program} {w : World} {K : PySem.W.Frag} {mg : Str → Option Value} {base : Heap} {F : NF} {e : Expr} {N ps : List Str} {k : Nat}
theorem lok0_of {sp : Sp} (S : NScope N ps [] F.scope) (hcl : F.cl = []) (hb : ∀ (pm ctv : Value) (us : List Value), us.length = ps.length → bindArgs (PySem.W.kla_fn "<lambda>" F.qual F.params e F.scope F.cl pm (.ref F.c) ctv) ⟨us, []⟩ = pure (ps.zip us))
    (hbody : ∀ (f : Addr) (A : Around) (outer : List Env) (s : Shared) (H : Hp) (E : XK) (vs : List V) (Q : VK), Room k (A.deeper (envF F f s.heap.objs.size)) → vs.length = ps.length → sp vs H Q E →
      ∃ te : TE, PE (ncx CX0 P w K mg base N F f A outer s H E) e te ∧ te (startF N vs []) H Q) : LOk0 P w K mg base CX0 (k + 1) F e ps sp := by
  refine ⟨fun f A outer s H us vs Q E hr e0 hf hc r hl hsp => ?_⟩
  obtain ⟨pm, ctv, ho⟩ := lmO_at e0.hok hf
  have lim : s.heap.NoLimit := e0.mod.nolimit.keeps fun b o e => (e0.bs b o e).1
  have C : CellsAt F.cl [] [] s.heap H := by
    rw [hcl]
    refine ⟨rfl, fun x c q => ?_, fun x z c q1 q2 => ?_, fun i x q => ?_⟩
    · simp at q
    · simp at q1
    · simp at q
  have hu : us.length = ps.length := by rw [← r.length]; exact hl
  refine PySem.W.kla_callFunE hr.depth ho rfl S.co S.gen rfl (codeO_at e0.hok hc) ?_
  rw [hb pm ctv us hu]
  refine wpAny_pure (wpAny_newFunctionEnv S.nocell (fun ⟨n, _⟩ hy => S.par n (List.of_mem_zip hy).1) (fun h₁ hns hsb => ⟨lim.fresh _ hsb, ?_⟩) S.kind)
  show codeAny _ _ (.expr e (envF F f s.heap.objs.size)) _ _
  have kp : ∀ b o, s.heap.get? b = some o → h₁.get? b = some o := fun b o e => hsb.extBut b o (Nat.ne_of_lt (Heap.lt_size e)) (Heap.get?_push_of_some _ e)
  have I : Inv (ncx CX0 P w K mg base N F f A outer s H E) [] (startF N vs []) H { s with heap := h₁, toks := s.toks + (ps.zip us).length } := inv_startN S hr.hd e0 hl r C hns kp
  obtain ⟨te, hte, hq⟩ := hbody f A outer s H E vs Q (hr.deeper _) hl hsp
  refine PySem.W.kla_codeExpr (wpAny_mono (hte.run [] _ (startF N vs []) H _ I hq) (fun v s' hq => ?_) fun e s' hq => ?_)
  · obtain ⟨w', H2, J, rv, q⟩ := hq
    exact ⟨w', H2, J.os, J.bare, J.base, J.hok, rv, q⟩
  · have hq : wpAny (model P w) (A.deeper (envF F f s.heap.objs.size)) (leaving (envF F f s.heap.objs.size) e) (fun _ _ => False) (fun _ _ => False) s' := hq
    exact wpAny_mono hq (fun _ _ z => z.elim) fun _ _ z => z.elim
theorem doe_lam0 {f : Addr} {sp : Sp} (L : LOk0 P w K mg base CX0 k F e ps sp) {H : Hp} (hf : H f = some (LmO f F e)) (hc : H F.c = some (CodeO F.c F.qual)) {vs : List V} {Q : VK} (hl : vs.length = ps.length) (h : sp vs H Q E0) : Doe P w K mg base k f vs H Q :=
  ⟨fun h hok _ => by
    obtain ⟨pm, ctv, ho⟩ := lmO_at hok hf
    exact ⟨_, _, _, _, ho⟩, fun A outer s us hr e0 r => L.run f A outer s H us vs Q E0 hr e0 hf hc r hl h⟩
end
/-! ### tables that grow -/
theorem extN_trans {H H1 H2 : Hp} (a : ExtN H H1) (b : ExtN H1 H2) : ExtN H H2 := fun c o e n => b c o (a c o e n) n
theorem extN_same {H H1 : Hp} (a : Same H H1) : ExtN H H1 := fun c o e _ => a c o e
theorem tabs_putL {T : List (Addr × Str)} {D : Addr} {xs : List V} {o : HO} {H : Hp} (h : LamX.Tabs T H) (e : H D = some (.lst xs)) : LamX.Tabs T (L2.upd H D o) := fun p hp => by
  obtain ⟨ps, e1, e2, e3⟩ := h p hp
  refine ⟨ps, (upd_ne (ne_of e1 e (by intro z; cases z))).trans e1, e2, fun pos cv e' => ?_⟩
  obtain ⟨c, e4, e5⟩ := e3 pos cv e'
  exact ⟨c, e4, (upd_ne (ne_of e5 e (by intro z; unfold LamX.CodeO at z; cases z))).trans e5⟩
section
variable {J : It} {n : Nat} {G : Hp → Prop} {Y : Nat → Hp → V → Hp → Prop}
/-- a comprehension whose things are made with tables growing -/
theorem lc_allX {T : List (Addr × Str)} (w : Walk J n G Y) (hY : ∀ i H x H', Y i H x H' → Same H H') {g : TG} {te : TE} {vs : List Nat} {σ : L2.St} {H : Hp} {D : Addr} {Qd : Hp → Prop} (nD : H D = none) (tb : LamX.Tabs T H) (hn : n < sizeLine) (Ps : Nat → V → Hp → Prop)
    (hm : ∀ j v H1 H2, LamX.ExtN H1 H2 → Ps j v H1 → Ps j v H2) (hp : ∀ j v H1 acc acc', H1 D = some (.lst acc) → H D = none → LamX.ExtN H H1 → Ps j v H1 → Ps j v (L2.upd H1 D (.lst acc'))) (hG : ∀ H', LamX.ExtN H H' → G H')
    (hs : ∀ i x H1 H2 (R : V → Hp → Prop), i < n → LamX.ExtN H H1 → LamX.Tabs T H2 → (∃ acc, H2 D = some (.lst acc)) → Y i H1 x H2 → (∀ v H3, LamX.ExtN H2 H3 → LamX.Tabs T H3 → (∀ acc, H3 D = some (.lst acc) → ∀ acc', Ps i v (L2.upd H3 D (.lst acc'))) → R v H3) → g x (wipe σ vs) H2 fun σ2 H3 => wipe σ2 vs = wipe σ vs ∧ te σ2 H3 R)
    (hd : ∀ (us : List V) H', us.length = n → H' D = some (.lst us) → LamX.ExtN H H' → LamX.Tabs T H' → (∀ j v, us[j]? = some v → Ps j v H') → Qd H') :
    ∃ W : Nat → Nat → Hp → Prop, (∃ m, W 0 m (L2.upd H D (.lst []))) ∧ ∀ i m H, W i m H →
      (J.stop i H ∧ Qd H) ∨ (J.go i H ∧ ∃ Nx : Hp → Prop, (∀ H', Nx H' → ∃ m', m' < m ∧ W (i + 1) m' H') ∧ ∀ x H', J.yld i H x H' → g x (wipe σ vs) H' fun σ2 H2 => wipe σ2 vs = wipe σ vs ∧ tYes σ2 H2 fun b H3 =>
        if b = true then te σ2 H3 fun y H4 => ∃ acc, H4 D = some (.lst acc) ∧ acc.length < sizeLine ∧ Nx (L2.upd H4 D (.lst (acc ++ [y]))) else Nx H3) := by
  have kp : ∀ {H1 : Hp} {o : HO}, LamX.ExtN H H1 → LamX.ExtN H (L2.upd H1 D o) := fun {H1 o} e b u h n => (upd_ne (ne_of_none h nD)).trans (e b u h n)
  refine lc_it w (fun i H' => ∃ us : List V, us.length = i ∧ H' D = some (.lst us) ∧ LamX.ExtN H H' ∧ LamX.Tabs T H' ∧ ∀ j v, us[j]? = some v → Ps j v H') ⟨[], rfl, upd_same, kp (extN_same (Same.refl H)), tb.ext fun b u e => (upd_ne (ne_of_none e nD)).trans e, fun j v h => by simp at h⟩ (fun i H' _ ⟨_, _, _, s, _⟩ => hG H' s) ?_ (fun H' ⟨us, l, e, s, t, p⟩ => hd us H' l e s t p)
  rintro i x H1 H2 hi ⟨us, hl, e, s, t, p⟩ y
  have s2 := hY _ _ _ _ y
  refine hs i x H1 H2 _ hi s (t.ext s2) ⟨us, s2 _ _ e⟩ y fun v H3 s3 t3 pv => ?_
  have e3 := s3 _ _ (s2 _ _ e) (by intro ps z; cases z)
  have sH3 := extN_trans s (extN_trans (extN_same s2) s3)
  refine ⟨us, e3, by omega, us ++ [v], by rw [List.length_append, hl]; rfl, upd_same, kp sH3, tabs_putL t3 e3, fun j u hj => ?_⟩
  by_cases hjl : j < us.length
  · rw [List.getElem?_append_left hjl] at hj
    exact hp _ _ _ _ _ e3 nD sH3 (hm _ _ _ _ (extN_trans (extN_same s2) s3) (p j u hj))
  · rw [List.getElem?_append_right (by omega)] at hj
    have ej : j = us.length := by
      by_cases hz : j - us.length = 0
      · omega
      · have : ([v] : List V)[j - us.length]? = none := List.getElem?_eq_none_iff.mpr (by simp; omega)
        rw [this] at hj
        cases hj
    subst ej
    rw [Nat.sub_self] at hj
    cases hj
    rw [hl]
    exact pv _ e3 _
end
end MM
namespace MM
open PySem PySem.Spec PyProof.Rows L2
/-- the text by places -/
def top (i : Nat) : Stmt := PySem.Challenge.pw_meanmoon_k55_whole_alike_calendars_tell.main.body.getD i (.Pass ⟨0, 0, 0, 0⟩)
abbrev s__wall : Stmt := top 0
theorem c__wall : FnScope ["k"] ["k"] (defScope s__wall) := ⟨rfl, rfl, rfl, by decide +kernel, rfl, by decide +kernel, by decide +kernel⟩
theorem b__wall : Bd "_wall" "_wall" s__wall ["k"] := fun _ _ _ _ _ _ us hl => match us, hl with | [_], _ => rfl
abbrev s_NoShare_init : Stmt := inClass (top 2) 0
theorem c_NoShare_init : FnScope ["self", "top"] ["self", "top"] (defScope s_NoShare_init) := ⟨rfl, rfl, rfl, by decide +kernel, rfl, by decide +kernel, by decide +kernel⟩
theorem b_NoShare_init : Bd "__init__" "NoShare.__init__" s_NoShare_init ["self", "top"] := fun _ _ _ _ _ _ us hl => match us, hl with | [_, _], _ => rfl
abbrev s_NoCalendar_init : Stmt := inClass (top 3) 0
theorem c_NoCalendar_init : FnScope ["self", "why"] ["self", "why"] (defScope s_NoCalendar_init) := ⟨rfl, rfl, rfl, by decide +kernel, rfl, by decide +kernel, by decide +kernel⟩
theorem b_NoCalendar_init : Bd "__init__" "NoCalendar.__init__" s_NoCalendar_init ["self", "why"] := fun _ _ _ _ _ _ us hl => match us, hl with | [_, _], _ => rfl
abbrev s_NoDate_init : Stmt := inClass (top 4) 0
theorem c_NoDate_init : FnScope ["self", "date", "why"] ["self", "date", "why"] (defScope s_NoDate_init) := ⟨rfl, rfl, rfl, by decide +kernel, rfl, by decide +kernel, by decide +kernel⟩
theorem b_NoDate_init : Bd "__init__" "NoDate.__init__" s_NoDate_init ["self", "date", "why"] := fun _ _ _ _ _ _ us hl => match us, hl with | [_, _, _], _ => rfl
abbrev s_numeral : Stmt := top 7
theorem c_numeral : FnScope ["number", "base", "rest", "signs"] ["number", "base"] (defScope s_numeral) := ⟨rfl, rfl, rfl, by decide +kernel, rfl, by decide +kernel, by decide +kernel⟩
abbrev s_Share_init : Stmt := inClass (top 9) 0
theorem c_Share_init : FnScope ["self", "top", "bottom", "common"] ["self", "top", "bottom"] (defScope s_Share_init) := ⟨rfl, rfl, rfl, by decide +kernel, rfl, by decide +kernel, by decide +kernel⟩
abbrev s_Share_eq : Stmt := inClass (top 9) 1
theorem c_Share_eq : FnScope ["self", "other"] ["self", "other"] (defScope s_Share_eq) := ⟨rfl, rfl, rfl, by decide +kernel, rfl, by decide +kernel, by decide +kernel⟩
theorem b_Share_eq : Bd "__eq__" "Share.__eq__" s_Share_eq ["self", "other"] := fun _ _ _ _ _ _ us hl => match us, hl with | [_, _], _ => rfl
abbrev s_Share_str : Stmt := inClass (top 9) 2
theorem c_Share_str : FnScope ["self"] ["self"] (defScope s_Share_str) := ⟨rfl, rfl, rfl, by decide +kernel, rfl, by decide +kernel, by decide +kernel⟩
theorem b_Share_str : Bd "__str__" "Share.__str__" s_Share_str ["self"] := fun _ _ _ _ _ _ us hl => match us, hl with | [_], _ => rfl
abbrev s_Share_repr : Stmt := inClass (top 9) 3
theorem c_Share_repr : FnScope ["self"] ["self"] (defScope s_Share_repr) := ⟨rfl, rfl, rfl, by decide +kernel, rfl, by decide +kernel, by decide +kernel⟩
theorem b_Share_repr : Bd "__repr__" "Share.__repr__" s_Share_repr ["self"] := fun _ _ _ _ _ _ us hl => match us, hl with | [_], _ => rfl
abbrev s_common_divisor : Stmt := top 10
theorem c_common_divisor : FnScope ["one", "two"] ["one", "two"] (defScope s_common_divisor) := ⟨rfl, rfl, rfl, by decide +kernel, rfl, by decide +kernel, by decide +kernel⟩
theorem b_common_divisor : Bd "common_divisor" "common_divisor" s_common_divisor ["one", "two"] := fun _ _ _ _ _ _ us hl => match us, hl with | [_, _], _ => rfl
abbrev s_common_multiple : Stmt := top 11
theorem c_common_multiple : FnScope ["one", "two"] ["one", "two"] (defScope s_common_multiple) := ⟨rfl, rfl, rfl, by decide +kernel, rfl, by decide +kernel, by decide +kernel⟩
theorem b_common_multiple : Bd "common_multiple" "common_multiple" s_common_multiple ["one", "two"] := fun _ _ _ _ _ _ us hl => match us, hl with | [_, _], _ => rfl
abbrev s_as_share : Stmt := top 12
theorem c_as_share : FnScope ["number"] ["number"] (defScope s_as_share) := ⟨rfl, rfl, rfl, by decide +kernel, rfl, by decide +kernel, by decide +kernel⟩
theorem b_as_share : Bd "as_share" "as_share" s_as_share ["number"] := fun _ _ _ _ _ _ us hl => match us, hl with | [_], _ => rfl
abbrev s_plus : Stmt := top 13
theorem c_plus : FnScope ["one", "two", "first", "second"] ["one", "two"] (defScope s_plus) := ⟨rfl, rfl, rfl, by decide +kernel, rfl, by decide +kernel, by decide +kernel⟩
theorem b_plus : Bd "plus" "plus" s_plus ["one", "two"] := fun _ _ _ _ _ _ us hl => match us, hl with | [_, _], _ => rfl
abbrev s_minus : Stmt := top 14
theorem c_minus : FnScope ["one", "two", "first", "second"] ["one", "two"] (defScope s_minus) := ⟨rfl, rfl, rfl, by decide +kernel, rfl, by decide +kernel, by decide +kernel⟩
theorem b_minus : Bd "minus" "minus" s_minus ["one", "two"] := fun _ _ _ _ _ _ us hl => match us, hl with | [_, _], _ => rfl
abbrev s_times : Stmt := top 15
theorem c_times : FnScope ["one", "two", "first", "second"] ["one", "two"] (defScope s_times) := ⟨rfl, rfl, rfl, by decide +kernel, rfl, by decide +kernel, by decide +kernel⟩
theorem b_times : Bd "times" "times" s_times ["one", "two"] := fun _ _ _ _ _ _ us hl => match us, hl with | [_, _], _ => rfl
abbrev s_over : Stmt := top 16
theorem c_over : FnScope ["one", "two", "first", "second"] ["one", "two"] (defScope s_over) := ⟨rfl, rfl, rfl, by decide +kernel, rfl, by decide +kernel, by decide +kernel⟩
theorem b_over : Bd "over" "over" s_over ["one", "two"] := fun _ _ _ _ _ _ us hl => match us, hl with | [_, _], _ => rfl
abbrev s_before : Stmt := top 17
theorem c_before : FnScope ["one", "two", "first", "second"] ["one", "two"] (defScope s_before) := ⟨rfl, rfl, rfl, by decide +kernel, rfl, by decide +kernel, by decide +kernel⟩
theorem b_before : Bd "before" "before" s_before ["one", "two"] := fun _ _ _ _ _ _ us hl => match us, hl with | [_, _], _ => rfl
abbrev s_whole : Stmt := top 18
theorem c_whole : FnScope ["share", "number"] ["share"] (defScope s_whole) := ⟨rfl, rfl, rfl, by decide +kernel, rfl, by decide +kernel, by decide +kernel⟩
theorem b_whole : Bd "whole" "whole" s_whole ["share"] := fun _ _ _ _ _ _ us hl => match us, hl with | [_], _ => rfl
abbrev s_rounded_up : Stmt := top 19
theorem c_rounded_up : FnScope ["share", "number"] ["share"] (defScope s_rounded_up) := ⟨rfl, rfl, rfl, by decide +kernel, rfl, by decide +kernel, by decide +kernel⟩
theorem b_rounded_up : Bd "rounded_up" "rounded_up" s_rounded_up ["share"] := fun _ _ _ _ _ _ us hl => match us, hl with | [_], _ => rfl
abbrev s_Calendar_init : Stmt := inClass (top 22) 0
theorem c_Calendar_init : FnScope ["self", "month", "year", "moon", "mark"] ["self", "month", "year", "moon", "mark"] (defScope s_Calendar_init) := ⟨rfl, rfl, rfl, by decide +kernel, rfl, by decide +kernel, by decide +kernel⟩
abbrev s_Calendar_start : Stmt := inClass (top 22) 1
theorem c_Calendar_start : FnScope ["self", "k"] ["self", "k"] (defScope s_Calendar_start) := ⟨rfl, rfl, rfl, by decide +kernel, rfl, by decide +kernel, by decide +kernel⟩
theorem b_Calendar_start : Bd "start" "Calendar.start" s_Calendar_start ["self", "k"] := fun _ _ _ _ _ _ us hl => match us, hl with | [_, _], _ => rfl
abbrev s_Calendar_month_at : Stmt := inClass (top 22) 2
theorem c_Calendar_month_at : FnScope ["self", "day"] ["self", "day"] (defScope s_Calendar_month_at) := ⟨rfl, rfl, rfl, by decide +kernel, rfl, by decide +kernel, by decide +kernel⟩
theorem b_Calendar_month_at : Bd "month_at" "Calendar.month_at" s_Calendar_month_at ["self", "day"] := fun _ _ _ _ _ _ us hl => match us, hl with | [_, _], _ => rfl
abbrev s_Calendar_mark_day : Stmt := inClass (top 22) 3
theorem c_Calendar_mark_day : FnScope ["self", "j"] ["self", "j"] (defScope s_Calendar_mark_day) := ⟨rfl, rfl, rfl, by decide +kernel, rfl, by decide +kernel, by decide +kernel⟩
theorem b_Calendar_mark_day : Bd "mark_day" "Calendar.mark_day" s_Calendar_mark_day ["self", "j"] := fun _ _ _ _ _ _ us hl => match us, hl with | [_, _], _ => rfl
abbrev s_Calendar_month_with : Stmt := inClass (top 22) 4
theorem c_Calendar_month_with : FnScope ["self", "j"] ["self", "j"] (defScope s_Calendar_month_with) := ⟨rfl, rfl, rfl, by decide +kernel, rfl, by decide +kernel, by decide +kernel⟩
theorem b_Calendar_month_with : Bd "month_with" "Calendar.month_with" s_Calendar_month_with ["self", "j"] := fun _ _ _ _ _ _ us hl => match us, hl with | [_, _], _ => rfl
abbrev s_Calendar_mark_in : Stmt := inClass (top 22) 5
theorem c_Calendar_mark_in : FnScope ["self", "k", "j"] ["self", "k"] (defScope s_Calendar_mark_in) := ⟨rfl, rfl, rfl, by decide +kernel, rfl, by decide +kernel, by decide +kernel⟩
theorem b_Calendar_mark_in : Bd "mark_in" "Calendar.mark_in" s_Calendar_mark_in ["self", "k"] := fun _ _ _ _ _ _ us hl => match us, hl with | [_, _], _ => rfl
abbrev s_Calendar_name_of : Stmt := inClass (top 22) 6
theorem c_Calendar_name_of : FnScope ["self", "k", "j", "odd"] ["self", "k"] (defScope s_Calendar_name_of) := ⟨rfl, rfl, rfl, by decide +kernel, rfl, by decide +kernel, by decide +kernel⟩
theorem b_Calendar_name_of : Bd "name_of" "Calendar.name_of" s_Calendar_name_of ["self", "k"] := fun _ _ _ _ _ _ us hl => match us, hl with | [_, _], _ => rfl
abbrev s_Calendar_eq : Stmt := inClass (top 22) 7
theorem c_Calendar_eq : FnScope ["self", "other"] ["self", "other"] (defScope s_Calendar_eq) := ⟨rfl, rfl, rfl, by decide +kernel, rfl, by decide +kernel, by decide +kernel⟩
theorem b_Calendar_eq : Bd "__eq__" "Calendar.__eq__" s_Calendar_eq ["self", "other"] := fun _ _ _ _ _ _ us hl => match us, hl with | [_, _], _ => rfl
abbrev s_Calendar_str : Stmt := inClass (top 22) 8
theorem c_Calendar_str : FnScope ["self"] ["self"] (defScope s_Calendar_str) := ⟨rfl, rfl, rfl, by decide +kernel, rfl, by decide +kernel, by decide +kernel⟩
theorem b_Calendar_str : Bd "__str__" "Calendar.__str__" s_Calendar_str ["self"] := fun _ _ _ _ _ _ us hl => match us, hl with | [_], _ => rfl
abbrev s_Calendar_repr : Stmt := inClass (top 22) 9
theorem c_Calendar_repr : FnScope ["self"] ["self"] (defScope s_Calendar_repr) := ⟨rfl, rfl, rfl, by decide +kernel, rfl, by decide +kernel, by decide +kernel⟩
theorem b_Calendar_repr : Bd "__repr__" "Calendar.__repr__" s_Calendar_repr ["self"] := fun _ _ _ _ _ _ us hl => match us, hl with | [_], _ => rfl
abbrev s_refuse_unfit : Stmt := top 23
theorem c_refuse_unfit : FnScope ["month", "year"] ["month", "year"] (defScope s_refuse_unfit) := ⟨rfl, rfl, rfl, by decide +kernel, rfl, by decide +kernel, by decide +kernel⟩
theorem b_refuse_unfit : Bd "refuse_unfit" "refuse_unfit" s_refuse_unfit ["month", "year"] := fun _ _ _ _ _ _ us hl => match us, hl with | [_, _], _ => rfl
abbrev s_moment_or_nought : Stmt := top 24
theorem c_moment_or_nought : FnScope ["moment"] ["moment"] (defScope s_moment_or_nought) := ⟨rfl, rfl, rfl, by decide +kernel, rfl, by decide +kernel, by decide +kernel⟩
theorem b_moment_or_nought : Bd "moment_or_nought" "moment_or_nought" s_moment_or_nought ["moment"] := fun _ _ _ _ _ _ us hl => match us, hl with | [_], _ => rfl
abbrev s_twelfth : Stmt := top 25
theorem c_twelfth : FnScope ["year"] ["year"] (defScope s_twelfth) := ⟨rfl, rfl, rfl, by decide +kernel, rfl, by decide +kernel, by decide +kernel⟩
theorem b_twelfth : Bd "twelfth" "twelfth" s_twelfth ["year"] := fun _ _ _ _ _ _ us hl => match us, hl with | [_], _ => rfl
abbrev s_nth_day : Stmt := top 26
theorem c_nth_day : FnScope ["first", "step", "n"] ["first", "step", "n"] (defScope s_nth_day) := ⟨rfl, rfl, rfl, by decide +kernel, rfl, by decide +kernel, by decide +kernel⟩
theorem b_nth_day : Bd "nth_day" "nth_day" s_nth_day ["first", "step", "n"] := fun _ _ _ _ _ _ us hl => match us, hl with | [_, _, _], _ => rfl
abbrev s_first_from : Stmt := top 27
theorem c_first_from : FnScope ["first", "step", "day"] ["first", "step", "day"] (defScope s_first_from) := ⟨rfl, rfl, rfl, by decide +kernel, rfl, by decide +kernel, by decide +kernel⟩
theorem b_first_from : Bd "first_from" "first_from" s_first_from ["first", "step", "day"] := fun _ _ _ _ _ _ us hl => match us, hl with | [_, _, _], _ => rfl
abbrev s_kept_form : Stmt := top 28
theorem c_kept_form : FnScope ["calendar", "month", "moon", "first_moon", "mark"] ["calendar"] (defScope s_kept_form) := ⟨rfl, rfl, rfl, by decide +kernel, rfl, by decide +kernel, by decide +kernel⟩
theorem b_kept_form : Bd "kept_form" "kept_form" s_kept_form ["calendar"] := fun _ _ _ _ _ _ us hl => match us, hl with | [_], _ => rfl
abbrev s_least_alike : Stmt := top 29
theorem c_least_alike : FnScope ["first", "step"] ["first", "step"] (defScope s_least_alike) := ⟨rfl, rfl, rfl, by decide +kernel, rfl, by decide +kernel, by decide +kernel⟩
theorem b_least_alike : Bd "least_alike" "least_alike" s_least_alike ["first", "step"] := fun _ _ _ _ _ _ us hl => match us, hl with | [_, _], _ => rfl
abbrev s_lengths_from : Stmt := top 31
theorem c_lengths_from : FnScope ["calendar", "k", "many", "n"] ["calendar", "k", "many"] (defScope s_lengths_from) := ⟨rfl, rfl, rfl, by decide +kernel, rfl, by decide +kernel, by decide +kernel⟩
theorem b_lengths_from : Bd "lengths_from" "lengths_from" s_lengths_from ["calendar", "k", "many"] := fun _ _ _ _ _ _ us hl => match us, hl with | [_, _, _], _ => rfl
abbrev s_days_of : Stmt := top 32
theorem c_days_of : FnScope ["calendar", "k", "many"] ["calendar", "k", "many"] (defScope s_days_of) := ⟨rfl, rfl, rfl, by decide +kernel, rfl, by decide +kernel, by decide +kernel⟩
theorem b_days_of : Bd "days_of" "days_of" s_days_of ["calendar", "k", "many"] := fun _ _ _ _ _ _ us hl => match us, hl with | [_, _, _], _ => rfl
abbrev s_stretches : Stmt := top 33
theorem c_stretches : FnScope ["calendar", "many", "month", "parts", "n", "part"] ["calendar", "many"] (defScope s_stretches) := ⟨rfl, rfl, rfl, by decide +kernel, rfl, by decide +kernel, by decide +kernel⟩
theorem b_stretches : Bd "stretches" "stretches" s_stretches ["calendar", "many"] := fun _ _ _ _ _ _ us hl => match us, hl with | [_, _], _ => rfl
abbrev s_stretch_at : Stmt := top 34
theorem c_stretch_at : FnScope ["month", "part", "many", "n"] ["month", "part", "many"] (defScope s_stretch_at) := ⟨rfl, rfl, rfl, by decide +kernel, rfl, by decide +kernel, by decide +kernel⟩
theorem b_stretch_at : Bd "stretch_at" "stretch_at" s_stretch_at ["month", "part", "many"] := fun _ _ _ _ _ _ us hl => match us, hl with | [_, _, _], _ => rfl
abbrev s_steps : Stmt := top 35
theorem c_steps : FnScope ["days", "day", "behind"] ["days"] (defScope s_steps) := ⟨rfl, rfl, rfl, by decide +kernel, rfl, by decide +kernel, by decide +kernel⟩
theorem b_steps : Bd "steps" "steps" s_steps ["days"] := fun _ _ _ _ _ _ us hl => match us, hl with | [_], _ => rfl
abbrev s_Date_init : Stmt := inClass (top 37) 0
theorem c_Date_init : FnScope ["self", "year", "number", "day", "odd"] ["self", "year", "number", "day", "odd"] (defScope s_Date_init) := ⟨rfl, rfl, rfl, by decide +kernel, rfl, by decide +kernel, by decide +kernel⟩
abbrev s_Date_eq : Stmt := inClass (top 37) 1
theorem c_Date_eq : FnScope ["self", "other"] ["self", "other"] (defScope s_Date_eq) := ⟨rfl, rfl, rfl, by decide +kernel, rfl, by decide +kernel, by decide +kernel⟩
theorem b_Date_eq : Bd "__eq__" "Date.__eq__" s_Date_eq ["self", "other"] := fun _ _ _ _ _ _ us hl => match us, hl with | [_, _], _ => rfl
abbrev s_Date_str : Stmt := inClass (top 37) 2
theorem c_Date_str : FnScope ["self"] ["self"] (defScope s_Date_str) := ⟨rfl, rfl, rfl, by decide +kernel, rfl, by decide +kernel, by decide +kernel⟩
theorem b_Date_str : Bd "__str__" "Date.__str__" s_Date_str ["self"] := fun _ _ _ _ _ _ us hl => match us, hl with | [_], _ => rfl
abbrev s_Date_repr : Stmt := inClass (top 37) 3
theorem c_Date_repr : FnScope ["self"] ["self"] (defScope s_Date_repr) := ⟨rfl, rfl, rfl, by decide +kernel, rfl, by decide +kernel, by decide +kernel⟩
theorem b_Date_repr : Bd "__repr__" "Date.__repr__" s_Date_repr ["self"] := fun _ _ _ _ _ _ us hl => match us, hl with | [_], _ => rfl
abbrev s_two_figures : Stmt := top 38
theorem c_two_figures : FnScope ["number"] ["number"] (defScope s_two_figures) := ⟨rfl, rfl, rfl, by decide +kernel, rfl, by decide +kernel, by decide +kernel⟩
theorem b_two_figures : Bd "two_figures" "two_figures" s_two_figures ["number"] := fun _ _ _ _ _ _ us hl => match us, hl with | [_], _ => rfl
abbrev s_odd_sign : Stmt := top 39
theorem c_odd_sign : FnScope ["odd"] ["odd"] (defScope s_odd_sign) := ⟨rfl, rfl, rfl, by decide +kernel, rfl, by decide +kernel, by decide +kernel⟩
theorem b_odd_sign : Bd "odd_sign" "odd_sign" s_odd_sign ["odd"] := fun _ _ _ _ _ _ us hl => match us, hl with | [_], _ => rfl
abbrev s_plain_month : Stmt := top 40
theorem c_plain_month : FnScope ["calendar", "year", "number"] ["calendar", "year", "number"] (defScope s_plain_month) := ⟨rfl, rfl, rfl, by decide +kernel, rfl, by decide +kernel, by decide +kernel⟩
theorem b_plain_month : Bd "plain_month" "plain_month" s_plain_month ["calendar", "year", "number"] := fun _ _ _ _ _ _ us hl => match us, hl with | [_, _, _], _ => rfl
abbrev s_odd_month : Stmt := top 41
theorem c_odd_month : FnScope ["calendar", "year", "number", "k"] ["calendar", "year", "number"] (defScope s_odd_month) := ⟨rfl, rfl, rfl, by decide +kernel, rfl, by decide +kernel, by decide +kernel⟩
theorem b_odd_month : Bd "odd_month" "odd_month" s_odd_month ["calendar", "year", "number"] := fun _ _ _ _ _ _ us hl => match us, hl with | [_, _, _], _ => rfl
abbrev s_month_of : Stmt := top 42
theorem c_month_of : FnScope ["calendar", "date", "k"] ["calendar", "date"] (defScope s_month_of) := ⟨rfl, rfl, rfl, by decide +kernel, rfl, by decide +kernel, by decide +kernel⟩
theorem b_month_of : Bd "month_of" "month_of" s_month_of ["calendar", "date"] := fun _ _ _ _ _ _ us hl => match us, hl with | [_, _], _ => rfl
abbrev s_date_of : Stmt := top 43
theorem c_date_of : FnScope ["calendar", "day", "k", "year", "number", "odd"] ["calendar", "day"] (defScope s_date_of) := ⟨rfl, rfl, rfl, by decide +kernel, rfl, by decide +kernel, by decide +kernel⟩
theorem b_date_of : Bd "date_of" "date_of" s_date_of ["calendar", "day"] := fun _ _ _ _ _ _ us hl => match us, hl with | [_, _], _ => rfl
abbrev s_day_of : Stmt := top 44
theorem c_day_of : FnScope ["calendar", "date", "k"] ["calendar", "date"] (defScope s_day_of) := ⟨rfl, rfl, rfl, by decide +kernel, rfl, by decide +kernel, by decide +kernel⟩
theorem b_day_of : Bd "day_of" "day_of" s_day_of ["calendar", "date"] := fun _ _ _ _ _ _ us hl => match us, hl with | [_, _], _ => rfl
abbrev s_day_in : Stmt := top 45
theorem c_day_in : FnScope ["calendar", "k", "count"] ["calendar", "k", "count"] (defScope s_day_in) := ⟨rfl, rfl, rfl, by decide +kernel, rfl, by decide +kernel, by decide +kernel⟩
theorem b_day_in : Bd "day_in" "day_in" s_day_in ["calendar", "k", "count"] := fun _ _ _ _ _ _ us hl => match us, hl with | [_, _, _], _ => rfl
abbrev s_later : Stmt := top 46
theorem c_later : FnScope ["calendar", "date", "days", "months", "years", "k", "count"] ["calendar", "date", "days", "months", "years"] (defScope s_later) := ⟨rfl, rfl, rfl, by decide +kernel, rfl, by decide +kernel, by decide +kernel⟩
abbrev s_month_in_year : Stmt := top 47
theorem c_month_in_year : FnScope ["calendar", "year", "number", "odd", "k"] ["calendar", "year", "number", "odd"] (defScope s_month_in_year) := ⟨rfl, rfl, rfl, by decide +kernel, rfl, by decide +kernel, by decide +kernel⟩
theorem b_month_in_year : Bd "month_in_year" "month_in_year" s_month_in_year ["calendar", "year", "number", "odd"] := fun _ _ _ _ _ _ us hl => match us, hl with | [_, _, _, _], _ => rfl
abbrev s_held_in : Stmt := top 48
theorem c_held_in : FnScope ["calendar", "k", "count"] ["calendar", "k", "count"] (defScope s_held_in) := ⟨rfl, rfl, rfl, by decide +kernel, rfl, by decide +kernel, by decide +kernel⟩
theorem b_held_in : Bd "held_in" "held_in" s_held_in ["calendar", "k", "count"] := fun _ _ _ _ _ _ us hl => match us, hl with | [_, _, _], _ => rfl
abbrev s_Year_init : Stmt := inClass (top 50) 0
theorem c_Year_init : FnScope ["self", "calendar", "number", "k", "many", "n"] ["self", "calendar", "number"] (defScope s_Year_init) := ⟨rfl, rfl, rfl, by decide +kernel, rfl, by decide +kernel, by decide +kernel⟩
theorem b_Year_init : Bd "__init__" "Year.__init__" s_Year_init ["self", "calendar", "number"] := fun _ _ _ _ _ _ us hl => match us, hl with | [_, _, _], _ => rfl
abbrev s_Year_days_in : Stmt := inClass (top 50) 1
theorem c_Year_days_in : FnScope ["self"] ["self"] (defScope s_Year_days_in) := ⟨rfl, rfl, rfl, by decide +kernel, rfl, by decide +kernel, by decide +kernel⟩
theorem b_Year_days_in : Bd "days_in" "Year.days_in" s_Year_days_in ["self"] := fun _ _ _ _ _ _ us hl => match us, hl with | [_], _ => rfl
abbrev s_Year_len : Stmt := inClass (top 50) 2
theorem c_Year_len : FnScope ["self"] ["self"] (defScope s_Year_len) := ⟨rfl, rfl, rfl, by decide +kernel, rfl, by decide +kernel, by decide +kernel⟩
theorem b_Year_len : Bd "__len__" "Year.__len__" s_Year_len ["self"] := fun _ _ _ _ _ _ us hl => match us, hl with | [_], _ => rfl
abbrev s_Year_eq : Stmt := inClass (top 50) 3
theorem c_Year_eq : FnScope ["self", "other"] ["self", "other"] (defScope s_Year_eq) := ⟨rfl, rfl, rfl, by decide +kernel, rfl, by decide +kernel, by decide +kernel⟩
theorem b_Year_eq : Bd "__eq__" "Year.__eq__" s_Year_eq ["self", "other"] := fun _ _ _ _ _ _ us hl => match us, hl with | [_, _], _ => rfl
abbrev s_Year_str : Stmt := inClass (top 50) 4
theorem c_Year_str : FnScope ["self", "length", "number", "odd"] ["self"] (defScope s_Year_str) := ⟨rfl, rfl, rfl, by decide +kernel, rfl, by decide +kernel, by decide +kernel⟩
theorem b_Year_str : Bd "__str__" "Year.__str__" s_Year_str ["self"] := fun _ _ _ _ _ _ us hl => match us, hl with | [_], _ => rfl
abbrev s_Year_repr : Stmt := inClass (top 50) 5
theorem c_Year_repr : FnScope ["self"] ["self"] (defScope s_Year_repr) := ⟨rfl, rfl, rfl, by decide +kernel, rfl, by decide +kernel, by decide +kernel⟩
theorem b_Year_repr : Bd "__repr__" "Year.__repr__" s_Year_repr ["self"] := fun _ _ _ _ _ _ us hl => match us, hl with | [_], _ => rfl
abbrev s_first_day : Stmt := top 51
theorem c_first_day : FnScope ["calendar", "year"] ["calendar", "year"] (defScope s_first_day) := ⟨rfl, rfl, rfl, by decide +kernel, rfl, by decide +kernel, by decide +kernel⟩
theorem b_first_day : Bd "first_day" "first_day" s_first_day ["calendar", "year"] := fun _ _ _ _ _ _ us hl => match us, hl with | [_, _], _ => rfl
abbrev s_year_with : Stmt := top 52
theorem c_year_with : FnScope ["calendar", "day"] ["calendar", "day"] (defScope s_year_with) := ⟨rfl, rfl, rfl, by decide +kernel, rfl, by decide +kernel, by decide +kernel⟩
theorem b_year_with : Bd "year_with" "year_with" s_year_with ["calendar", "day"] := fun _ _ _ _ _ _ us hl => match us, hl with | [_, _], _ => rfl
abbrev s_months_in : Stmt := top 53
theorem c_months_in : FnScope ["calendar", "year"] ["calendar", "year"] (defScope s_months_in) := ⟨rfl, rfl, rfl, by decide +kernel, rfl, by decide +kernel, by decide +kernel⟩
theorem b_months_in : Bd "months_in" "months_in" s_months_in ["calendar", "year"] := fun _ _ _ _ _ _ us hl => match us, hl with | [_, _], _ => rfl
abbrev s_odd_number : Stmt := top 54
theorem c_odd_number : FnScope ["names", "number", "odd"] ["names"] (defScope s_odd_number) := ⟨rfl, rfl, rfl, by decide +kernel, rfl, by decide +kernel, by decide +kernel⟩
theorem b_odd_number : Bd "odd_number" "odd_number" s_odd_number ["names"] := fun _ _ _ _ _ _ us hl => match us, hl with | [_], _ => rfl
abbrev s_odd_years : Stmt := top 55
theorem c_odd_years : FnScope ["calendar", "first", "many", "year"] ["calendar", "first", "many"] (defScope s_odd_years) := ⟨rfl, rfl, rfl, by decide +kernel, rfl, by decide +kernel, by decide +kernel⟩
theorem b_odd_years : Bd "odd_years" "odd_years" s_odd_years ["calendar", "first", "many"] := fun _ _ _ _ _ _ us hl => match us, hl with | [_, _, _], _ => rfl
abbrev s_carried : Stmt := top 57
theorem c_carried : FnScope ["one", "two", "date"] ["one", "two", "date"] (defScope s_carried) := ⟨rfl, rfl, rfl, by decide +kernel, rfl, by decide +kernel, by decide +kernel⟩
theorem b_carried : Bd "carried" "carried" s_carried ["one", "two", "date"] := fun _ _ _ _ _ _ us hl => match us, hl with | [_, _, _], _ => rfl
abbrev s_starts_together : Stmt := top 58
theorem c_starts_together : FnScope ["one", "two", "first", "many", "days", "year", "day"] ["one", "two", "first", "many"] (defScope s_starts_together) := ⟨rfl, rfl, rfl, by decide +kernel, rfl, by decide +kernel, by decide +kernel⟩
theorem b_starts_together : Bd "starts_together" "starts_together" s_starts_together ["one", "two", "first", "many"] := fun _ _ _ _ _ _ us hl => match us, hl with | [_, _, _, _], _ => rfl
abbrev s_Feast_init : Stmt := inClass (top 60) 0
theorem c_Feast_init : FnScope ["self", "name", "number", "day", "when"] ["self", "name", "number", "day", "when"] (defScope s_Feast_init) := ⟨rfl, rfl, rfl, by decide +kernel, rfl, by decide +kernel, by decide +kernel⟩
abbrev s_feast_months : Stmt := top 61
theorem c_feast_months : FnScope ["calendar", "feast", "year", "months", "k"] ["calendar", "feast", "year"] (defScope s_feast_months) := ⟨rfl, rfl, rfl, by decide +kernel, rfl, by decide +kernel, by decide +kernel⟩
theorem b_feast_months : Bd "feast_months" "feast_months" s_feast_months ["calendar", "feast", "year"] := fun _ _ _ _ _ _ us hl => match us, hl with | [_, _, _], _ => rfl
abbrev s_feast_days : Stmt := top 62
theorem c_feast_days : FnScope ["calendar", "feast", "year", "months", "k"] ["calendar", "feast", "year"] (defScope s_feast_days) := ⟨rfl, rfl, rfl, by decide +kernel, rfl, by decide +kernel, by decide +kernel⟩
theorem b_feast_days : Bd "feast_days" "feast_days" s_feast_days ["calendar", "feast", "year"] := fun _ _ _ _ _ _ us hl => match us, hl with | [_, _, _], _ => rfl
abbrev s_whole_round : Stmt := top 64
theorem c_whole_round : FnScope ["calendar", "month", "year", "days"] ["calendar"] (defScope s_whole_round) := ⟨rfl, rfl, rfl, by decide +kernel, rfl, by decide +kernel, by decide +kernel⟩
theorem b_whole_round : Bd "whole_round" "whole_round" s_whole_round ["calendar"] := fun _ _ _ _ _ _ us hl => match us, hl with | [_], _ => rfl
abbrev s_near_rounds : Stmt := top 65
theorem c_near_rounds : FnScope ["calendar", "most", "months_for", "years", "months"] ["calendar", "most"] (defScope s_near_rounds) := ⟨rfl, rfl, rfl, by decide +kernel, rfl, by decide +kernel, by decide +kernel⟩
theorem b_near_rounds : Bd "near_rounds" "near_rounds" s_near_rounds ["calendar", "most"] := fun _ _ _ _ _ _ us hl => match us, hl with | [_, _], _ => rfl
abbrev s_lack : Stmt := top 66
theorem c_lack : FnScope ["calendar", "years", "months"] ["calendar", "years", "months"] (defScope s_lack) := ⟨rfl, rfl, rfl, by decide +kernel, rfl, by decide +kernel, by decide +kernel⟩
theorem b_lack : Bd "lack" "lack" s_lack ["calendar", "years", "months"] := fun _ _ _ _ _ _ us hl => match us, hl with | [_, _, _], _ => rfl
abbrev s_nearest_months : Stmt := top 67
theorem c_nearest_months : FnScope ["ratio", "most", "one", "two", "years", "months", "fewer_years", "fewer_months", "months_for", "part"] ["ratio", "most"] (defScope s_nearest_months) := ⟨rfl, rfl, rfl, by decide +kernel, rfl, by decide +kernel, by decide +kernel⟩
theorem b_nearest_months : Bd "nearest_months" "nearest_months" s_nearest_months ["ratio", "most"] := fun _ _ _ _ _ _ us hl => match us, hl with | [_, _], _ => rfl
abbrev s_Shifted_init : Stmt := inClass (top 69) 0
theorem c_Shifted_init : FnScope ["self", "calendar", "rules"] ["self", "calendar", "rules"] (defScope s_Shifted_init) := ⟨rfl, rfl, rfl, by decide +kernel, rfl, by decide +kernel, by decide +kernel⟩
theorem b_Shifted_init : Bd "__init__" "Shifted.__init__" s_Shifted_init ["self", "calendar", "rules"] := fun _ _ _ _ _ _ us hl => match us, hl with | [_, _, _], _ => rfl
abbrev s_Shifted_new_year : Stmt := inClass (top 69) 1
theorem c_Shifted_new_year : FnScope ["self", "year", "day", "rule"] ["self", "year"] (defScope s_Shifted_new_year) := ⟨rfl, rfl, rfl, by decide +kernel, rfl, by decide +kernel, by decide +kernel⟩
theorem b_Shifted_new_year : Bd "new_year" "Shifted.new_year" s_Shifted_new_year ["self", "year"] := fun _ _ _ _ _ _ us hl => match us, hl with | [_, _], _ => rfl
abbrev s_Shifted_length_of : Stmt := inClass (top 69) 2
theorem c_Shifted_length_of : FnScope ["self", "year"] ["self", "year"] (defScope s_Shifted_length_of) := ⟨rfl, rfl, rfl, by decide +kernel, rfl, by decide +kernel, by decide +kernel⟩
theorem b_Shifted_length_of : Bd "length_of" "Shifted.length_of" s_Shifted_length_of ["self", "year"] := fun _ _ _ _ _ _ us hl => match us, hl with | [_, _], _ => rfl
abbrev s_Shifted_year_at : Stmt := inClass (top 69) 3
theorem c_Shifted_year_at : FnScope ["self", "day"] ["self", "day"] (defScope s_Shifted_year_at) := ⟨rfl, rfl, rfl, by decide +kernel, rfl, by decide +kernel, by decide +kernel⟩
theorem b_Shifted_year_at : Bd "year_at" "Shifted.year_at" s_Shifted_year_at ["self", "day"] := fun _ _ _ _ _ _ us hl => match us, hl with | [_, _], _ => rfl
abbrev s_Shifted_comes : Stmt := inClass (top 69) 4
theorem c_Shifted_comes : FnScope ["self", "first", "many", "lengths", "first_with", "at", "length", "year"] ["self", "first", "many"] (defScope s_Shifted_comes) := ⟨rfl, rfl, rfl, by decide +kernel, rfl, by decide +kernel, by decide +kernel⟩
theorem b_Shifted_comes : Bd "comes" "Shifted.comes" s_Shifted_comes ["self", "first", "many"] := fun _ _ _ _ _ _ us hl => match us, hl with | [_, _, _], _ => rfl
abbrev s_l_draws : Stmt := top 71
theorem c_l_draws : FnScope ["_law_cell", "_law_cut", "_law_k"] ["_law_cell"] (defScope s_l_draws) := ⟨rfl, rfl, rfl, by decide +kernel, rfl, by decide +kernel, by decide +kernel⟩
theorem b_l_draws : Bd "_law_draws" "_law_draws" s_l_draws ["_law_cell"] := fun _ _ _ _ _ _ us hl => match us, hl with | [_], _ => rfl
abbrev s_l_next : Stmt := top 72
theorem c_l_next : FnScope ["_law_draws_here", "_law_k", "_law_number"] ["_law_draws_here"] (defScope s_l_next) := ⟨rfl, rfl, rfl, by decide +kernel, rfl, by decide +kernel, by decide +kernel⟩
theorem b_l_next : Bd "_law_next" "_law_next" s_l_next ["_law_draws_here"] := fun _ _ _ _ _ _ us hl => match us, hl with | [_], _ => rfl
abbrev s_l_low : Stmt := top 73
theorem c_l_low : FnScope ["_law_top", "_law_bottom", "_law_one", "_law_two"] ["_law_top", "_law_bottom"] (defScope s_l_low) := ⟨rfl, rfl, rfl, by decide +kernel, rfl, by decide +kernel, by decide +kernel⟩
theorem b_l_low : Bd "_law_low" "_law_low" s_l_low ["_law_top", "_law_bottom"] := fun _ _ _ _ _ _ us hl => match us, hl with | [_, _], _ => rfl
abbrev s_l_plus : Stmt := top 74
theorem c_l_plus : FnScope ["_law_one", "_law_two"] ["_law_one", "_law_two"] (defScope s_l_plus) := ⟨rfl, rfl, rfl, by decide +kernel, rfl, by decide +kernel, by decide +kernel⟩
theorem b_l_plus : Bd "_law_plus" "_law_plus" s_l_plus ["_law_one", "_law_two"] := fun _ _ _ _ _ _ us hl => match us, hl with | [_, _], _ => rfl
abbrev s_l_by : Stmt := top 75
theorem c_l_by : FnScope ["_law_one", "_law_two"] ["_law_one", "_law_two"] (defScope s_l_by) := ⟨rfl, rfl, rfl, by decide +kernel, rfl, by decide +kernel, by decide +kernel⟩
theorem b_l_by : Bd "_law_by" "_law_by" s_l_by ["_law_one", "_law_two"] := fun _ _ _ _ _ _ us hl => match us, hl with | [_, _], _ => rfl
abbrev s_l_part : Stmt := top 76
theorem c_l_part : FnScope ["_law_draws_here", "_law_pick", "_law_far", "_law_bottom"] ["_law_draws_here"] (defScope s_l_part) := ⟨rfl, rfl, rfl, by decide +kernel, rfl, by decide +kernel, by decide +kernel⟩
theorem b_l_part : Bd "_law_part" "_law_part" s_l_part ["_law_draws_here"] := fun _ _ _ _ _ _ us hl => match us, hl with | [_], _ => rfl
abbrev s_l_moment : Stmt := top 77
theorem c_l_moment : FnScope ["_law_draws_here", "_law_part_here", "_law_pick", "_law_far"] ["_law_draws_here"] (defScope s_l_moment) := ⟨rfl, rfl, rfl, by decide +kernel, rfl, by decide +kernel, by decide +kernel⟩
theorem b_l_moment : Bd "_law_moment" "_law_moment" s_l_moment ["_law_draws_here"] := fun _ _ _ _ _ _ us hl => match us, hl with | [_], _ => rfl
abbrev s_l_four : Stmt := top 78
theorem c_l_four : FnScope ["_law_draws_here", "_law_pick", "_law_told", "_law_lune", "_law_sun", "_law_w", "_law_s", "_law_r"] ["_law_draws_here"] (defScope s_l_four) := ⟨rfl, rfl, rfl, by decide +kernel, rfl, by decide +kernel, by decide +kernel⟩
theorem b_l_four : Bd "_law_four" "_law_four" s_l_four ["_law_draws_here"] := fun _ _ _ _ _ _ us hl => match us, hl with | [_], _ => rfl
abbrev s_l_floor : Stmt := top 79
theorem c_l_floor : FnScope ["_law_fraction"] ["_law_fraction"] (defScope s_l_floor) := ⟨rfl, rfl, rfl, by decide +kernel, rfl, by decide +kernel, by decide +kernel⟩
theorem b_l_floor : Bd "_law_floor" "_law_floor" s_l_floor ["_law_fraction"] := fun _ _ _ _ _ _ us hl => match us, hl with | [_], _ => rfl
abbrev s_l_start : Stmt := top 80
theorem c_l_start : FnScope ["_law_four_here", "_law_k"] ["_law_four_here", "_law_k"] (defScope s_l_start) := ⟨rfl, rfl, rfl, by decide +kernel, rfl, by decide +kernel, by decide +kernel⟩
theorem b_l_start : Bd "_law_start" "_law_start" s_l_start ["_law_four_here", "_law_k"] := fun _ _ _ _ _ _ us hl => match us, hl with | [_, _], _ => rfl
abbrev s_l_day : Stmt := top 81
theorem c_l_day : FnScope ["_law_draws_here", "_law_pick", "_law_some"] ["_law_draws_here"] (defScope s_l_day) := ⟨rfl, rfl, rfl, by decide +kernel, rfl, by decide +kernel, by decide +kernel⟩
theorem b_l_day : Bd "_law_day" "_law_day" s_l_day ["_law_draws_here"] := fun _ _ _ _ _ _ us hl => match us, hl with | [_], _ => rfl
abbrev s_l_made : Stmt := top 82
theorem c_l_made : FnScope ["_law_four_here", "_law_way", "_law_lune", "_law_sun", "_law_come", "_law_begun", "_law_top", "_law_bottom"] ["_law_four_here", "_law_way"] (defScope s_l_made) := ⟨rfl, rfl, rfl, by decide +kernel, rfl, by decide +kernel, by decide +kernel⟩
theorem b_l_made : Bd "_law_made" "_law_made" s_l_made ["_law_four_here", "_law_way"] := fun _ _ _ _ _ _ us hl => match us, hl with | [_, _], _ => rfl
abbrev s_l_down : Stmt := top 83
theorem c_l_down : FnScope ["_law_fraction", "_law_bottom"] ["_law_fraction", "_law_bottom"] (defScope s_l_down) := ⟨rfl, rfl, rfl, by decide +kernel, rfl, by decide +kernel, by decide +kernel⟩
theorem b_l_down : Bd "_law_down" "_law_down" s_l_down ["_law_fraction", "_law_bottom"] := fun _ _ _ _ _ _ us hl => match us, hl with | [_, _], _ => rfl
abbrev s_l_within : Stmt := top 84
theorem c_l_within : FnScope ["_law_draws_here", "_law_fraction", "_law_bottom", "_law_low_here", "_law_part_here"] ["_law_draws_here", "_law_fraction", "_law_bottom"] (defScope s_l_within) := ⟨rfl, rfl, rfl, by decide +kernel, rfl, by decide +kernel, by decide +kernel⟩
theorem b_l_within : Bd "_law_within" "_law_within" s_l_within ["_law_draws_here", "_law_fraction", "_law_bottom"] := fun _ _ _ _ _ _ us hl => match us, hl with | [_, _, _], _ => rfl
abbrev s_l_fits : Stmt := top 85
theorem c_l_fits : FnScope ["_law_four_here", "_law_top", "_law_bottom"] ["_law_four_here"] (defScope s_l_fits) := ⟨rfl, rfl, rfl, by decide +kernel, rfl, by decide +kernel, by decide +kernel⟩
theorem b_l_fits : Bd "_law_fits" "_law_fits" s_l_fits ["_law_four_here"] := fun _ _ _ _ _ _ us hl => match us, hl with | [_], _ => rfl
abbrev s_l_shifted : Stmt := top 86
theorem c_l_shifted : FnScope ["_law_draws_here", "_law_four_here", "_law_lune", "_law_sun", "_law_come", "_law_begun", "_law_other", "_law_told"] ["_law_draws_here", "_law_four_here"] (defScope s_l_shifted) := ⟨rfl, rfl, rfl, by decide +kernel, rfl, by decide +kernel, by decide +kernel⟩
theorem b_l_shifted : Bd "_law_shifted" "_law_shifted" s_l_shifted ["_law_draws_here", "_law_four_here"] := fun _ _ _ _ _ _ us hl => match us, hl with | [_, _], _ => rfl
abbrev s_l_days_right : Stmt := top 87
theorem c_l_days_right : FnScope ["_law_one", "_law_two", "_law_at", "_law_more", "_law_date", "_law_k", "_law_by_here", "_law_j"] ["_law_one", "_law_two", "_law_at", "_law_more"] (defScope s_l_days_right) := ⟨rfl, rfl, rfl, by decide +kernel, rfl, by decide +kernel, by decide +kernel⟩
theorem b_l_days_right : Bd "_law_days_right" "_law_days_right" s_l_days_right ["_law_one", "_law_two", "_law_at", "_law_more"] := fun _ _ _ _ _ _ us hl => match us, hl with | [_, _, _, _], _ => rfl
abbrev s_l_years_right : Stmt := top 88
theorem c_l_years_right : FnScope ["_law_one", "_law_two", "_law_number", "_law_feast", "_law_shifts", "_law_near", "_law_made_here", "_law_k"] ["_law_one", "_law_two", "_law_number"] (defScope s_l_years_right) := ⟨rfl, rfl, rfl, by decide +kernel, rfl, by decide +kernel, by decide +kernel⟩
theorem b_l_years_right : Bd "_law_years_right" "_law_years_right" s_l_years_right ["_law_one", "_law_two", "_law_number"] := fun _ _ _ _ _ _ us hl => match us, hl with | [_, _, _], _ => rfl
abbrev s_law : Stmt := top 89
theorem c_law : FnScope ["_law_script", "_law_cell", "_law_draws_here", "_law_four_here", "_law_one", "_law_two", "_law_k"] ["_law_script"] (defScope s_law) := ⟨rfl, rfl, rfl, by decide +kernel, rfl, by decide +kernel, by decide +kernel⟩
theorem b_law : Bd "law" "law" s_law ["_law_script"] := fun _ _ _ _ _ _ us hl => match us, hl with | [_], _ => rfl
/-! ### the greatest common divisor -/
def spGcd : Sp := fun vs H Q _ => ∃ a b : Int, vs = [.int a, .int b] ∧ Q (.int (Int.gcd a b)) H
def mu2 (i : Nat) : L2.St → Hp → Nat := fun σ _ => match σ[i]? with
  | some (some (.int b)) => b.natAbs
  | _ => 0
theorem abs_gcd {a : Int} (c : Int) (h : Int.gcd a 0 = c) : (if a < 0 then -a else a) = c := by
  rw [Int.gcd_zero_right] at h
  split <;> omega
section
variable {P : Program} {w : World} {K : PySem.W.Frag} {mg : Str → Option Value} {base : Heap}
theorem ok_gcd (D : Df K mg "common_divisor" s_common_divisor []) (hab : mg "abs" = none) : Ca P w K mg base CX0 1 "common_divisor" s_common_divisor [] ["one", "two"] spGcd := by
  refine ca0 (k := 0) D c_common_divisor (fun vs H Q E h => ?_) fun f cdv A outer s H vs Q E hr h => ?_
  · obtain ⟨a, b, rfl, _⟩ := h
    rfl
  · obtain ⟨a, b, rfl, q⟩ := h
    refine ⟨_, pss_cons (ps_while PassesOwn.never (pt_cmpR op_ne (pv 1) pe_int (nomark _)) (pss_one (ps_par (i := 0) (j := 1) rfl c_common_divisor.nd rfl rfl (by decide) rfl rfl (pa_cons (pv 1) (pa_cons (pe_op op_modN (pv 0) (pv 1)) pa_nil)) rfl)))
      (pss_one (ps_ret (pe_callB call_abs rfl hab (by decide +kernel) (pa_cons (pv 0) pa_nil)))), ?_⟩
    refine while_by (fun σ H' => ∃ a' b' : Int, σ = [some (.int a'), some (.int b')] ∧ Int.gcd a' b' = Int.gcd a b ∧ H' = H) (mu2 1) ⟨a, b, rfl, rfl, rfl⟩ ?_ (fun σ H' R R' hq ⟨v, h1, h2, k, h3, h4⟩ => ⟨v, h1, h2, k, h3, hq _ _ h4⟩)
    rintro σ H' ⟨a', b', rfl, hg, rfl⟩
    refine ⟨_, rfl, rfl, _, rfl, ?_⟩
    by_cases hb : b' = 0
    · subst hb
      refine iteF ?_
      refine ⟨_, rfl, a', rfl, ?_⟩
      rw [abs_gcd _ (congrArg _ hg)]
      exact q
    · rw [show (!decide (V.int b' = V.int 0)) = true by simpa using hb]
      refine iteT ?_
      refine ⟨_, rfl, _, rfl, _, rfl, _, _, rfl, rfl, hb, _, _, rfl, ⟨b', a'.fmod b', rfl, ?_, rfl⟩, ?_⟩
      · rw [gcd_fmod]
        exact hg
      · exact fmod_lt a' hb
end
/-! ### lowest terms, as the law makes them -/
def spLow : Sp := fun vs H Q _ => ∃ t b : Int, vs = [.int t, .int b] ∧ b ≠ 0 ∧ Sz 8800 t ∧ Sz 8800 b ∧ ∀ p, H p = none → Q (.ref p) (upd H p (.tup [.int (Rat.divInt t b).num, .int (Rat.divInt t b).den]))
theorem gcd_sz {t b : Int} (h : b ≠ 0) (hb : Sz 8800 b) : Sz 8800 (Int.gcd t b : Int) := by
  unfold Sz
  rw [Int.natAbs_natCast]
  exact Nat.lt_of_le_of_lt (Nat.le_of_dvd (by omega) (Int.gcd_dvd_natAbs_right t b)) hb
theorem gs_sz {t b : Int} (h : b ≠ 0) (hb : Sz 8800 b) : Sz 8900 (gs t b) := by
  unfold gs
  split
  · exact (gcd_sz h hb).neg.mono (by decide)
  · exact (gcd_sz h hb).mono (by decide)
section
variable {P : Program} {w : World} {K : PySem.W.Frag} {mg : Str → Option Value} {base : Heap}
theorem ok_low (D : Df K mg "_law_low" s_l_low []) (hab : mg "abs" = none) : Ca P w K mg base CX0 1 "_law_low" s_l_low [] ["_law_top", "_law_bottom"] spLow := by
  refine ca0 (k := 0) D c_l_low (fun vs H Q E h => ?_) fun f cdv A outer s H vs Q E hr h => ?_
  · obtain ⟨t, b, rfl, _⟩ := h
    rfl
  · obtain ⟨t, b, rfl, hb, zt, zb, q⟩ := h
    refine ⟨_, pss_cons (ps_par (i := 2) (j := 3) rfl c_l_low.nd rfl rfl (by decide) rfl rfl (pa_cons (pe_callB call_abs rfl hab (by decide +kernel) (pa_cons (pv 0) pa_nil)) (pa_cons (pe_callB call_abs rfl hab (by decide +kernel) (pa_cons (pv 1) pa_nil)) pa_nil)) rfl)
      (pss_cons (ps_while PassesOwn.never (pt_cmpR op_gt (pv 3) pe_int (nomark _)) (pss_one (ps_par (i := 2) (j := 3) rfl c_l_low.nd rfl rfl (by decide) rfl rfl (pa_cons (pv 3) (pa_cons (pe_op op_mod (pv 2) (pv 3)) pa_nil)) rfl)))
      (pss_cons (ps_if (pt_cmpR op_lt (pv 1) pe_int (nomark _)) (pss_one (ps_set (i := 2) c_l_low.nd rfl (.inl rfl) (pe_op op_sub pe_int (pv 2)))) pss_nil)
      (pss_one (ps_ret (pe_tup (pa_cons (pe_op op_fdivA (pv 0) (pv 2)) (pa_cons (pe_op op_fdivA (pv 1) (pv 2)) pa_nil))))))), ?_⟩
    refine ⟨_, rfl, t, rfl, _, rfl, b, rfl, _, _, rfl, ?_⟩
    refine while_by (fun σ H' => ∃ c d : Int, σ = [some (.int t), some (.int b), some (.int c), some (.int d)] ∧ 0 ≤ c ∧ 0 ≤ d ∧ Int.gcd c d = Int.gcd t b ∧ H' = H) (mu2 3) ⟨_, _, rfl, ?_, ?_, ?_, rfl⟩ ?_ (fun σ H' R R' hq ⟨v, h1, i, j, h2, h3, k, h4, h5⟩ => ⟨v, h1, i, j, h2, h3, k, h4, hq _ _ h5⟩)
    · split <;> omega
    · split <;> omega
    · have e : ∀ x : Int, (if x < 0 then -x else x) = (x.natAbs : Int) := fun x => by split <;> omega
      rw [e, e]
      show Nat.gcd _ _ = Nat.gcd _ _
      rw [Int.natAbs_natCast, Int.natAbs_natCast]
    rintro σ H' ⟨c, d, rfl, hc, hd, hg, rfl⟩
    refine ⟨_, rfl, _, _, rfl, rfl, _, rfl, ?_⟩
    by_cases h0 : 0 < d
    · rw [decide_eq_true h0]
      refine iteT ?_
      refine ⟨_, rfl, _, rfl, _, rfl, _, _, rfl, rfl, h0, _, _, rfl, ⟨d, c % d, rfl, hd, Int.emod_nonneg _ (by omega), ?_, rfl⟩, ?_⟩
      · rw [gcd_emod']
        exact hg
      · have h1 := Int.emod_nonneg c (show d ≠ 0 by omega)
        have h2 := Int.emod_lt_of_pos c h0
        show (c % d).natAbs < d.natAbs
        omega
    · rw [decide_eq_false h0]
      refine iteF ?_
      have d0 : d = 0 := by omega
      subst d0
      have ec : c = (Int.gcd t b : Int) := by
        rw [← hg, Int.gcd_zero_right]
        omega
      subst ec
      have fin : ∀ σ' : L2.St, σ' = [some (.int t), some (.int b), some (.int (gs t b)), some (.int 0)] → (tRet (tTup (tCons (tOp (rI CDivA fun i j => .int (i.fdiv j)) (tVar 0) (tVar 2)) (tCons (tOp (rI CDivA fun i j => .int (i.fdiv j)) (tVar 1) (tVar 2)) tNil)))) { nx := fun _ H' => Q .non H', rt := Q } σ' H' := by
        rintro σ' rfl
        refine ⟨_, rfl, _, rfl, _, _, rfl, rfl, ⟨gs_ne hb, gs_sz hb zb⟩, _, rfl, _, rfl, _, _, rfl, rfl, ⟨gs_ne hb, gs_sz hb zb⟩, (by show 2 ≤ sizeLine; decide), fun p hp => ?_⟩
        have z := q p hp
        rw [← low_num hb, ← low_den hb] at z
        exact z
      refine ⟨_, rfl, _, _, rfl, rfl, _, rfl, ?_⟩
      by_cases hn : b < 0
      · rw [decide_eq_true hn]
        refine iteT ?_
        refine ⟨_, rfl, _, _, rfl, rfl, fin _ ?_⟩
        show [some (V.int t), some (V.int b), some (V.int (0 - (Int.gcd t b : Int))), some (V.int 0)] = _
        unfold gs
        rw [if_pos hn, Int.zero_sub]
      · rw [decide_eq_false hn]
        refine iteF (fin _ ?_)
        unfold gs
        rw [if_neg hn]
end
/-! ### the law's draws -/
theorem md {j : Int} (h : 0 < j := by decide) : 0 < j := h
/-- at l stand draws, of which at most n were taken -/
def Dr (H : Hp) (l : Addr) (n : Nat) : Prop := ∃ (d k : Int) (f : Bool), H l = some (.lst [.int d, .int k, .bl f]) ∧ 0 ≤ k ∧ k ≤ n
/-- all but what stands at l is as it was -/
def But (l : Addr) (H H' : Hp) : Prop := ∀ b o, b ≠ l → H b = some o → H' b = some o
theorem But.refl {l : Addr} {H : Hp} : But l H H := fun _ _ _ h => h
theorem But.trans {l : Addr} {H H1 H2 : Hp} (a : But l H H1) (b : But l H1 H2) : But l H H2 := fun c o hc h => b c o hc (a c o hc h)
theorem But.same {l : Addr} {H H1 : Hp} (a : Same H H1) : But l H H1 := fun c o _ h => a c o h
theorem But.upd {l : Addr} {H H1 : Hp} {p : Addr} {o : HO} (a : But l H H1) (h : H1 p = none) : But l H (upd H1 p o) := fun c u hc e => by
  rw [upd_ne (ne_of_none (a c u hc e) h)]
  exact a c u hc e
theorem But.tup {l p : Addr} {H H1 : Hp} {n : Nat} {xs : List V} (a : But l H H1) (d : Dr H l n) (h : H p = some (.tup xs)) : H1 p = some (.tup xs) := by
  obtain ⟨_, _, _, hl, _⟩ := d
  exact a _ _ (ne_of h hl (by intro z; cases z)) h
theorem But.ins {l p C dx : Addr} {H H1 : Hp} {n : Nat} {fs : List (Str × V)} (a : But l H H1) (d : Dr H l n) (h : H p = some (.ins C dx fs)) : H1 p = some (.ins C dx fs) := by
  obtain ⟨_, _, _, hl, _⟩ := d
  exact a _ _ (ne_of h hl (by intro z; cases z)) h
theorem Same.upd {H H1 : Hp} {p : Addr} {o : HO} (a : Same H H1) (h : H1 p = none) : Same H (upd H1 p o) := fun c u e => by
  rw [upd_ne (ne_of_none (a c u e) h)]
  exact a c u e
theorem Same.new {H : Hp} {p : Addr} {o : HO} (h : H p = none) : Same H (L2.upd H p o) := Same.upd (Same.refl H) h
theorem Dr.same {H H1 : Hp} {l : Addr} {n m : Nat} (d : Dr H l n) (s : Same H H1) (h : n ≤ m) : Dr H1 l m := by
  obtain ⟨d, k, f, hl, h1, h2⟩ := d
  exact ⟨d, k, f, s _ _ hl, h1, by omega⟩
theorem Dr.mono {H : Hp} {l : Addr} {n m : Nat} (d : Dr H l n) (h : n ≤ m) : Dr H l m := d.same (Same.refl H) h
theorem Dr.new {H : Hp} {l p : Addr} {n : Nat} {o : HO} (d : Dr H l n) (h : H p = none) : Dr (L2.upd H p o) l n := d.same (Same.new h) (Nat.le_refl _)
def spDraws : Sp := fun vs H Q _ => ∃ c : Int, vs = [.int c] ∧ ∀ p H', H p = none → Same H H' → Dr H' p 0 → Q (.ref p) H'
def spNext : Sp := fun vs H Q _ => ∃ (l : Addr) (n : Nat), vs = [.ref l] ∧ Dr H l n ∧ n ≤ 1000000 ∧ ∀ v H', 0 ≤ v → v < 306783369 → But l H H' → Dr H' l (n + 1) → Q (.int v) H'
section
variable {P : Program} {w : World} {K : PySem.W.Frag} {mg : Str → Option Value} {base : Heap}
theorem ok_draws (D : Df K mg "_law_draws" s_l_draws []) (hra : mg "range" = none) : Ca P w K mg base CX0 1 "_law_draws" s_l_draws [] ["_law_cell"] spDraws := by
  refine ca0 (k := 0) D c_l_draws (fun vs H Q E h => ?_) fun f cdv A outer s H vs Q E hr h => ?_
  · obtain ⟨c, rfl, _⟩ := h
    rfl
  · obtain ⟨c, rfl, q⟩ := h
    refine ⟨_, pss_cons (ps_set (i := 1) c_l_draws.nd rfl (.inl rfl) (pe_op op_pow pe_int pe_int))
      (pss_cons (ps_for PassesOwn.never rfl (pi_range1 rfl hra (pa_cons pe_int pa_nil)) (pg_name (i := 2) c_l_draws.nd rfl (.inl rfl)) (pss_one (ps_set (i := 1) c_l_draws.nd rfl (.inl rfl) (pe_op op_mulA (pv 1) (pv 1)))))
      (pss_one (ps_ret (pe_lst (pa_cons (pe_op op_mod (pv 0) (pv 1)) (pa_cons pe_int (pa_cons (pe_cmpR op_ge (pv 0) (pe_op op_pow pe_int pe_int) (nomark _)) pa_nil))))))), ?_⟩
    refine ⟨_, _, rfl, rfl, ⟨by decide, by decide, by decide⟩, 7, rfl, by decide, by decide, ?_⟩
    refine for_range (n := 7) (fun i σ H' => ∃ (z : Int) (v : Option V), σ = [some (.int c), some (.int z), v] ∧ 0 < z ∧ Sz (200 * 2 ^ i) z ∧ H' = H) ⟨_, _, rfl, by decide, (by show (10 ^ 60 : Int).natAbs < 2 ^ (200 * 2 ^ 0); decide), rfl⟩ ?_ ?_
    · rintro i σ H' hi ⟨z, v, rfl, h0, hz, rfl⟩
      have l1 : 2 ^ i ≤ 2 ^ 6 := Nat.pow_le_pow_right (by decide) (by omega)
      have hz' : Sz 100000 z := hz.mono (Nat.le_trans (Nat.mul_le_mul_left 200 l1) (by decide))
      refine ⟨_, rfl, _, rfl, _, _, rfl, rfl, ⟨hz', hz'⟩, ⟨z * z, _, rfl, Int.mul_pos h0 h0, ?_, rfl⟩⟩
      exact (hz.mul hz).mono (by rw [Nat.pow_succ]; omega)
    · rintro σ H' ⟨z, v, rfl, h0, hz, rfl⟩
      refine ⟨_, rfl, _, rfl, _, _, rfl, rfl, h0, _, rfl, _, _, rfl, rfl, ⟨by decide, by decide, by decide⟩, _, _, rfl, rfl, (by show 3 ≤ sizeLine; decide), fun p hp => ?_⟩
      exact q p _ hp (Same.new hp) ⟨_, _, _, upd_same, by decide, by decide⟩
end
section
variable {P : Program} {w : World} {K : PySem.W.Frag} {mg : Str → Option Value} {base : Heap}
theorem ok_next (D : Df K mg "_law_next" s_l_next []) : Ca P w K mg base CX0 1 "_law_next" s_l_next [] ["_law_draws_here"] spNext := by
  refine ca0 (k := 0) D c_l_next (fun vs H Q E h => ?_) fun f cdv A outer s H vs Q E hr h => ?_
  · obtain ⟨l, n, rfl, _⟩ := h
    rfl
  · obtain ⟨l, n, rfl, ⟨d, k, fl, hl, k0, k1⟩, hn, q⟩ := h
    refine ⟨_, pss_cons (ps_asg (pe_op op_add (pe_ix ix_list (pv 0) pe_int (fun _ _ => rfl)) pe_int) (pg_sub (pv 0) pe_int set_list))
      (pss_cons (ps_set (i := 1) c_l_next.nd rfl (.inl rfl) (pe_ix ix_list (pv 0) pe_int (fun _ _ => rfl)))
      (pss_cons (ps_if (pt_val (pe_ix ix_list (pv 0) pe_int (fun _ _ => rfl)))
        (pss_cons (ps_set (i := 2) c_l_next.nd rfl (.inl rfl) (pe_op op_mod (pe_ix ix_list (pv 0) pe_int (fun _ _ => rfl)) (pe_op op_pow pe_int pe_int)))
        (pss_cons (ps_asg (pe_op op_fdiv (pe_ix ix_list (pv 0) pe_int (fun _ _ => rfl)) (pe_op op_pow pe_int pe_int)) (pg_sub (pv 0) pe_int set_list))
        (pss_one (ps_ret (pv 2))))) pss_nil)
      (pss_cons (ps_set (i := 2) c_l_next.nd rfl (.inl rfl) (pe_op op_mod (pe_op op_mul (pe_op op_add (pe_op op_add (pe_op op_mod (pe_ix ix_list (pv 0) pe_int (fun _ _ => rfl)) pe_int) (pe_op op_mul (pe_op op_mul (pv 1) (pv 1)) pe_int)) (pv 1)) pe_int) pe_int))
      (pss_cons (ps_set (i := 2) c_l_next.nd rfl (.inl rfl) (pe_op op_mod (pe_op op_mul (pv 2) (pv 2)) pe_int))
      (pss_one (ps_ret (pe_op op_fdiv (pe_op op_mod (pe_op op_mul (pv 2) (pe_op op_add (pv 2) pe_int)) pe_int) pe_int))))))), ?_⟩
    refine ⟨_, rfl, l, _, _, _, rfl, rfl, SqL.of hl, rfl, _, _, rfl, rfl, _, rfl, l, _, _, _, rfl, rfl, hl, rfl, ?_⟩
    refine ⟨_, rfl, l, _, _, _, rfl, rfl, SqL.of upd_same, rfl, ?_⟩
    refine ⟨_, rfl, l, _, _, _, rfl, rfl, SqL.of upd_same, rfl, _, rfl, ?_⟩
    cases fl with
    | true =>
      refine iteT ?_
      refine ⟨_, rfl, l, _, _, _, rfl, rfl, SqL.of upd_same, rfl, _, _, rfl, rfl, ⟨by decide, by decide, by decide⟩, _, _, rfl, rfl, md, ?_⟩
      refine ⟨_, rfl, l, _, _, _, rfl, rfl, SqL.of upd_same, rfl, _, _, rfl, rfl, ⟨by decide, by decide, by decide⟩, _, _, rfl, rfl, ⟨by decide, by decide⟩, _, rfl, l, _, _, _, rfl, rfl, upd_same, rfl, ?_⟩
      refine ⟨_, rfl, ?_⟩
      have h1 := Int.emod_nonneg d (show (1000000 : Int) ≠ 0 by decide)
      have h2 := Int.emod_lt_of_pos d (show (0 : Int) < 1000000 by decide)
      refine q (d % 1000000) _ h1 (by omega) (fun b o hb e => ?_) ⟨_, _, _, upd_same, by omega, by omega⟩
      rw [upd_ne hb, upd_ne hb]
      exact e
    | false =>
      refine iteF ?_
      have g1 := Int.emod_nonneg ((d % 1000003 + (k + 1) * (k + 1) * 7919 + (k + 1)) * 48271) (show (2147483629 : Int) ≠ 0 by decide)
      have g2 := Int.emod_lt_of_pos ((d % 1000003 + (k + 1) * (k + 1) * 7919 + (k + 1)) * 48271) (show (0 : Int) < 2147483629 by decide)
      refine ⟨_, rfl, l, _, _, _, rfl, rfl, SqL.of upd_same, rfl, _, _, rfl, rfl, md, _, rfl, _, rfl, _, _, rfl, rfl, .inl ⟨by omega, by omega⟩, _, _, rfl, rfl, .inr ⟨by decide, by decide⟩, _, _, rfl, rfl, _, rfl, _, _, rfl, rfl, _, _, rfl, rfl, .inr ⟨by decide, by decide⟩, _, _, rfl, rfl, md, ?_⟩
      refine ⟨_, rfl, _, rfl, _, _, rfl, rfl, .inl ⟨Int.lt_of_lt_of_le (by decide) g1, Int.lt_trans g2 (by decide)⟩, _, _, rfl, rfl, md, ?_⟩
      generalize hz : ((d % 1000003 + (k + 1) * (k + 1) * 7919 + (k + 1)) * 48271 % 2147483629) * ((d % 1000003 + (k + 1) * (k + 1) * 7919 + (k + 1)) * 48271 % 2147483629) = z
      have i1 := Int.emod_nonneg z (show (2147483587 : Int) ≠ 0 by decide)
      have i2 := Int.emod_lt_of_pos z (show (0 : Int) < 2147483587 by decide)
      refine ⟨_, rfl, _, rfl, _, _, rfl, rfl, _, _, rfl, rfl, .inl ⟨Int.lt_of_lt_of_le (by decide) i1, Int.lt_trans i2 (by decide)⟩, _, _, rfl, rfl, md, _, _, rfl, rfl, ⟨by decide, by decide⟩, ?_⟩
      have j1 := Int.emod_nonneg (z % 2147483587 * (z % 2147483587 + 2)) (show (2147483579 : Int) ≠ 0 by decide)
      have j2 := Int.emod_lt_of_pos (z % 2147483587 * (z % 2147483587 + 2)) (show (0 : Int) < 2147483579 by decide)
      refine q (z % 2147483587 * (z % 2147483587 + 2) % 2147483579 / 7) _ (by omega) (by omega) (fun b o hb e => ?_) ⟨_, _, _, upd_same, by omega, by omega⟩
      rw [upd_ne hb]
      exact e
end
/-! ### Share -/
def sf (t b : Int) : List (Str × V) := putF "bottom" (.int b) (putF "top" (.int t) [])
theorem tb_ : ¬ (("top" : Str) = "bottom") := by decide +kernel
theorem sf_eq (t b : Int) : sf t b = ([("top", V.int t), ("bottom", V.int b)] : List (Str × V)) := by
  show (if ("top" : Str) = "bottom" then [(("top" : Str), V.int b)] else (("top" : Str), V.int t) :: putF "bottom" (V.int b) []) = _
  rw [if_neg tb_]
  rfl
theorem sf_top (t b : Int) : (sf t b).lookup ("top" : Str) = some (.int t) := by
  unfold sf
  rw [lookup_putF, if_neg tb_, lookup_putF, if_pos rfl]
theorem sf_bottom (t b : Int) : (sf t b).lookup ("bottom" : Str) = some (.int b) := by
  unfold sf
  rw [lookup_putF, if_pos rfl]
/-- what the top says of the class -/
structure ShT (K : PySem.W.Frag) (C : Addr) : Prop where
  cl : Cls K C
  nT : NoAttr K C "top"
  nB : NoAttr K C "bottom"
/-- at p a Share of q -/
def Sh (C : Addr) (H : Hp) (p : Addr) (q : Rat) : Prop := ∃ dx, H p = some (.ins C dx (sf q.num q.den))
theorem Sh.same {C p : Addr} {H H1 : Hp} {q : Rat} (h : Sh C H p q) (s : Same H H1) : Sh C H1 p q := by
  obtain ⟨dx, e⟩ := h
  exact ⟨dx, s _ _ e⟩
/-- Share's __init__, with no bottom of 0 -/
def spShI (C : Addr) : Sp := fun vs H Q _ => ∃ (p dx : Addr) (t b : Int), vs = [.ref p, .int t, .int b] ∧ H p = some (.ins C dx []) ∧ b ≠ 0 ∧ Sz 8800 t ∧ Sz 8800 b ∧
  Q .non (upd H p (.ins C dx (sf (Rat.divInt t b).num (Rat.divInt t b).den)))
section
variable {P : Program} {w : World} {K : PySem.W.Frag} {mg : Str → Option Value} {base : Heap} {C : Addr}
theorem ok_shI (D : Di K mg "Share" C "Share.__init__" s_Share_init [.int 1]) (T : ShT K C) (g : Ca P w K mg base CX0 1 "common_divisor" s_common_divisor [] ["one", "two"] spGcd) : Ci P w K mg base CX0 2 "Share" C "Share.__init__" s_Share_init [.int 1] ["self", "top", "bottom"] (spShI C) := by
  refine ci0 (k := 1) D c_Share_init (fun vs H Q E h => ?_) fun f cdv A outer s H vs Q E hr h => ?_
  · obtain ⟨p, dx, t, b, rfl, _⟩ := h
    rfl
  · obtain ⟨p, dx, t, b, rfl, hp, hb, zt, zb, q⟩ := h
    refine ⟨_, pss_cons (ps_if (pt_cmpR op_eq (pv 2) pe_int (nomark _)) (pss_one ps_never) pss_nil)
      (pss_cons (ps_set (i := 3) c_Share_init.nd rfl (.inl rfl) (pe_ca g b_common_divisor hr (by decide) pass0 rfl (pa_cons (pv 1) (pa_cons (pv 2) pa_nil))))
      (pss_cons (ps_if (pt_cmpR op_lt (pv 2) pe_int (nomark _)) (pss_one (ps_set (i := 3) c_Share_init.nd rfl (.inl rfl) (pe_un un_neg (pv 3)))) pss_nil)
      (pss_cons (ps_fld (pv 0) (pe_op op_fdivA (pv 1) (pv 3)) rfl) (pss_one (ps_fld (pv 0) (pe_op op_fdivA (pv 2) (pv 3)) rfl))))), ?_⟩
    refine ⟨_, rfl, rfl, _, rfl, ?_⟩
    rw [decide_eq_false (show ¬ V.int b = V.int 0 from fun z => hb (V.int.inj z))]
    refine iteF ?_
    refine ⟨_, rfl, _, rfl, t, b, rfl, ?_⟩
    have fin : ∀ σ' : L2.St, σ' = [some (.ref p), some (.int t), some (.int b), some (.int (gs t b))] →
        tSeq (sFld K (tVar 0) (tOp (rI CDivA fun i j => .int (i.fdiv j)) (tVar 1) (tVar 3)) "top") (sFld K (tVar 0) (tOp (rI CDivA fun i j => .int (i.fdiv j)) (tVar 2) (tVar 3)) "bottom") { nx := fun _ H' => Q .non H', rt := Q } σ' H := by
      rintro σ' rfl
      refine ⟨_, rfl, _, rfl, _, _, rfl, rfl, ⟨gs_ne hb, gs_sz hb zb⟩, _, rfl, p, C, dx, _, rfl, hp, T.cl, T.nT, (by show 0 < 1000; decide), ?_⟩
      refine ⟨_, rfl, _, rfl, _, _, rfl, rfl, ⟨gs_ne hb, gs_sz hb zb⟩, _, rfl, p, C, dx, _, rfl, upd_same, T.cl, T.nB, (by show 1 < 1000; decide), ?_⟩
      rw [upd_upd]
      rw [← low_num hb, ← low_den hb] at q
      exact q
    refine ⟨_, rfl, _, _, rfl, rfl, _, rfl, ?_⟩
    by_cases hn : b < 0
    · rw [decide_eq_true hn]
      refine iteT ?_
      refine ⟨_, rfl, _, rfl, fin _ ?_⟩
      unfold gs
      rw [if_pos hn]
      rfl
    · rw [decide_eq_false hn]
      refine iteF (fin _ ?_)
      unfold gs
      rw [if_neg hn]
      rfl
theorem bd_Share2 : Bd1 "__init__" "Share.__init__" s_Share_init ["self", "top", "bottom"] 3 1 1 := fun _ _ _ _ _ _ _ us its hu hi => match us, hu, its, hi with | [_, _, _], _, [_], _ => ⟨_, rfl, rfl⟩
theorem bd_Share1 : Bd1 "__init__" "Share.__init__" s_Share_init ["self", "top", "bottom"] 2 0 1 := fun _ _ _ _ _ _ _ us its hu hi => match us, hu, its, hi with | [_, _], _, [_], _ => ⟨_, rfl, rfl⟩
end
/-- a new Share, read as its maker's caller wants it -/
theorem made_sh {C : Addr} {H : Hp} {R : Addr → Hp → Prop} {E : XK} {t b : Int} (hb : b ≠ 0) (zt : Sz 8800 t) (zb : Sz 8800 b) (h : ∀ p H', H p = none → Same H H' → Sh C H' p (Rat.divInt t b) → R p H') :
    ∀ x dx, H x = none → H dx = none → dx ≠ x → spShI C [.ref x, .int t, .int b] (upd (upd H dx (.own x)) x (.ins C dx [])) (fun v H2 => v = .non ∧ R x H2) E := by
  intro x dx hx hd ne
  refine ⟨x, dx, t, b, rfl, upd_same, hb, zt, zb, rfl, ?_⟩
  rw [upd_upd]
  refine h x _ hx (Same.upd (Same.new hd) ?_) ⟨dx, upd_same⟩
  rw [upd_ne ne.symm]
  exact hx
/-! ### the module's functions over Shares and whole numbers -/
structure ShX (K : PySem.W.Frag) (C : Addr) : Prop extends ShT K C where
  ty : ∀ (H : Hp) (a dx : Addr) (fs : List (Str × V)), H a = some (.ins C dx fs) → TyX K H (.ref a) (.ref C)
  nInt : PySem.W.kitOne K (.type "int") (.ref C) = some false
theorem kit_self {K : PySem.W.Frag} {C : Addr} : PySem.W.kitOne K (.ref C) (.ref C) = some true := by
  unfold PySem.W.kitOne
  rw [if_pos (by simp)]
/-- v stands for q: a whole number, or a Share -/
def Rv (C : Addr) (H : Hp) (v : V) (q : Rat) : Prop := (∃ i : Int, v = .int i ∧ q = (i : Rat)) ∨ ∃ p, v = .ref p ∧ Sh C H p q
theorem Rv.same {C : Addr} {H H1 : Hp} {v : V} {q : Rat} (h : Rv C H v q) (s : Same H H1) : Rv C H1 v q := by
  rcases h with h | ⟨p, e, h⟩
  · exact .inl h
  · exact .inr ⟨p, e, h.same s⟩
theorem Rv.int {C : Addr} {H : Hp} {i : Int} : Rv C H (.int i) (i : Rat) := .inl ⟨i, rfl, rfl⟩
theorem Sh.rv {C p : Addr} {H : Hp} {q : Rat} (h : Sh C H p q) : Rv C H (.ref p) q := .inr ⟨p, rfl, h⟩
def spAs (C : Addr) : Sp := fun vs H Q _ => ∃ (v : V) (q : Rat), vs = [v] ∧ Rv C H v q ∧ Rz 8700 q ∧ ∀ p H', Same H H' → Sh C H' p q → Q (.ref p) H'
/-- a function of two that tells a Share -/
def spTwo (C : Addr) (ok : Rat → Rat → Prop) (g : Rat → Rat → Rat) : Sp := fun vs H Q _ => ∃ (v u : V) (a b : Rat), vs = [v, u] ∧ Rv C H v a ∧ Rv C H u b ∧ Rz 4300 a ∧ Rz 4300 b ∧ ok a b ∧ ∀ p H', H p = none → Same H H' → Sh C H' p (g a b) → Q (.ref p) H'
def spBefore (C : Addr) : Sp := fun vs H Q _ => ∃ (v u : V) (a b : Rat), vs = [v, u] ∧ Rv C H v a ∧ Rv C H u b ∧ Rz 4300 a ∧ Rz 4300 b ∧ ∀ H', Same H H' → Q (.bl (decide (a < b))) H'
def spOne (C : Addr) (g : Rat → Int) : Sp := fun vs H Q _ => ∃ (v : V) (a : Rat), vs = [v] ∧ Rv C H v a ∧ Rz 8700 a ∧ ∀ H', Same H H' → Q (.int (g a)) H'
theorem divInt_one (i : Int) : Rat.divInt i 1 = (i : Rat) := by
  have := Rat.num_divInt_den (i : Rat)
  exact this
section
variable {P : Program} {w : World} {K : PySem.W.Frag} {mg : Str → Option Value} {base : Heap} {C : Addr}
theorem ok_as (D : Df K mg "as_share" s_as_share []) (T : ShX K C) (his : mg "isinstance" = none) (hC : mg "Share" = some (.ref C)) (m : Ci P w K mg base CX0 2 "Share" C "Share.__init__" s_Share_init [.int 1] ["self", "top", "bottom"] (spShI C)) :
    Ca P w K mg base CX0 4 "as_share" s_as_share [] ["number"] (spAs C) := by
  refine ca0 (k := 3) D c_as_share (fun vs H Q E h => ?_) fun f cdv A outer s H vs Q E hr h => ?_
  · obtain ⟨v, q, rfl, _⟩ := h
    rfl
  · obtain ⟨v, a, rfl, hv, za, q⟩ := h
    refine ⟨_, pss_cons (ps_if (pt_val (pe_callB call_isi rfl his (by decide +kernel) (pa_cons (pv 0) (pa_cons (pe_glob (v := .ref C) rfl hC rfl) pa_nil)))) (pss_one (ps_ret (pv 0))) pss_nil)
      (pss_one (ps_ret (pe_ci m bd_Share1 (by decide) rfl hr (by decide) pass0 rfl (pa_cons (pv 0) pa_nil)))), ?_⟩
    rcases hv with ⟨i, rfl, rfl⟩ | ⟨p, rfl, hp⟩
    · refine ⟨_, rfl, _, _, _, _, _, rfl, .own C, .base (.int i), T.nInt, _, rfl, iteF ?_⟩
      refine ⟨_, rfl, ?_⟩
      refine made_sh (by decide) (za.1.mono (by decide)) (by show 1 < 2 ^ 8800; exact Nat.one_lt_two_pow (by decide)) fun p H' _ hs hp => ?_
      rw [divInt_one] at hp
      exact q p H' hs hp
    · obtain ⟨dx, e⟩ := id hp
      refine ⟨_, rfl, _, _, _, _, _, rfl, .own C, T.ty _ _ _ _ e, kit_self, _, rfl, iteT ?_⟩
      exact ⟨_, rfl, q p H (Same.refl H) hp⟩
/-- the fields of a Share at p -/
theorem rd_top {i : Nat} {σ : L2.St} {H : Hp} {p : Addr} {a : Rat} {Q : VK} (T : ShT K C) (hp : Sh C H p a) (e : σ[i]? = some (some (.ref p))) (q : Q (.int a.num) H) : tFld K (tVar i) "top" σ H Q := by
  obtain ⟨dx, h⟩ := hp
  exact ⟨_, e, p, C, dx, _, _, rfl, h, T.cl, T.nT, sf_top _ _, q⟩
theorem rd_bottom {i : Nat} {σ : L2.St} {H : Hp} {p : Addr} {a : Rat} {Q : VK} (T : ShT K C) (hp : Sh C H p a) (e : σ[i]? = some (some (.ref p))) (q : Q (.int a.den) H) : tFld K (tVar i) "bottom" σ H Q := by
  obtain ⟨dx, h⟩ := hp
  exact ⟨_, e, p, C, dx, _, _, rfl, h, T.cl, T.nB, sf_bottom _ _, q⟩
end
section
variable {P : Program} {w : World} {K : PySem.W.Frag} {mg : Str → Option Value} {base : Heap} {C : Addr}

theorem ok_plus (D : Df K mg "plus" s_plus []) (T : ShX K C) (a : Ca P w K mg base CX0 4 "as_share" s_as_share [] ["number"] (spAs C)) (m : Ci P w K mg base CX0 2 "Share" C "Share.__init__" s_Share_init [.int 1] ["self", "top", "bottom"] (spShI C)) :
    Ca P w K mg base CX0 5 "plus" s_plus [] ["one", "two"] (spTwo C (fun _ _ => True) (fun a b => a + b)) := by
  refine ca0 (k := 4) D c_plus (fun vs H Q E h => ?_) fun f cdv A outer s H vs Q E hr h => ?_
  · obtain ⟨v, u, x, y, rfl, _⟩ := h
    rfl
  · obtain ⟨v, u, x, y, rfl, hv, hu, zx, zy, ok, q⟩ := h
    refine ⟨_, pss_cons (ps_set (i := 2) c_plus.nd rfl (.inl rfl) (pe_ca a b_as_share hr (by decide) pass0 rfl (pa_cons (pv 0) pa_nil)))
      (pss_cons (ps_set (i := 3) c_plus.nd rfl (.inl rfl) (pe_ca a b_as_share hr (by decide) pass0 rfl (pa_cons (pv 1) pa_nil)))
      (pss_one (ps_ret (pe_ci m bd_Share2 (by decide) rfl hr (by decide) pass0 rfl (pa_cons (pe_op op_add (pe_op op_mulA (pe_fld (pv 2) rfl) (pe_fld (pv 3) rfl)) (pe_op op_mulA (pe_fld (pv 3) rfl) (pe_fld (pv 2) rfl))) (pa_cons (pe_op op_mulA (pe_fld (pv 2) rfl) (pe_fld (pv 3) rfl)) pa_nil)))))), ?_⟩
    refine ⟨_, rfl, v, x, rfl, hv, zx.mono (by decide), fun p1 H1 s1 h1 => ?_⟩
    refine ⟨_, rfl, u, y, rfl, hu.same s1, zy.mono (by decide), fun p2 H2 s2 h2 => ?_⟩
    obtain ⟨d1, e1⟩ := h1.same s2
    obtain ⟨d2, e2⟩ := h2
    have mz : ∀ i j : Int, Sz 4300 i → Sz 4300 j → CMulA i j := fun i j hi hj => ⟨hi.mono (by decide), hj.mono (by decide)⟩
    refine ⟨_, rfl, p1, C, d1, _, _, rfl, e1, T.cl, T.nT, sf_top _ _, _, rfl, p2, C, d2, _, _, rfl, e2, T.cl, T.nB, sf_bottom _ _, _, _, rfl, rfl, mz _ _ zx.1 zy.2, _, rfl, p2, C, d2, _, _, rfl, e2, T.cl, T.nT, sf_top _ _, _, rfl, p1, C, d1, _, _, rfl, e1, T.cl, T.nB, sf_bottom _ _, _, _, rfl, rfl, mz _ _ zy.1 zx.2, _, _, rfl, rfl, _, rfl, p1, C, d1, _, _, rfl, e1, T.cl, T.nB, sf_bottom _ _, _, rfl, p2, C, d2, _, _, rfl, e2, T.cl, T.nB, sf_bottom _ _, _, _, rfl, rfl, mz _ _ zx.2 zy.2, ?_⟩
    refine made_sh (Int.ne_of_gt (Int.mul_pos (den_pos x) (den_pos y))) (Sz.add (n := 8600) ((zx.1.mul zy.2).mono (by decide)) ((zy.1.mul zx.2).mono (by decide)) (by decide)) ((zx.2.mul zy.2).mono (by decide)) fun p H' hp hs hq => ?_
    refine q p H' ((s1.trans s2).free hp) (s1.trans (s2.trans hs)) ?_
    exact (congrArg (Sh C H' p) (add_eq x y)).mpr hq


theorem ok_minus (D : Df K mg "minus" s_minus []) (T : ShX K C) (a : Ca P w K mg base CX0 4 "as_share" s_as_share [] ["number"] (spAs C)) (m : Ci P w K mg base CX0 2 "Share" C "Share.__init__" s_Share_init [.int 1] ["self", "top", "bottom"] (spShI C)) :
    Ca P w K mg base CX0 5 "minus" s_minus [] ["one", "two"] (spTwo C (fun _ _ => True) (fun a b => a - b)) := by
  refine ca0 (k := 4) D c_minus (fun vs H Q E h => ?_) fun f cdv A outer s H vs Q E hr h => ?_
  · obtain ⟨v, u, x, y, rfl, _⟩ := h
    rfl
  · obtain ⟨v, u, x, y, rfl, hv, hu, zx, zy, ok, q⟩ := h
    refine ⟨_, pss_cons (ps_set (i := 2) c_minus.nd rfl (.inl rfl) (pe_ca a b_as_share hr (by decide) pass0 rfl (pa_cons (pv 0) pa_nil)))
      (pss_cons (ps_set (i := 3) c_minus.nd rfl (.inl rfl) (pe_ca a b_as_share hr (by decide) pass0 rfl (pa_cons (pv 1) pa_nil)))
      (pss_one (ps_ret (pe_ci m bd_Share2 (by decide) rfl hr (by decide) pass0 rfl (pa_cons (pe_op op_sub (pe_op op_mulA (pe_fld (pv 2) rfl) (pe_fld (pv 3) rfl)) (pe_op op_mulA (pe_fld (pv 3) rfl) (pe_fld (pv 2) rfl))) (pa_cons (pe_op op_mulA (pe_fld (pv 2) rfl) (pe_fld (pv 3) rfl)) pa_nil)))))), ?_⟩
    refine ⟨_, rfl, v, x, rfl, hv, zx.mono (by decide), fun p1 H1 s1 h1 => ?_⟩
    refine ⟨_, rfl, u, y, rfl, hu.same s1, zy.mono (by decide), fun p2 H2 s2 h2 => ?_⟩
    obtain ⟨d1, e1⟩ := h1.same s2
    obtain ⟨d2, e2⟩ := h2
    have mz : ∀ i j : Int, Sz 4300 i → Sz 4300 j → CMulA i j := fun i j hi hj => ⟨hi.mono (by decide), hj.mono (by decide)⟩
    refine ⟨_, rfl, p1, C, d1, _, _, rfl, e1, T.cl, T.nT, sf_top _ _, _, rfl, p2, C, d2, _, _, rfl, e2, T.cl, T.nB, sf_bottom _ _, _, _, rfl, rfl, mz _ _ zx.1 zy.2, _, rfl, p2, C, d2, _, _, rfl, e2, T.cl, T.nT, sf_top _ _, _, rfl, p1, C, d1, _, _, rfl, e1, T.cl, T.nB, sf_bottom _ _, _, _, rfl, rfl, mz _ _ zy.1 zx.2, _, _, rfl, rfl, _, rfl, p1, C, d1, _, _, rfl, e1, T.cl, T.nB, sf_bottom _ _, _, rfl, p2, C, d2, _, _, rfl, e2, T.cl, T.nB, sf_bottom _ _, _, _, rfl, rfl, mz _ _ zx.2 zy.2, ?_⟩
    refine made_sh (Int.ne_of_gt (Int.mul_pos (den_pos x) (den_pos y))) (Sz.sub (n := 8600) ((zx.1.mul zy.2).mono (by decide)) ((zy.1.mul zx.2).mono (by decide)) (by decide)) ((zx.2.mul zy.2).mono (by decide)) fun p H' hp hs hq => ?_
    refine q p H' ((s1.trans s2).free hp) (s1.trans (s2.trans hs)) ?_
    exact (congrArg (Sh C H' p) (sub_eq x y)).mpr hq


theorem ok_times (D : Df K mg "times" s_times []) (T : ShX K C) (a : Ca P w K mg base CX0 4 "as_share" s_as_share [] ["number"] (spAs C)) (m : Ci P w K mg base CX0 2 "Share" C "Share.__init__" s_Share_init [.int 1] ["self", "top", "bottom"] (spShI C)) :
    Ca P w K mg base CX0 5 "times" s_times [] ["one", "two"] (spTwo C (fun _ _ => True) (fun a b => a * b)) := by
  refine ca0 (k := 4) D c_times (fun vs H Q E h => ?_) fun f cdv A outer s H vs Q E hr h => ?_
  · obtain ⟨v, u, x, y, rfl, _⟩ := h
    rfl
  · obtain ⟨v, u, x, y, rfl, hv, hu, zx, zy, ok, q⟩ := h
    refine ⟨_, pss_cons (ps_set (i := 2) c_times.nd rfl (.inl rfl) (pe_ca a b_as_share hr (by decide) pass0 rfl (pa_cons (pv 0) pa_nil)))
      (pss_cons (ps_set (i := 3) c_times.nd rfl (.inl rfl) (pe_ca a b_as_share hr (by decide) pass0 rfl (pa_cons (pv 1) pa_nil)))
      (pss_one (ps_ret (pe_ci m bd_Share2 (by decide) rfl hr (by decide) pass0 rfl (pa_cons (pe_op op_mulA (pe_fld (pv 2) rfl) (pe_fld (pv 3) rfl)) (pa_cons (pe_op op_mulA (pe_fld (pv 2) rfl) (pe_fld (pv 3) rfl)) pa_nil)))))), ?_⟩
    refine ⟨_, rfl, v, x, rfl, hv, zx.mono (by decide), fun p1 H1 s1 h1 => ?_⟩
    refine ⟨_, rfl, u, y, rfl, hu.same s1, zy.mono (by decide), fun p2 H2 s2 h2 => ?_⟩
    obtain ⟨d1, e1⟩ := h1.same s2
    obtain ⟨d2, e2⟩ := h2
    have mz : ∀ i j : Int, Sz 4300 i → Sz 4300 j → CMulA i j := fun i j hi hj => ⟨hi.mono (by decide), hj.mono (by decide)⟩
    refine ⟨_, rfl, p1, C, d1, _, _, rfl, e1, T.cl, T.nT, sf_top _ _, _, rfl, p2, C, d2, _, _, rfl, e2, T.cl, T.nT, sf_top _ _, _, _, rfl, rfl, mz _ _ zx.1 zy.1, _, rfl, p1, C, d1, _, _, rfl, e1, T.cl, T.nB, sf_bottom _ _, _, rfl, p2, C, d2, _, _, rfl, e2, T.cl, T.nB, sf_bottom _ _, _, _, rfl, rfl, mz _ _ zx.2 zy.2, ?_⟩
    refine made_sh (Int.ne_of_gt (Int.mul_pos (den_pos x) (den_pos y))) ((zx.1.mul zy.1).mono (by decide)) ((zx.2.mul zy.2).mono (by decide)) fun p H' hp hs hq => ?_
    refine q p H' ((s1.trans s2).free hp) (s1.trans (s2.trans hs)) ?_
    exact (congrArg (Sh C H' p) (mul_eq x y)).mpr hq


theorem ok_over (D : Df K mg "over" s_over []) (T : ShX K C) (a : Ca P w K mg base CX0 4 "as_share" s_as_share [] ["number"] (spAs C)) (m : Ci P w K mg base CX0 2 "Share" C "Share.__init__" s_Share_init [.int 1] ["self", "top", "bottom"] (spShI C)) :
    Ca P w K mg base CX0 5 "over" s_over [] ["one", "two"] (spTwo C (fun _ b => b ≠ 0) (fun a b => a / b)) := by
  refine ca0 (k := 4) D c_over (fun vs H Q E h => ?_) fun f cdv A outer s H vs Q E hr h => ?_
  · obtain ⟨v, u, x, y, rfl, _⟩ := h
    rfl
  · obtain ⟨v, u, x, y, rfl, hv, hu, zx, zy, ok, q⟩ := h
    refine ⟨_, pss_cons (ps_set (i := 2) c_over.nd rfl (.inl rfl) (pe_ca a b_as_share hr (by decide) pass0 rfl (pa_cons (pv 0) pa_nil)))
      (pss_cons (ps_set (i := 3) c_over.nd rfl (.inl rfl) (pe_ca a b_as_share hr (by decide) pass0 rfl (pa_cons (pv 1) pa_nil)))
      (pss_one (ps_ret (pe_ci m bd_Share2 (by decide) rfl hr (by decide) pass0 rfl (pa_cons (pe_op op_mulA (pe_fld (pv 2) rfl) (pe_fld (pv 3) rfl)) (pa_cons (pe_op op_mulA (pe_fld (pv 2) rfl) (pe_fld (pv 3) rfl)) pa_nil)))))), ?_⟩
    refine ⟨_, rfl, v, x, rfl, hv, zx.mono (by decide), fun p1 H1 s1 h1 => ?_⟩
    refine ⟨_, rfl, u, y, rfl, hu.same s1, zy.mono (by decide), fun p2 H2 s2 h2 => ?_⟩
    obtain ⟨d1, e1⟩ := h1.same s2
    obtain ⟨d2, e2⟩ := h2
    have mz : ∀ i j : Int, Sz 4300 i → Sz 4300 j → CMulA i j := fun i j hi hj => ⟨hi.mono (by decide), hj.mono (by decide)⟩
    refine ⟨_, rfl, p1, C, d1, _, _, rfl, e1, T.cl, T.nT, sf_top _ _, _, rfl, p2, C, d2, _, _, rfl, e2, T.cl, T.nB, sf_bottom _ _, _, _, rfl, rfl, mz _ _ zx.1 zy.2, _, rfl, p1, C, d1, _, _, rfl, e1, T.cl, T.nB, sf_bottom _ _, _, rfl, p2, C, d2, _, _, rfl, e2, T.cl, T.nT, sf_top _ _, _, _, rfl, rfl, mz _ _ zx.2 zy.1, ?_⟩
    refine made_sh (Int.mul_ne_zero (Int.ne_of_gt (den_pos x)) (fun z => ok (Rat.num_eq_zero.mp z))) ((zx.1.mul zy.2).mono (by decide)) ((zx.2.mul zy.1).mono (by decide)) fun p H' hp hs hq => ?_
    refine q p H' ((s1.trans s2).free hp) (s1.trans (s2.trans hs)) ?_
    exact (congrArg (Sh C H' p) (div_eq x y ok)).mpr hq


theorem ok_before (D : Df K mg "before" s_before []) (T : ShX K C) (a : Ca P w K mg base CX0 4 "as_share" s_as_share [] ["number"] (spAs C)) : Ca P w K mg base CX0 5 "before" s_before [] ["one", "two"] (spBefore C) := by
  refine ca0 (k := 4) D c_before (fun vs H Q E h => ?_) fun f cdv A outer s H vs Q E hr h => ?_
  · obtain ⟨v, u, x, y, rfl, _⟩ := h
    rfl
  · obtain ⟨v, u, x, y, rfl, hv, hu, zx, zy, q⟩ := h
    refine ⟨_, pss_cons (ps_set (i := 2) c_before.nd rfl (.inl rfl) (pe_ca a b_as_share hr (by decide) pass0 rfl (pa_cons (pv 0) pa_nil)))
      (pss_cons (ps_set (i := 3) c_before.nd rfl (.inl rfl) (pe_ca a b_as_share hr (by decide) pass0 rfl (pa_cons (pv 1) pa_nil)))
      (pss_one (ps_ret (pe_cmpR op_lt (pe_op op_mulA (pe_fld (pv 2) rfl) (pe_fld (pv 3) rfl)) (pe_op op_mulA (pe_fld (pv 3) rfl) (pe_fld (pv 2) rfl)) (nomark _))))), ?_⟩
    refine ⟨_, rfl, v, x, rfl, hv, zx.mono (by decide), fun p1 H1 s1 h1 => ?_⟩
    refine ⟨_, rfl, u, y, rfl, hu.same s1, zy.mono (by decide), fun p2 H2 s2 h2 => ?_⟩
    obtain ⟨d1, e1⟩ := h1.same s2
    obtain ⟨d2, e2⟩ := h2
    have mz : ∀ i j : Int, Sz 4300 i → Sz 4300 j → CMulA i j := fun i j hi hj => ⟨hi.mono (by decide), hj.mono (by decide)⟩
    refine ⟨_, rfl, p1, C, d1, _, _, rfl, e1, T.cl, T.nT, sf_top _ _, _, rfl, p2, C, d2, _, _, rfl, e2, T.cl, T.nB, sf_bottom _ _, _, _, rfl, rfl, mz _ _ zx.1 zy.2, _, rfl, p2, C, d2, _, _, rfl, e2, T.cl, T.nT, sf_top _ _, _, rfl, p1, C, d1, _, _, rfl, e1, T.cl, T.nB, sf_bottom _ _, _, _, rfl, rfl, mz _ _ zy.1 zx.2, _, _, rfl, rfl, ?_⟩
    have e : decide (x.num * (y.den : Int) < y.num * (x.den : Int)) = decide (x < y) := by
      rw [decide_eq_decide]
      exact (lt_iff' x y).symm
    show Q (V.bl (decide (x.num * (y.den : Int) < y.num * (x.den : Int)))) _
    rw [e]
    exact q H2 (s1.trans s2)


theorem ok_whole (D : Df K mg "whole" s_whole []) (T : ShX K C) (a : Ca P w K mg base CX0 4 "as_share" s_as_share [] ["number"] (spAs C)) : Ca P w K mg base CX0 5 "whole" s_whole [] ["share"] (spOne C Rat.floor) := by
  refine ca0 (k := 4) D c_whole (fun vs H Q E h => ?_) fun f cdv A outer s H vs Q E hr h => ?_
  · obtain ⟨v, x, rfl, _⟩ := h
    rfl
  · obtain ⟨v, x, rfl, hv, zx, q⟩ := h
    refine ⟨_, pss_cons (ps_set (i := 1) c_whole.nd rfl (.inl rfl) (pe_ca a b_as_share hr (by decide) pass0 rfl (pa_cons (pv 0) pa_nil)))
      (pss_one (ps_ret (pe_op op_fdivA (pe_fld (pv 1) rfl) (pe_fld (pv 1) rfl)))), ?_⟩
    refine ⟨_, rfl, v, x, rfl, hv, zx, fun p1 H1 s1 h1 => ?_⟩
    obtain ⟨d1, e1⟩ := h1
    refine ⟨_, rfl, p1, C, d1, _, _, rfl, e1, T.cl, T.nT, sf_top _ _, _, rfl, p1, C, d1, _, _, rfl, e1, T.cl, T.nB, sf_bottom _ _, _, _, rfl, rfl, ⟨Int.ne_of_gt (den_pos x), zx.2.mono (by decide)⟩, ?_⟩
    have e : x.num.fdiv (x.den : Int) = x.floor := by rw [Rat.floor_def, Int.fdiv_eq_ediv_of_nonneg _ (Int.le_of_lt (den_pos x))]
    show Q (V.int (x.num.fdiv (x.den : Int))) _
    rw [e]
    exact q H1 s1
end
section
variable {P : Program} {w : World} {K : PySem.W.Frag} {mg : Str → Option Value} {base : Heap} {C : Addr}
theorem ok_rounded (D : Df K mg "rounded_up" s_rounded_up []) (T : ShX K C) (a : Ca P w K mg base CX0 4 "as_share" s_as_share [] ["number"] (spAs C)) : Ca P w K mg base CX0 5 "rounded_up" s_rounded_up [] ["share"] (spOne C Rat.ceil) := by
  refine ca0 (k := 4) D c_rounded_up (fun vs H Q E h => ?_) fun f cdv A outer s H vs Q E hr h => ?_
  · obtain ⟨v, x, rfl, _⟩ := h
    rfl
  · obtain ⟨v, x, rfl, hv, zx, q⟩ := h
    refine ⟨_, pss_cons (ps_set (i := 1) c_rounded_up.nd rfl (.inl rfl) (pe_ca a b_as_share hr (by decide) pass0 rfl (pa_cons (pv 0) pa_nil)))
      (pss_one (ps_ret (pe_un un_neg (pe_op op_fdivA (pe_un un_neg (pe_fld (pv 1) rfl)) (pe_fld (pv 1) rfl))))), ?_⟩
    refine ⟨_, rfl, v, x, rfl, hv, zx, fun p1 H1 s1 h1 => ?_⟩
    obtain ⟨d1, e1⟩ := h1
    refine ⟨_, rfl, p1, C, d1, _, _, rfl, e1, T.cl, T.nT, sf_top _ _, _, rfl, _, rfl, p1, C, d1, _, _, rfl, e1, T.cl, T.nB, sf_bottom _ _, _, _, rfl, rfl, ⟨Int.ne_of_gt (den_pos x), zx.2.mono (by decide)⟩, _, rfl, ?_⟩
    have e : -((-x.num).fdiv (x.den : Int)) = x.ceil := by rw [Int.fdiv_eq_ediv_of_nonneg _ (Int.le_of_lt (den_pos x)), neg_div_ceil]
    show Q (V.int (-((-x.num).fdiv (x.den : Int)))) _
    rw [e]
    exact q H1 s1
end
/-! ### Calendar's helpers -/
theorem twelve_ne : ((12 : Int) : Rat) ≠ 0 := by decide
theorem szi {n : Nat} (i : Int) (h : i.natAbs < 2 ^ n := by decide) : Sz n i := h
def spTw (C : Addr) : Sp := fun vs H Q _ => ∃ (v : V) (a : Rat), vs = [v] ∧ Rv C H v a ∧ Rz 4000 a ∧ ∀ p H', H p = none → Same H H' → Sh C H' p (a / 12) → Q (.ref p) H'
def spNth (C : Addr) : Sp := fun vs H Q _ => ∃ (v u : V) (a b : Rat) (n : Int), vs = [v, u, .int n] ∧ Rv C H v a ∧ Rv C H u b ∧ Rz 600 a ∧ Rz 600 b ∧ Sz 3000 n ∧ ∀ H', Same H H' → Q (.int (a + n * b).floor) H'
def spFrom (C : Addr) : Sp := fun vs H Q _ => ∃ (v u : V) (a b : Rat) (n : Int), vs = [v, u, .int n] ∧ Rv C H v a ∧ Rv C H u b ∧ Rz 600 a ∧ Rz 600 b ∧ Sz 3000 n ∧ b ≠ 0 ∧ ∀ H', Same H H' → Q (.int (((n : Rat) - a) / b).ceil) H'
def spUnfit (C : Addr) : Sp := fun vs H Q _ => ∃ (v u : V) (m y : Rat), vs = [v, u] ∧ Rv C H v m ∧ Rv C H u y ∧ Rz 600 m ∧ Rz 600 y ∧ Fit m y ∧ ∀ H', Same H H' → Q .non H'
/-- a moment that may not be told -/
def Mv (C : Addr) (H : Hp) (v : V) (q : Rat) : Prop := (v = .non ∧ q = 0) ∨ Rv C H v q
theorem Mv.same {C : Addr} {H H1 : Hp} {v : V} {q : Rat} (h : Mv C H v q) (s : Same H H1) : Mv C H1 v q := by
  rcases h with h | h
  · exact .inl h
  · exact .inr (h.same s)
def spMoment (C : Addr) : Sp := fun vs H Q _ => ∃ (v : V) (q : Rat), vs = [v] ∧ Mv C H v q ∧ Rz 600 q ∧ ∀ p H', Same H H' → Sh C H' p q → Q (.ref p) H'
/-- the functions over Shares that Calendar uses -/
structure ShF (P : Program) (w : World) (K : PySem.W.Frag) (mg : Str → Option Value) (base : Heap) (C : Addr) : Prop where
  T : ShX K C
  mkS : Ci P w K mg base CX0 2 "Share" C "Share.__init__" s_Share_init [.int 1] ["self", "top", "bottom"] (spShI C)
  asS : Ca P w K mg base CX0 4 "as_share" s_as_share [] ["number"] (spAs C)
  plus : Ca P w K mg base CX0 5 "plus" s_plus [] ["one", "two"] (spTwo C (fun _ _ => True) (fun a b => a + b))
  minus : Ca P w K mg base CX0 5 "minus" s_minus [] ["one", "two"] (spTwo C (fun _ _ => True) (fun a b => a - b))
  times : Ca P w K mg base CX0 5 "times" s_times [] ["one", "two"] (spTwo C (fun _ _ => True) (fun a b => a * b))
  over : Ca P w K mg base CX0 5 "over" s_over [] ["one", "two"] (spTwo C (fun _ b => b ≠ 0) (fun a b => a / b))
  before : Ca P w K mg base CX0 5 "before" s_before [] ["one", "two"] (spBefore C)
  whole : Ca P w K mg base CX0 5 "whole" s_whole [] ["share"] (spOne C Rat.floor)
  up : Ca P w K mg base CX0 5 "rounded_up" s_rounded_up [] ["share"] (spOne C Rat.ceil)
  marks : ∃ t, mg "MARKS" = some (.int 12 t)
section
variable {P : Program} {w : World} {K : PySem.W.Frag} {mg : Str → Option Value} {base : Heap} {C : Addr}
theorem ok_tw (D : Df K mg "twelfth" s_twelfth []) (F : ShF P w K mg base C) : Ca P w K mg base CX0 6 "twelfth" s_twelfth [] ["year"] (spTw C) := by
  refine ca0 (k := 5) D c_twelfth (fun vs H Q E h => ?_) fun f cdv A outer s H vs Q E hr h => ?_
  · obtain ⟨v, q, rfl, _⟩ := h
    rfl
  · obtain ⟨v, a, rfl, hv, za, q⟩ := h
    obtain ⟨tk, hM⟩ := F.marks
    refine ⟨_, pss_one (ps_ret (pe_ca F.over b_over hr (by decide) pass0 rfl (pa_cons (pv 0) (pa_cons (pe_glob (v := .int 12) rfl hM ⟨_, rfl⟩) pa_nil)))), ?_⟩
    exact ⟨_, rfl, v, .int 12, a, _, rfl, hv, Rv.int, za.mono (by decide), Rz.int (szi 12) (by decide), twelve_ne, q⟩
end
section
variable {P : Program} {w : World} {K : PySem.W.Frag} {mg : Str → Option Value} {base : Heap} {C : Addr}
theorem ok_nth (D : Df K mg "nth_day" s_nth_day []) (F : ShF P w K mg base C) : Ca P w K mg base CX0 6 "nth_day" s_nth_day [] ["first", "step", "n"] (spNth C) := by
  refine ca0 (k := 5) D c_nth_day (fun vs H Q E h => ?_) fun f cdv A outer s H vs Q E hr h => ?_
  · obtain ⟨v, u, a, b, n, rfl, _⟩ := h
    rfl
  · obtain ⟨v, u, a, b, n, rfl, hv, hu, za, zb, zn, q⟩ := h
    refine ⟨_, pss_one (ps_ret (pe_ca F.whole b_whole hr (by decide) pass0 rfl (pa_cons (pe_ca F.plus b_plus hr (by decide) pass0 rfl (pa_cons (pv 0) (pa_cons (pe_ca F.times b_times hr (by decide) pass0 rfl (pa_cons (pv 2) (pa_cons (pv 1) pa_nil))) pa_nil))) pa_nil))), ?_⟩
    have zi : Rz 3000 (n : Rat) := Rz.int zn (by decide)
    refine ⟨_, rfl, _, rfl, _, rfl, .int n, u, n, b, rfl, Rv.int, hu, zi.mono (by decide), zb.mono (by decide), trivial, fun p1 H1 n1 s1 h1 => ?_⟩
    have z1 : Rz 3700 (n * b) := zi.mul zb (by decide)
    refine ⟨v, .ref p1, a, _, rfl, hv.same s1, h1.rv, za.mono (by decide), z1.mono (by decide), trivial, fun p2 H2 n2 s2 h2 => ?_⟩
    have z2 : Rz 4500 (a + n * b) := za.add z1 (by decide)
    exact ⟨.ref p2, _, rfl, h2.rv, z2.mono (by decide), fun H3 s3 => q H3 (s1.trans (s2.trans s3))⟩
end
section
variable {P : Program} {w : World} {K : PySem.W.Frag} {mg : Str → Option Value} {base : Heap} {C : Addr}
theorem ok_from (D : Df K mg "first_from" s_first_from []) (F : ShF P w K mg base C) : Ca P w K mg base CX0 6 "first_from" s_first_from [] ["first", "step", "day"] (spFrom C) := by
  refine ca0 (k := 5) D c_first_from (fun vs H Q E h => ?_) fun f cdv A outer s H vs Q E hr h => ?_
  · obtain ⟨v, u, a, b, n, rfl, _⟩ := h
    rfl
  · obtain ⟨v, u, a, b, n, rfl, hv, hu, za, zb, zn, nb, q⟩ := h
    refine ⟨_, pss_one (ps_ret (pe_ca F.up b_rounded_up hr (by decide) pass0 rfl (pa_cons (pe_ca F.over b_over hr (by decide) pass0 rfl (pa_cons (pe_ca F.minus b_minus hr (by decide) pass0 rfl (pa_cons (pv 2) (pa_cons (pv 0) pa_nil))) (pa_cons (pv 1) pa_nil))) pa_nil))), ?_⟩
    have zi : Rz 3000 (n : Rat) := Rz.int zn (by decide)
    refine ⟨_, rfl, _, rfl, .int n, v, n, a, rfl, Rv.int, hv, zi.mono (by decide), za.mono (by decide), trivial, fun p1 H1 n1 s1 h1 => ?_⟩
    have z1 : Rz 3700 ((n : Rat) - a) := zi.sub za (by decide)
    refine ⟨_, rfl, .ref p1, u, _, b, rfl, h1.rv, hu.same s1, z1.mono (by decide), zb.mono (by decide), nb, fun p2 H2 n2 s2 h2 => ?_⟩
    have z2 : Rz 4500 (((n : Rat) - a) / b) := z1.div zb nb (by decide)
    exact ⟨.ref p2, _, rfl, h2.rv, z2.mono (by decide), fun H3 s3 => q H3 (s1.trans (s2.trans s3))⟩
end
section
variable {P : Program} {w : World} {K : PySem.W.Frag} {mg : Str → Option Value} {base : Heap} {C : Addr}
theorem ok_moment (D : Df K mg "moment_or_nought" s_moment_or_nought []) (F : ShF P w K mg base C) : Ca P w K mg base CX0 6 "moment_or_nought" s_moment_or_nought [] ["moment"] (spMoment C) := by
  refine ca0 (k := 5) D c_moment_or_nought (fun vs H Q E h => ?_) fun f cdv A outer s H vs Q E hr h => ?_
  · obtain ⟨v, q, rfl, _⟩ := h
    rfl
  · obtain ⟨v, a, rfl, hv, za, q⟩ := h
    refine ⟨_, pss_cons (ps_if (pt_cmp (pc_isN (pv 0))) (pss_one (ps_ret (pe_ci F.mkS bd_Share1 (by decide) rfl hr (by decide) pass0 rfl (pa_cons pe_int pa_nil)))) pss_nil)
      (pss_one (ps_ret (pe_ca F.asS b_as_share hr (by decide) pass0 rfl (pa_cons (pv 0) pa_nil)))), ?_⟩
    rcases hv with ⟨rfl, rfl⟩ | hv
    · refine ⟨_, rfl, _, rfl, iteT ?_⟩
      refine made_sh (by decide) (szi 0) (szi 1) fun p H' _ hs hp => ?_
      rw [divInt_one] at hp
      exact q p H' hs hp
    · have hn : v ≠ .non := by
        rcases hv with ⟨i, rfl, _⟩ | ⟨p, rfl, _⟩ <;> exact fun z => nomatch z
      refine ⟨_, rfl, _, rfl, ?_⟩
      rw [decide_eq_false hn]
      refine iteF ?_
      exact ⟨_, rfl, v, a, rfl, hv, za.mono (by decide), q⟩
end
section
variable {P : Program} {w : World} {K : PySem.W.Frag} {mg : Str → Option Value} {base : Heap} {C : Addr}
theorem ok_unfit (D : Df K mg "refuse_unfit" s_refuse_unfit []) (F : ShF P w K mg base C) (tw : Ca P w K mg base CX0 6 "twelfth" s_twelfth [] ["year"] (spTw C)) : Ca P w K mg base CX0 7 "refuse_unfit" s_refuse_unfit [] ["month", "year"] (spUnfit C) := by
  refine ca0 (k := 6) D c_refuse_unfit (fun vs H Q E h => ?_) fun f cdv A outer s H vs Q E hr h => ?_
  · obtain ⟨v, u, m, y, rfl, _⟩ := h
    rfl
  · obtain ⟨v, u, m, y, rfl, hv, hu, zm, zy, ft, q⟩ := h
    obtain ⟨tk, hM⟩ := F.marks
    refine ⟨_, pss_cons (ps_if (pt_val (pe_ca F.before b_before hr (by decide) pass0 rfl (pa_cons (pv 0) (pa_cons pe_int pa_nil)))) (pss_one ps_never) pss_nil)
      (pss_cons (ps_if (pt_val (pe_ca F.before b_before hr (by decide) pass0 rfl (pa_cons (pe_ca tw b_twelfth hr (by decide) pass0 rfl (pa_cons (pv 1) pa_nil)) (pa_cons (pe_ca F.up b_rounded_up hr (by decide) pass0 rfl (pa_cons (pv 0) pa_nil)) pa_nil)))) (pss_one ps_never) pss_nil)
      (pss_one (ps_if (pt_val (pe_ca F.before b_before hr (by decide) pass0 rfl (pa_cons (pe_ca F.times b_times hr (by decide) pass0 rfl (pa_cons (pe_op op_add (pe_glob (v := .int 12) rfl hM ⟨_, rfl⟩) pe_int) (pa_cons (pv 0) pa_nil)))
        (pa_cons (pe_ca F.plus b_plus hr (by decide) pass0 rfl (pa_cons (pv 1) (pa_cons pe_int pa_nil))) pa_nil)))) (pss_one ps_never) pss_nil))), ?_⟩
    refine ⟨_, rfl, v, .int 1, m, _, rfl, hv, Rv.int, zm.mono (by decide), Rz.int (szi 1) (by decide), fun H1 s1 => ⟨_, rfl, ?_⟩⟩
    rw [decide_eq_false (show ¬ m < ((1 : Int) : Rat) from Rat.not_lt.mpr ft.one)]
    refine iteF ?_
    refine ⟨_, rfl, u, y, rfl, hu.same s1, zy.mono (by decide), fun p2 H2 n2 s2 h2 => ?_⟩
    refine ⟨_, rfl, v, m, rfl, hv.same (s1.trans s2), zm.mono (by decide), fun H3 s3 => ?_⟩
    have z2 : Rz 700 (y / 12) := zy.div (l := 4) (Rz.int (szi 12) (by decide)) twelve_ne (by decide)
    refine ⟨.ref p2, .int m.ceil, _, _, rfl, (h2.same s3).rv, Rv.int, z2.mono (by decide), Rz.int ((Sz.ceil zm).mono (by decide)) (by decide), fun H4 s4 => ⟨_, rfl, ?_⟩⟩
    rw [decide_eq_false (show ¬ y / 12 < (m.ceil : Rat) from Rat.not_lt.mpr ft.between)]
    refine iteF ?_
    have s14 : Same H H4 := s1.trans (s2.trans (s3.trans s4))
    refine ⟨_, _, rfl, rfl, _, rfl, .int 13, v, _, m, rfl, Rv.int, hv.same s14, Rz.int (szi 13) (by decide), zm.mono (by decide), trivial, fun p5 H5 n5 s5 h5 => ?_⟩
    refine ⟨_, rfl, u, .int 1, y, _, rfl, hu.same (s14.trans s5), Rv.int, zy.mono (by decide), Rz.int (szi 1) (by decide), trivial, fun p6 H6 n6 s6 h6 => ?_⟩
    have z5 : Rz 700 (((13 : Int) : Rat) * m) := Rz.mul (n := 4) (Rz.int (szi 13) (by decide)) zm (by decide)
    have z6 : Rz 700 (y + ((1 : Int) : Rat)) := zy.add (l := 1) (Rz.int (szi 1) (by decide)) (by decide)
    refine ⟨.ref p5, .ref p6, _, _, rfl, (h5.same s6).rv, h6.rv, z5.mono (by decide), z6.mono (by decide), fun H7 s7 => ⟨_, rfl, ?_⟩⟩
    rw [decide_eq_false (show ¬ ((13 : Int) : Rat) * m < y + ((1 : Int) : Rat) from Rat.not_lt.mpr ft.thirteen)]
    refine iteF ?_
    exact q H7 (s14.trans (s5.trans (s6.trans s7)))
end
/-! ### Calendar -/
def cfs (a b c d : Addr) : List (Str × V) := putF "mark" (.ref d) (putF "moon" (.ref c) (putF "year" (.ref b) (putF "month" (.ref a) [])))
theorem my_ : ¬ (("month" : Str) = "year") := by decide +kernel
theorem mm_ : ¬ (("month" : Str) = "moon") := by decide +kernel
theorem mk_ : ¬ (("month" : Str) = "mark") := by decide +kernel
theorem ym_ : ¬ (("year" : Str) = "moon") := by decide +kernel
theorem yk_ : ¬ (("year" : Str) = "mark") := by decide +kernel
theorem ok_ : ¬ (("moon" : Str) = "mark") := by decide +kernel
theorem cf_month (a b c d : Addr) : (cfs a b c d).lookup ("month" : Str) = some (.ref a) := by
  unfold cfs
  rw [lookup_putF, if_neg mk_, lookup_putF, if_neg mm_, lookup_putF, if_neg my_, lookup_putF, if_pos rfl]
theorem cf_year (a b c d : Addr) : (cfs a b c d).lookup ("year" : Str) = some (.ref b) := by
  unfold cfs
  rw [lookup_putF, if_neg yk_, lookup_putF, if_neg ym_, lookup_putF, if_pos rfl]
theorem cf_moon (a b c d : Addr) : (cfs a b c d).lookup ("moon" : Str) = some (.ref c) := by
  unfold cfs
  rw [lookup_putF, if_neg ok_, lookup_putF, if_pos rfl]
theorem cf_mark (a b c d : Addr) : (cfs a b c d).lookup ("mark" : Str) = some (.ref d) := by
  unfold cfs
  rw [lookup_putF, if_pos rfl]
theorem cf_no (a b c d : Addr) {m : Str} (h1 : ¬ m = "mark" := by decide +kernel) (h2 : ¬ m = "moon" := by decide +kernel) (h3 : ¬ m = "year" := by decide +kernel) (h4 : ¬ m = "month" := by decide +kernel) : (cfs a b c d).lookup m = none := by
  unfold cfs
  rw [lookup_putF, if_neg h1, lookup_putF, if_neg h2, lookup_putF, if_neg h3, lookup_putF, if_neg h4]
  rfl
structure CaT (K : PySem.W.Frag) (C Cc : Addr) : Prop where
  cl : Cls K Cc
  n1 : NoAttr K Cc "month"
  n2 : NoAttr K Cc "year"
  n3 : NoAttr K Cc "moon"
  n4 : NoAttr K Cc "mark"
  ne : Cc ≠ C
/-- at p a Calendar of these four -/
def Cl (C Cc : Addr) (H : Hp) (p : Addr) (m y o k : Rat) : Prop := ∃ dx a b c d, H p = some (.ins Cc dx (cfs a b c d)) ∧ Sh C H a m ∧ Sh C H b y ∧ Sh C H c o ∧ Sh C H d k
theorem Cl.same {C Cc : Addr} {H H1 : Hp} {p : Addr} {m y o k : Rat} (h : Cl C Cc H p m y o k) (s : Same H H1) : Cl C Cc H1 p m y o k := by
  obtain ⟨dx, a, b, c, d, e, h1, h2, h3, h4⟩ := h
  exact ⟨dx, a, b, c, d, s _ _ e, h1.same s, h2.same s, h3.same s, h4.same s⟩
/-- one that can be reckoned with -/
structure Good (m y o k : Rat) : Prop where
  fit : Fit m y
  zm : Rz 70 m
  zy : Rz 70 y
  zo : Rz 70 o
  zk : Rz 70 k
/-- one of a kept form, or one that is alike -/
structure GoodW (m y o k : Rat) : Prop where
  fit : Fit m y
  zm : Rz 100 m
  zy : Rz 100 y
  zo : Rz 500 o
  zk : Rz 500 k
theorem Good.w {m y o k : Rat} (g : Good m y o k) : GoodW m y o k := ⟨g.fit, g.zm.mono (by decide), g.zy.mono (by decide), g.zo.mono (by decide), g.zk.mono (by decide)⟩
theorem Sh.put {C Cc : Addr} {H : Hp} {p dx a : Addr} {fs gs : List (Str × V)} {q : Rat} (ne : Cc ≠ C) (hp : H p = some (.ins Cc dx fs)) (h : Sh C H a q) : Sh C (upd H p (.ins Cc dx gs)) a q := by
  obtain ⟨d, e⟩ := h
  refine ⟨d, ?_⟩
  rw [upd_ne (ne_of e hp fun z => ne (by injection z with z1 z2 z3; exact z1.symm))]
  exact e
theorem Rv.put {C Cc : Addr} {H : Hp} {p dx : Addr} {v : V} {fs gs : List (Str × V)} {q : Rat} (ne : Cc ≠ C) (hp : H p = some (.ins Cc dx fs)) (h : Rv C H v q) : Rv C (upd H p (.ins Cc dx gs)) v q := by
  rcases h with h | ⟨a, e, h⟩
  · exact .inl h
  · exact .inr ⟨a, e, h.put ne hp⟩
theorem Mv.put {C Cc : Addr} {H : Hp} {p dx : Addr} {v : V} {fs gs : List (Str × V)} {q : Rat} (ne : Cc ≠ C) (hp : H p = some (.ins Cc dx fs)) (h : Mv C H v q) : Mv C (upd H p (.ins Cc dx gs)) v q := by
  rcases h with h | h
  · exact .inl h
  · exact .inr (h.put ne hp)
theorem But.put {l : Addr} {H H1 : Hp} {o : HO} (a : But l H H1) : But l H (L2.upd H1 l o) := fun c u hc e => by
  rw [upd_ne hc]
  exact a c u hc e
/-! the methods -/
def spM1 (C Cc : Addr) (n : Nat) (g : Rat → Rat → Rat → Rat → Int → V) : Sp := fun vs H Q _ => ∃ (p : Addr) (i : Int) (m y o k : Rat), vs = [.ref p, .int i] ∧ Cl C Cc H p m y o k ∧ Good m y o k ∧ Sz n i ∧ ∀ H', Same H H' → Q (g m y o k i) H'
def miF (m y o k : Rat) (i : Int) : V := if mdF y k (jF y k (stF m o i)) < stF m o (i + 1) then .int (jF y k (stF m o i)) else .non
theorem Good.ztw {m y o k : Rat} (g : Good m y o k) : Rz 80 (y / 12) := g.zy.div (l := 4) (Rz.int (szi 12) (by decide)) twelve_ne (by decide)
theorem Good.zst {m y o k : Rat} (g : Good m y o k) {n l : Nat} {i : Int} (h : Sz n i) (h0 : 0 < n) (hl : n + 150 < l) : Sz l (stF m o i) := (Sz.floor (Rz.add (m := n + 150) g.zo (Rz.mul (m := n + 75) (Rz.int h h0) g.zm (by omega)) (by omega))).mono (by omega)
theorem Good.zmd {m y o k : Rat} (g : Good m y o k) {n l : Nat} {i : Int} (h : Sz n i) (h0 : 0 < n) (hl : n + 160 < l) : Sz l (mdF y k i) := (Sz.floor (Rz.add (m := n + 160) g.zk (Rz.mul (m := n + 85) (Rz.int h h0) g.ztw (by omega)) (by omega))).mono (by omega)
theorem Good.zj {m y o k : Rat} (g : Good m y o k) {n l : Nat} {i : Int} (h : Sz n i) (h0 : 0 < n) (hl : n + 160 < l) : Sz l (jF y k i) := (Sz.ceil (Rz.div (m := n + 160) (Rz.sub (m := n + 75) (Rz.int h h0) g.zk (by omega)) g.ztw (by have := g.fit.ypos; grind) (by omega))).mono (by omega)
def spCaI (C Cc : Addr) : Sp := fun vs H Q _ => ∃ (p dx : Addr) (v u x z : V) (m y o k : Rat), vs = [.ref p, v, u, x, z] ∧ H p = some (.ins Cc dx []) ∧ Rv C H v m ∧ Rv C H u y ∧ Mv C H x o ∧ Mv C H z k ∧ Good m y o k ∧
  ∀ H', But p H H' → Cl C Cc H' p m y o k → Q .non H'
section
variable {P : Program} {w : World} {K : PySem.W.Frag} {mg : Str → Option Value} {base : Heap} {C Cc : Addr}
theorem ok_caI (D : Di K mg "Calendar" Cc "Calendar.__init__" s_Calendar_init [.non, .non]) (T : CaT K C Cc) (F : ShF P w K mg base C) (un : Ca P w K mg base CX0 7 "refuse_unfit" s_refuse_unfit [] ["month", "year"] (spUnfit C))
    (mo : Ca P w K mg base CX0 6 "moment_or_nought" s_moment_or_nought [] ["moment"] (spMoment C)) :
    Ci P w K mg base CX0 8 "Calendar" Cc "Calendar.__init__" s_Calendar_init [.non, .non] ["self", "month", "year", "moon", "mark"] (spCaI C Cc) := by
  refine ci0 (k := 7) D c_Calendar_init (fun vs H Q E h => ?_) fun f cdv A outer s H vs Q E hr h => ?_
  · obtain ⟨p, dx, v, u, x, z, m, y, o, k, rfl, _⟩ := h
    rfl
  · obtain ⟨p, dx, v, u, x, z, m, y, o, k, rfl, hp, hv, hu, hx, hz, g, q⟩ := h
    refine ⟨_, pss_cons (ps_expr (pe_ca un b_refuse_unfit hr (by decide) pass0 rfl (pa_cons (pv 1) (pa_cons (pv 2) pa_nil))))
      (pss_cons (ps_fld (pv 0) (pe_ca F.asS b_as_share hr (by decide) pass0 rfl (pa_cons (pv 1) pa_nil)) rfl)
      (pss_cons (ps_fld (pv 0) (pe_ca F.asS b_as_share hr (by decide) pass0 rfl (pa_cons (pv 2) pa_nil)) rfl)
      (pss_cons (ps_fld (pv 0) (pe_ca mo b_moment_or_nought hr (by decide) pass0 rfl (pa_cons (pv 3) pa_nil)) rfl)
      (pss_one (ps_fld (pv 0) (pe_ca mo b_moment_or_nought hr (by decide) pass0 rfl (pa_cons (pv 4) pa_nil)) rfl))))), ?_⟩
    refine ⟨_, rfl, _, rfl, v, u, m, y, rfl, hv, hu, g.zm.mono (by decide), g.zy.mono (by decide), g.fit, fun H1 s1 => ?_⟩
    refine ⟨_, rfl, v, m, rfl, hv.same s1, g.zm.mono (by decide), fun a H2 s2 ha => ?_⟩
    have hp2 := s2 _ _ (s1 _ _ hp)
    refine ⟨_, rfl, p, Cc, dx, _, rfl, hp2, T.cl, T.n1, (by show 0 < 1000; decide), ?_⟩
    refine ⟨_, rfl, u, y, rfl, ((hu.same s1).same s2).put T.ne hp2, g.zy.mono (by decide), fun b H3 s3 hb => ?_⟩
    have hp3 := s3 _ _ (upd_same (H := H2) (a := p))
    refine ⟨_, rfl, p, Cc, dx, _, rfl, hp3, T.cl, T.n2, (by show 1 < 1000; decide), ?_⟩
    refine ⟨_, rfl, x, o, rfl, ((((hx.same s1).same s2).put T.ne hp2).same s3).put T.ne hp3, g.zo.mono (by decide), fun c H4 s4 hc => ?_⟩
    have hp4 := s4 _ _ (upd_same (H := H3) (a := p))
    refine ⟨_, rfl, p, Cc, dx, _, rfl, hp4, T.cl, T.n3, (by show 2 < 1000; decide), ?_⟩
    refine ⟨_, rfl, z, k, rfl, ((((((hz.same s1).same s2).put T.ne hp2).same s3).put T.ne hp3).same s4).put T.ne hp4, g.zk.mono (by decide), fun d H5 s5 hd => ?_⟩
    have hp5 := s5 _ _ (upd_same (H := H4) (a := p))
    refine ⟨_, rfl, p, Cc, dx, _, rfl, hp5, T.cl, T.n4, (by show 3 < 1000; decide), ?_⟩
    refine q _ ?_ ⟨dx, a, b, c, d, upd_same, ?_, ?_, ?_, hd.put T.ne hp5⟩
    · have b1 : But p H H2 := But.same (s1.trans s2)
      have b2 : But p H H3 := b1.put.trans (But.same s3)
      have b3 : But p H H4 := b2.put.trans (But.same s4)
      exact (b3.put.trans (But.same s5)).put
    · exact (((((((ha.put T.ne hp2).same s3).put T.ne hp3).same s4).put T.ne hp4).same s5).put T.ne hp5)
    · exact (((((hb.put T.ne hp3).same s4).put T.ne hp4).same s5).put T.ne hp5)
    · exact (((hc.put T.ne hp4).same s5).put T.ne hp5)
end
section
variable {P : Program} {w : World} {K : PySem.W.Frag} {mg : Str → Option Value} {base : Heap} {C Cc : Addr}
theorem ok_start (D : Dm K Cc "start" "Calendar.start" s_Calendar_start) (T : CaT K C Cc) (nth : Ca P w K mg base CX0 6 "nth_day" s_nth_day [] ["first", "step", "n"] (spNth C)) :
    Cm P w K mg base CX0 7 Cc "start" "Calendar.start" s_Calendar_start ["self", "k"] (spM1 C Cc 3000 fun m _ o _ i => .int (stF m o i)) := by
  refine cm0 (k := 6) D c_Calendar_start (fun vs H Q E h => ?_) fun f cdv A outer s H vs Q E hr h => ?_
  · obtain ⟨p, i, m, y, o, k, rfl, _⟩ := h
    rfl
  · obtain ⟨p, i, m, y, o, k, rfl, ⟨dx, a, b, c, d, e, h1, h2, h3, h4⟩, g, zi, q⟩ := h
    refine ⟨_, pss_one (ps_ret (pe_ca nth b_nth_day hr (by decide) pass0 rfl (pa_cons (pe_fld (pv 0) rfl) (pa_cons (pe_fld (pv 0) rfl) (pa_cons (pv 1) pa_nil))))), ?_⟩
    exact ⟨_, rfl, p, Cc, dx, _, _, rfl, e, T.cl, T.n3, cf_moon _ _ _ _, _, rfl, p, Cc, dx, _, _, rfl, e, T.cl, T.n1, cf_month _ _ _ _, _, rfl, _, _, o, m, i, rfl, h3.rv, h1.rv, g.zo.mono (by decide), g.zm.mono (by decide), zi, q⟩
end
section
variable {P : Program} {w : World} {K : PySem.W.Frag} {mg : Str → Option Value} {base : Heap} {C Cc : Addr}
theorem ok_month_at (D : Dm K Cc "month_at" "Calendar.month_at" s_Calendar_month_at) (T : CaT K C Cc) (fr : Ca P w K mg base CX0 6 "first_from" s_first_from [] ["first", "step", "day"] (spFrom C)) :
    Cm P w K mg base CX0 7 Cc "month_at" "Calendar.month_at" s_Calendar_month_at ["self", "day"] (spM1 C Cc 2900 fun m _ o _ i => .int (maF m o i)) := by
  refine cm0 (k := 6) D c_Calendar_month_at (fun vs H Q E h => ?_) fun f cdv A outer s H vs Q E hr h => ?_
  · obtain ⟨p, i, m, y, o, k, rfl, _⟩ := h
    rfl
  · obtain ⟨p, i, m, y, o, k, rfl, ⟨dx, a, b, c, d, e, h1, h2, h3, h4⟩, g, zi, q⟩ := h
    refine ⟨_, pss_one (ps_ret (pe_op op_sub (pe_ca fr b_first_from hr (by decide) pass0 rfl (pa_cons (pe_fld (pv 0) rfl) (pa_cons (pe_fld (pv 0) rfl) (pa_cons (pe_op op_add (pv 1) pe_int) pa_nil)))) pe_int)), ?_⟩
    refine ⟨_, rfl, p, Cc, dx, _, _, rfl, e, T.cl, T.n3, cf_moon _ _ _ _, _, rfl, p, Cc, dx, _, _, rfl, e, T.cl, T.n1, cf_month _ _ _ _, _, rfl, _, _, rfl, rfl, _, _, o, m, i + 1, rfl, h3.rv, h1.rv, g.zo.mono (by decide), g.zm.mono (by decide), ?_, (by have := g.fit.pos; grind), fun H' hs => ⟨_, _, rfl, rfl, q H' hs⟩⟩
    exact Sz.add (n := 2900) zi (szi 1 (Nat.one_lt_two_pow (by decide))) (by decide)
end
section
variable {P : Program} {w : World} {K : PySem.W.Frag} {mg : Str → Option Value} {base : Heap} {C Cc : Addr}
theorem ok_mark_day (D : Dm K Cc "mark_day" "Calendar.mark_day" s_Calendar_mark_day) (T : CaT K C Cc) (nth : Ca P w K mg base CX0 6 "nth_day" s_nth_day [] ["first", "step", "n"] (spNth C)) (tw : Ca P w K mg base CX0 6 "twelfth" s_twelfth [] ["year"] (spTw C)) :
    Cm P w K mg base CX0 7 Cc "mark_day" "Calendar.mark_day" s_Calendar_mark_day ["self", "j"] (spM1 C Cc 3000 fun _ y _ k i => .int (mdF y k i)) := by
  refine cm0 (k := 6) D c_Calendar_mark_day (fun vs H Q E h => ?_) fun f cdv A outer s H vs Q E hr h => ?_
  · obtain ⟨p, i, m, y, o, k, rfl, _⟩ := h
    rfl
  · obtain ⟨p, i, m, y, o, k, rfl, ⟨dx, a, b, c, d, e, h1, h2, h3, h4⟩, g, zi, q⟩ := h
    refine ⟨_, pss_one (ps_ret (pe_ca nth b_nth_day hr (by decide) pass0 rfl (pa_cons (pe_fld (pv 0) rfl) (pa_cons (pe_ca tw b_twelfth hr (by decide) pass0 rfl (pa_cons (pe_fld (pv 0) rfl) pa_nil)) (pa_cons (pv 1) pa_nil))))), ?_⟩
    refine ⟨_, rfl, p, Cc, dx, _, _, rfl, e, T.cl, T.n4, cf_mark _ _ _ _, _, rfl, p, Cc, dx, _, _, rfl, e, T.cl, T.n2, cf_year _ _ _ _, _, y, rfl, h2.rv, g.zy.mono (by decide), fun p1 H1 n1 s1 t1 => ?_⟩
    exact ⟨_, rfl, _, _, k, _, i, rfl, (h4.same s1).rv, t1.rv, g.zk.mono (by decide), g.ztw.mono (by decide), zi, fun H' hs => q H' (s1.trans hs)⟩
end
section
variable {P : Program} {w : World} {K : PySem.W.Frag} {mg : Str → Option Value} {base : Heap} {C Cc : Addr}
theorem ok_month_with (D : Dm K Cc "month_with" "Calendar.month_with" s_Calendar_month_with) (T : CaT K C Cc)
    (ma : Cm P w K mg base CX0 7 Cc "month_at" "Calendar.month_at" s_Calendar_month_at ["self", "day"] (spM1 C Cc 2900 fun m _ o _ i => .int (maF m o i)))
    (md : Cm P w K mg base CX0 7 Cc "mark_day" "Calendar.mark_day" s_Calendar_mark_day ["self", "j"] (spM1 C Cc 3000 fun _ y _ k i => .int (mdF y k i))) :
    Cm P w K mg base CX0 8 Cc "month_with" "Calendar.month_with" s_Calendar_month_with ["self", "j"] (spM1 C Cc 2000 fun m y o k i => .int (maF m o (mdF y k i))) := by
  refine cm0 (k := 7) D c_Calendar_month_with (fun vs H Q E h => ?_) fun f cdv A outer s H vs Q E hr h => ?_
  · obtain ⟨p, i, m, y, o, k, rfl, _⟩ := h
    rfl
  · obtain ⟨p, i, m, y, o, k, rfl, hc, g, zi, q⟩ := h
    obtain ⟨dx, a, b, c, d, e, h1, h2, h3, h4⟩ := id hc
    refine ⟨_, pss_one (ps_ret (pe_cm ma b_Calendar_month_at hr (by decide) pass0 (pv 0) (pa_cons (pe_cm md b_Calendar_mark_day hr (by decide) pass0 (pv 0) (pa_cons (pv 1) pa_nil)) pa_nil))), ?_⟩
    refine ⟨_, rfl, p, dx, _, rfl, e, cf_no _ _ _ _, _, rfl, p, dx, _, rfl, e, cf_no _ _ _ _, _, rfl, p, i, m, y, o, k, rfl, hc, g, zi.mono (by decide), fun H1 s1 => ?_⟩
    exact ⟨p, _, m, y, o, k, rfl, hc.same s1, g, g.zmd zi (by decide) (by decide), fun H2 s2 => q H2 (s1.trans s2)⟩
end
section
variable {P : Program} {w : World} {K : PySem.W.Frag} {mg : Str → Option Value} {base : Heap} {C Cc : Addr}
theorem ok_mark_in (D : Dm K Cc "mark_in" "Calendar.mark_in" s_Calendar_mark_in) (T : CaT K C Cc) (fr : Ca P w K mg base CX0 6 "first_from" s_first_from [] ["first", "step", "day"] (spFrom C)) (tw : Ca P w K mg base CX0 6 "twelfth" s_twelfth [] ["year"] (spTw C))
    (stt : Cm P w K mg base CX0 7 Cc "start" "Calendar.start" s_Calendar_start ["self", "k"] (spM1 C Cc 3000 fun m _ o _ i => .int (stF m o i)))
    (md : Cm P w K mg base CX0 7 Cc "mark_day" "Calendar.mark_day" s_Calendar_mark_day ["self", "j"] (spM1 C Cc 3000 fun _ y _ k i => .int (mdF y k i))) :
    Cm P w K mg base CX0 8 Cc "mark_in" "Calendar.mark_in" s_Calendar_mark_in ["self", "k"] (spM1 C Cc 1400 miF) := by
  refine cm0 (k := 7) D c_Calendar_mark_in (fun vs H Q E h => ?_) fun f cdv A outer s H vs Q E hr h => ?_
  · obtain ⟨p, i, m, y, o, k, rfl, _⟩ := h
    rfl
  · obtain ⟨p, i, m, y, o, k, rfl, hc, g, zi, q⟩ := h
    obtain ⟨dx, a, b, c, d, e, h1, h2, h3, h4⟩ := id hc
    refine ⟨_, pss_cons (ps_set (i := 2) c_Calendar_mark_in.nd rfl (.inl rfl) (pe_ca fr b_first_from hr (by decide) pass0 rfl (pa_cons (pe_fld (pv 0) rfl) (pa_cons (pe_ca tw b_twelfth hr (by decide) pass0 rfl (pa_cons (pe_fld (pv 0) rfl) pa_nil)) (pa_cons (pe_cm stt b_Calendar_start hr (by decide) pass0 (pv 0) (pa_cons (pv 1) pa_nil)) pa_nil)))))
      (pss_cons (ps_if (pt_cmpR op_lt (pe_cm md b_Calendar_mark_day hr (by decide) pass0 (pv 0) (pa_cons (pv 2) pa_nil)) (pe_cm stt b_Calendar_start hr (by decide) pass0 (pv 0) (pa_cons (pe_op op_add (pv 1) pe_int) pa_nil)) (nomark _)) (pss_one (ps_ret (pv 2))) pss_nil)
      (pss_one (ps_ret pe_non))), ?_⟩
    have zs : Sz 2100 (stF m o i) := g.zst zi (by decide) (by decide)
    have zj : Sz 2900 (jF y k (stF m o i)) := g.zj zs (by decide) (by decide)
    refine ⟨_, rfl, p, Cc, dx, _, _, rfl, e, T.cl, T.n4, cf_mark _ _ _ _, _, rfl, p, Cc, dx, _, _, rfl, e, T.cl, T.n2, cf_year _ _ _ _, _, y, rfl, h2.rv, g.zy.mono (by decide), fun p1 H1 n1 s1 t1 => ?_⟩
    refine ⟨_, rfl, p, dx, _, rfl, s1 _ _ e, cf_no _ _ _ _, _, rfl, p, i, m, y, o, k, rfl, hc.same s1, g, zi.mono (by decide), fun H2 s2 => ?_⟩
    have s12 : Same H H2 := s1.trans s2
    refine ⟨_, _, k, _, _, rfl, (h4.same s12).rv, (t1.same s2).rv, g.zk.mono (by decide), g.ztw.mono (by decide), zs.mono (by decide), (by have := g.fit.ypos; grind), fun H3 s3 => ?_⟩
    have s13 : Same H H3 := s12.trans s3
    refine ⟨_, rfl, p, dx, _, rfl, s13 _ _ e, cf_no _ _ _ _, _, rfl, p, _, m, y, o, k, rfl, hc.same s13, g, zj.mono (by decide), fun H4 s4 => ?_⟩
    have s14 : Same H H4 := s13.trans s4
    refine ⟨_, rfl, p, dx, _, rfl, s14 _ _ e, cf_no _ _ _ _, _, rfl, _, _, rfl, rfl, p, _, m, y, o, k, rfl, hc.same s14, g, Sz.add (n := 1400) zi (szi 1 (Nat.one_lt_two_pow (by decide))) (by decide), fun H5 s5 => ⟨_, _, rfl, rfl, _, rfl, ?_⟩⟩
    have s15 : Same H H5 := s14.trans s5
    have q5 := q H5 s15
    unfold miF at q5
    refine ite2 (fun hb => ?_) (fun hb => ?_)
    · rw [if_pos (show mdF y k (jF y k (stF m o i)) < stF m o (i + 1) from of_decide_eq_true hb)] at q5
      exact ⟨_, rfl, q5⟩
    · rw [if_neg (show ¬ mdF y k (jF y k (stF m o i)) < stF m o (i + 1) from fun z => hb (decide_eq_true z))] at q5
      exact q5
end
/-! ### the law's own fractions: tuples in lowest terms -/
theorem int_num (i : Int) : ((i : Rat)).num = i := rfl
theorem int_den (i : Int) : ((i : Rat)).den = 1 := rfl
def Tp (H : Hp) (a : Addr) (q : Rat) : Prop := H a = some (.tup [.int q.num, .int q.den])
theorem Tp.same {H H1 : Hp} {a : Addr} {q : Rat} (h : Tp H a q) (s : Same H H1) : Tp H1 a q := s _ _ h
/-- a fraction not always in lowest terms -/
def Tq (H : Hp) (a : Addr) (n : Nat) (q : Rat) : Prop := ∃ t b : Int, H a = some (.tup [.int t, .int b]) ∧ b ≠ 0 ∧ q = Rat.divInt t b ∧ Sz n t ∧ Sz n b
theorem Tp.tq {H : Hp} {a : Addr} {n : Nat} {q : Rat} (h : Tp H a q) (z : Rz n q) : Tq H a n q := ⟨q.num, q.den, h, Int.ne_of_gt (den_pos q), (Rat.num_divInt_den q).symm, z.1, z.2⟩
theorem Tq.same {H H1 : Hp} {a : Addr} {n : Nat} {q : Rat} (h : Tq H a n q) (s : Same H H1) : Tq H1 a n q := by
  obtain ⟨t, b, e, r⟩ := h
  exact ⟨t, b, s _ _ e, r⟩
def spT2 (g : Rat → Rat → Rat) : Sp := fun vs H Q _ => ∃ (a b : Addr) (x y : Rat), vs = [.ref a, .ref b] ∧ Tq H a 4300 x ∧ Tq H b 4300 y ∧ ∀ r H', H r = none → Same H H' → Tp H' r (g x y) → Q (.ref r) H'
theorem int_div (i : Int) {n : Nat} (h : Sz n i) (h0 : 0 < n) {H : Hp} {t : Addr} : Tq (L2.upd H t (.tup [.int i, .int 1])) t n (i : Rat) := ⟨i, 1, upd_same, by decide, (divInt_one i).symm, h, szi 1 (Nat.one_lt_two_pow (by omega))⟩
section
variable {P : Program} {w : World} {K : PySem.W.Frag} {mg : Str → Option Value} {base : Heap}
theorem ok_lplus (D : Df K mg "_law_plus" s_l_plus []) (lo : Ca P w K mg base CX0 1 "_law_low" s_l_low [] ["_law_top", "_law_bottom"] spLow) : Ca P w K mg base CX0 2 "_law_plus" s_l_plus [] ["_law_one", "_law_two"] (spT2 fun a b => a + b) := by
  refine ca0 (k := 1) D c_l_plus (fun vs H Q E h => ?_) fun f cdv A outer s H vs Q E hr h => ?_
  · obtain ⟨a, b, x, y, rfl, _⟩ := h
    rfl
  · obtain ⟨a, b, x, y, rfl, ⟨t, u, ha, hu, rfl, zt, zu⟩, ⟨t', u', hb, hu', rfl, zt', zu'⟩, q⟩ := h
    refine ⟨_, pss_one (ps_ret (pe_ca lo b_l_low hr (by decide) pass0 rfl (pa_cons (pe_op op_add (pe_op op_mulA (pe_ix ix_tup (pv 0) pe_int (fun _ _ => rfl)) (pe_ix ix_tup (pv 1) pe_int (fun _ _ => rfl))) (pe_op op_mulA (pe_ix ix_tup (pv 1) pe_int (fun _ _ => rfl)) (pe_ix ix_tup (pv 0) pe_int (fun _ _ => rfl))))
      (pa_cons (pe_op op_mulA (pe_ix ix_tup (pv 0) pe_int (fun _ _ => rfl)) (pe_ix ix_tup (pv 1) pe_int (fun _ _ => rfl))) pa_nil)))), ?_⟩
    have mz : ∀ i j : Int, Sz 4300 i → Sz 4300 j → CMulA i j := fun i j hi hj => ⟨hi.mono (by decide), hj.mono (by decide)⟩
    have ha' := SqT.of (K := K) ha
    have hb' := SqT.of (K := K) hb
    refine ⟨_, rfl, a, _, _, _, rfl, rfl, ha', rfl, _, rfl, b, _, _, _, rfl, rfl, hb', rfl, _, _, rfl, rfl, mz _ _ zt zu', _, rfl, b, _, _, _, rfl, rfl, hb', rfl, _, rfl, a, _, _, _, rfl, rfl, ha', rfl, _, _, rfl, rfl, mz _ _ zt' zu, _, _, rfl, rfl,
      _, rfl, a, _, _, _, rfl, rfl, ha', rfl, _, rfl, b, _, _, _, rfl, rfl, hb', rfl, _, _, rfl, rfl, mz _ _ zu zu', _, _, rfl, Int.mul_ne_zero hu hu', ?_, ?_, fun r hr' => ?_⟩
    · exact Sz.add (n := 8600) ((zt.mul zu').mono (by decide)) ((zt'.mul zu).mono (by decide)) (by decide)
    · exact (zu.mul zu').mono (by decide)
    · refine q r _ hr' (Same.new hr') ?_
      show L2.upd H r _ r = _
      rw [upd_same, ← Rat.divInt_add_divInt t t' hu hu']
theorem ok_lby (D : Df K mg "_law_by" s_l_by []) (lo : Ca P w K mg base CX0 1 "_law_low" s_l_low [] ["_law_top", "_law_bottom"] spLow) : Ca P w K mg base CX0 2 "_law_by" s_l_by [] ["_law_one", "_law_two"] (spT2 fun a b => a * b) := by
  refine ca0 (k := 1) D c_l_by (fun vs H Q E h => ?_) fun f cdv A outer s H vs Q E hr h => ?_
  · obtain ⟨a, b, x, y, rfl, _⟩ := h
    rfl
  · obtain ⟨a, b, x, y, rfl, ⟨t, u, ha, hu, rfl, zt, zu⟩, ⟨t', u', hb, hu', rfl, zt', zu'⟩, q⟩ := h
    refine ⟨_, pss_one (ps_ret (pe_ca lo b_l_low hr (by decide) pass0 rfl (pa_cons (pe_op op_mulA (pe_ix ix_tup (pv 0) pe_int (fun _ _ => rfl)) (pe_ix ix_tup (pv 1) pe_int (fun _ _ => rfl)))
      (pa_cons (pe_op op_mulA (pe_ix ix_tup (pv 0) pe_int (fun _ _ => rfl)) (pe_ix ix_tup (pv 1) pe_int (fun _ _ => rfl))) pa_nil)))), ?_⟩
    have mz : ∀ i j : Int, Sz 4300 i → Sz 4300 j → CMulA i j := fun i j hi hj => ⟨hi.mono (by decide), hj.mono (by decide)⟩
    have ha' := SqT.of (K := K) ha
    have hb' := SqT.of (K := K) hb
    refine ⟨_, rfl, a, _, _, _, rfl, rfl, ha', rfl, _, rfl, b, _, _, _, rfl, rfl, hb', rfl, _, _, rfl, rfl, mz _ _ zt zt',
      _, rfl, a, _, _, _, rfl, rfl, ha', rfl, _, rfl, b, _, _, _, rfl, rfl, hb', rfl, _, _, rfl, rfl, mz _ _ zu zu', _, _, rfl, Int.mul_ne_zero hu hu', ?_, ?_, fun r hr' => ?_⟩
    · exact (zt.mul zt').mono (by decide)
    · exact (zu.mul zu').mono (by decide)
    · refine q r _ hr' (Same.new hr') ?_
      show L2.upd H r _ r = _
      rw [upd_same, ← Rat.divInt_mul_divInt t t']
end
/-! the law's calendars -/
def Fo (H : Hp) (r : Addr) (m y o k : Rat) : Prop := ∃ a b c d, H r = some (.tup [.ref a, .ref b, .ref c, .ref d]) ∧ Tp H a m ∧ Tp H b y ∧ Tp H c o ∧ Tp H d k
theorem Fo.same {H H1 : Hp} {r : Addr} {m y o k : Rat} (h : Fo H r m y o k) (s : Same H H1) : Fo H1 r m y o k := by
  obtain ⟨a, b, c, d, e, h1, h2, h3, h4⟩ := h
  exact ⟨a, b, c, d, s _ _ e, h1.same s, h2.same s, h3.same s, h4.same s⟩
theorem Good.zma {m y o k : Rat} (g : Good m y o k) {n l : Nat} {i : Int} (h : Sz n i) (h0 : 0 < n) (hl : n + 150 < l) : Sz l (maF m o i) := by
  have z1 : Sz (n + 1) (i + 1) := Sz.add h (szi 1 (Nat.one_lt_two_pow (by omega))) (by omega)
  have z2 : Sz (n + 146) ((((i + 1 : Int) : Rat) - o) / m).ceil := Sz.ceil (Rz.div (m := n + 146) (Rz.sub (m := n + 75) (Rz.int z1 (by omega)) g.zo (by omega)) g.zm (by have := g.fit.pos; grind) (by omega))
  exact (Sz.sub z2 (szi 1 (Nat.one_lt_two_pow (by omega))) (by omega : n + 146 < n + 150)).mono (by omega)
/-! ### names of months -/
theorem mi_ahead {m y o k : Rat} (f : Fit m y) (i : Int) (h : ¬ mdF y k (jF y k (stF m o i)) < stF m o (i + 1)) : mdF y k (jF y k (stF m o (i - 1))) < stF m o i := by
  have two := two_months (m := m) (y := y) (o := o) (k := k) f i
  apply Int.not_le.mp
  intro hge
  have hlt : mdF y k (jF y k (stF m o (i - 1)) - 1) < stF m o (i - 1) := (md_lt f.ypos).mpr (by omega)
  have st0 := st_step (o := o) f.one (i - 1)
  rw [show i - 1 + 1 = i by omega] at st0
  have h1 : jF y k (stF m o (i - 1)) - 1 < jF y k (stF m o i) := (md_lt f.ypos).mp (by omega)
  have h2 : ¬ jF y k (stF m o (i - 1)) < jF y k (stF m o i) := fun z => by
    have := (md_lt f.ypos).mpr z
    omega
  have h3 : jF y k (stF m o (i - 1)) = jF y k (stF m o i) := by omega
  rw [h3] at two
  exact h two
/-- the mark that names a month, and whether it is the month's own -/
def nmJ (m y o k : Rat) (i : Int) : Int := if mdF y k (jF y k (stF m o i)) < stF m o (i + 1) then jF y k (stF m o i) else jF y k (stF m o (i - 1))
def nmO (m y o k : Rat) (i : Int) : Bool := !decide (mdF y k (jF y k (stF m o i)) < stF m o (i + 1))
def nmL (m y o k : Rat) (i : Int) : List V := [.int (nmJ m y o k i / 12), .int (nmJ m y o k i % 12 + 1), .bl (nmO m y o k i)]
theorem nm_own {m y o k : Rat} {i : Int} (h : mdF y k (jF y k (stF m o i)) < stF m o (i + 1)) : miF m y o k i = .int (nmJ m y o k i) ∧ nmO m y o k i = false := by
  unfold miF nmJ nmO
  rw [if_pos h, if_pos h, decide_eq_true h]
  exact ⟨rfl, rfl⟩
theorem nm_odd {m y o k : Rat} (f : Fit m y) {i : Int} (h : ¬ mdF y k (jF y k (stF m o i)) < stF m o (i + 1)) : miF m y o k i = .non ∧ miF m y o k (i - 1) = .int (nmJ m y o k i) ∧ nmO m y o k i = true ∧ nmO m y o k (i - 1) = false ∧ nmJ m y o k (i - 1) = nmJ m y o k i := by
  have a := mi_ahead f i h
  have a' : mdF y k (jF y k (stF m o (i - 1))) < stF m o (i - 1 + 1) := by rw [show i - 1 + 1 = i by omega]; exact a
  unfold miF nmJ nmO
  rw [if_neg h, if_neg h, decide_eq_false h, if_pos a', if_pos a', decide_eq_true a']
  exact ⟨rfl, rfl, rfl, rfl, rfl⟩
def spName (C Cc : Addr) : Sp := fun vs H Q _ => ∃ (p : Addr) (i : Int) (m y o k : Rat), vs = [.ref p, .int i] ∧ Cl C Cc H p m y o k ∧ Good m y o k ∧ Sz 1390 i ∧ ∀ r H', H r = none → Same H H' → H' r = some (.tup (nmL m y o k i)) → Q (.ref r) H'
def spLName : Sp := fun vs H Q _ => ∃ (r : Addr) (i : Int) (m y o k : Rat), vs = [.ref r, .int i] ∧ Fo H r m y o k ∧ Good m y o k ∧ Sz 1390 i ∧ ∀ r' H', H r' = none → Same H H' → H' r' = some (.tup (nmL m y o k i)) → Q (.ref r') H'
def spIsName : Sp := fun vs H Q _ => ∃ (r : Addr) (a b : Int) (c : Bool), vs = [.ref r] ∧ H r = some (.tup [.int a, .int b, .bl c]) ∧ Q (.bl true) H
section
variable {P : Program} {w : World} {K : PySem.W.Frag} {mg : Str → Option Value} {base : Heap} {C Cc : Addr}
theorem ok_name (D : Dm K Cc "name_of" "Calendar.name_of" s_Calendar_name_of) (f_mark_in : Cm P w K mg base CX0 8 Cc "mark_in" "Calendar.mark_in" s_Calendar_mark_in ["self", "k"] (spM1 C Cc 1400 miF)) {tk : Tok} (h_MARKS : mg "MARKS" = some (.int 12 tk)) : Cm P w K mg base CX0 9 Cc "name_of" "Calendar.name_of" s_Calendar_name_of ["self", "k"] (spName C Cc) := by
  refine cm0 (k := 8) D c_Calendar_name_of (fun vs H Q E h => ?_) fun f cdv A outer s H vs Q E hr h => ?_
  · obtain ⟨p, i, m, y, o, k, rfl, _⟩ := h
    rfl
  · obtain ⟨p, i, m, y, o, k, rfl, hc, g, zi, q⟩ := h
    obtain ⟨dx, a, b, c, d, e, h1, h2, h3, h4⟩ := id hc
    refine ⟨_, (pss_cons (ps_set (i := 2) c_Calendar_name_of.nd rfl (.inl rfl) (pe_cm f_mark_in b_Calendar_mark_in hr (by decide) pass0 (pv 0) (pa_cons (pv 1) pa_nil)))
      (pss_cons (ps_set (i := 3) c_Calendar_name_of.nd rfl (.inl rfl) (pe_cmp (pc_isN (pv 2))))
      (pss_cons (ps_if (pt_val (pv 3)) (pss_one (ps_set (i := 2) c_Calendar_name_of.nd rfl (.inl rfl) (pe_cm f_mark_in b_Calendar_mark_in hr (by decide) pass0 (pv 0) (pa_cons (pe_op op_sub (pv 1) pe_int) pa_nil)))) pss_nil)
      (pss_one (ps_ret (pe_tup (pa_cons (pe_op op_fdiv (pv 2) (pe_glob (v := .int 12) rfl h_MARKS ⟨_, rfl⟩)) (pa_cons (pe_op op_add (pe_op op_mod (pv 2) (pe_glob (v := .int 12) rfl h_MARKS ⟨_, rfl⟩)) pe_int) (pa_cons (pv 3) pa_nil))))))))), ?_⟩
    refine ⟨_, rfl, p, dx, _, rfl, e, cf_no _ _ _ _, _, rfl, p, i, m, y, o, k, rfl, hc, g, zi.mono (by decide), fun H1 s1 => ?_⟩
    refine ⟨_, rfl, _, rfl, _, rfl, ?_⟩
    by_cases hmi : mdF y k (jF y k (stF m o i)) < stF m o (i + 1)
    · obtain ⟨e1, e2⟩ := nm_own hmi
      rw [e1]
      refine iteF ?_
      refine ⟨_, rfl, _, _, rfl, rfl, ⟨by decide, by decide⟩, _, rfl, _, _, rfl, rfl, md, _, _, rfl, rfl, _, rfl, (by show 3 ≤ sizeLine; decide), fun r hr' => ?_⟩
      refine q r _ (s1.free hr') (Same.upd s1 hr') ?_
      rw [upd_same]
      unfold nmL
      rw [e2]
      rfl
    · obtain ⟨e1, e2, e3, _⟩ := nm_odd g.fit hmi
      rw [e1]
      refine iteT ?_
      refine ⟨_, rfl, p, dx, _, rfl, s1 _ _ e, cf_no _ _ _ _, _, rfl, _, _, rfl, rfl, p, _, m, y, o, k, rfl, hc.same s1, g, Sz.sub (n := 1390) zi (szi 1 (Nat.one_lt_two_pow (by decide))) (by decide), fun H2 s2 => ?_⟩
      rw [e2]
      refine ⟨_, rfl, _, _, rfl, rfl, ⟨by decide, by decide⟩, _, rfl, _, _, rfl, rfl, md, _, _, rfl, rfl, _, rfl, (by show 3 ≤ sizeLine; decide), fun r hr' => ?_⟩
      refine q r _ ((s1.trans s2).free hr') (Same.upd (s1.trans s2) hr') ?_
      rw [upd_same]
      unfold nmL
      rw [e3]
      rfl
end
/-! ### the months of a year -/
/-- the month with a mark -/
def mwF (m y o k : Rat) (j : Int) : Int := maF m o (mdF y k j)
theorem mw_in {m y o k : Rat} (f : Fit m y) (j : Int) : stF m o (mwF m y o k j) ≤ mdF y k j ∧ mdF y k j < stF m o (mwF m y o k j + 1) := ⟨st_ma f.pos _, ma_st f.pos _⟩
theorem mw_step {m y o k : Rat} (f : Fit m y) (j : Int) : mwF m y o k j + 1 ≤ mwF m y o k (j + 1) := by
  have h1 := mw_in (o := o) (k := k) f j
  have h2 := mw_in (o := o) (k := k) f (j + 1)
  have h3 : mdF y k j ≤ mdF y k (j + 1) := md_mono f.ypos (by omega)
  have h4 : mwF m y o k j ≤ mwF m y o k (j + 1) := (st_le f.pos).mp (Int.le_trans h1.1 h3)
  rcases Int.lt_or_eq_of_le h4 with h | h
  · omega
  · rw [← h] at h2
    have a := one_mark f h1.1 h1.2
    have b := one_mark f h2.1 h2.2
    omega
theorem mw_add {m y o k : Rat} (f : Fit m y) (j : Int) : ∀ t : Nat, mwF m y o k j + t ≤ mwF m y o k (j + t)
  | 0 => by rw [show j + ((0 : Nat) : Int) = j by omega]; omega
  | t + 1 => by
    have h1 := mw_add (o := o) (k := k) f j t
    have h2 := mw_step (o := o) (k := k) f (j + t)
    rw [show j + ((t + 1 : Nat) : Int) = j + t + 1 by omega]
    omega
theorem mw_lt {m y o k : Rat} (f : Fit m y) {i j : Int} (h : i < j) : mwF m y o k i < mwF m y o k j := by
  obtain ⟨t, rfl⟩ : ∃ t : Nat, j = i + t := ⟨(j - i).toNat, by omega⟩
  have := mw_add (o := o) (k := k) f i t
  omega
theorem mw_most {m y o k : Rat} (f : Fit m y) (j : Int) : mwF m y o k (j + 12) ≤ mwF m y o k j + 13 := by
  have h1 := mw_in (o := o) (k := k) f j
  have h2 := mw_in (o := o) (k := k) f (j + 12)
  generalize mwF m y o k j = M at *
  apply Int.not_lt.mp
  intro hlt
  have h3 : stF m o (M + 14) ≤ mdF y k (j + 12) := Int.le_trans ((st_le f.pos).mpr (by rw [show mwF m y o k (j + 12) = maF m o (mdF y k (j + 12)) from rfl] at hlt; rw [show maF m o (mdF y k (j + 12)) = maF m o (mdF y k (j + 12)) from rfl]; omega)) (Int.le_refl _)
  have f13 := f.thirteen
  have a1 : k + (j : Rat) * (y / 12) < ((stF m o (M + 1) : Int) : Rat) := by
    have := (floor_le_iff (q := k + (j : Rat) * (y / 12)) (i := stF m o (M + 1) - 1)).mp (by have : mdF y k j < stF m o (M + 1) := h1.2; unfold mdF at this; omega)
    rw [show stF m o (M + 1) - 1 + 1 = stF m o (M + 1) by omega] at this
    exact this
  have a2 : ((stF m o (M + 1) : Int) : Rat) ≤ o + ((M + 1 : Int) : Rat) * m := int_le_floor.mp (Int.le_refl _)
  have a3 : ((stF m o (M + 14) : Int) : Rat) ≤ k + ((j + 12 : Int) : Rat) * (y / 12) := int_le_floor.mp h3
  have a4 : o + ((M + 14 : Int) : Rat) * m < ((stF m o (M + 14) + 1 : Int) : Rat) := floor_le_iff.mp (Int.le_refl _)
  have c1 : ((M + 1 : Int) : Rat) = (M : Rat) + 1 := cast_add1 M
  have c14 : ((M + 14 : Int) : Rat) = (M : Rat) + 14 := by rw [Rat.intCast_add]; rfl
  have c12 : ((j + 12 : Int) : Rat) = (j : Rat) + 12 := by rw [Rat.intCast_add]; rfl
  rw [cast_add1] at a4
  rw [c1] at a2
  rw [c14] at a4
  rw [c12] at a3
  generalize ((stF m o (M + 1) : Int) : Rat) = S1 at *
  generalize ((stF m o (M + 14) : Int) : Rat) = S2 at *
  generalize (M : Rat) = Mq at *
  generalize (j : Rat) = jq at *
  grind
/-- a month with a mark, and one without -/
theorem nm_with {m y o k : Rat} (f : Fit m y) {i j : Int} (h : mwF m y o k j = i) : nmJ m y o k i = j ∧ nmO m y o k i = false := by
  have h1 := mw_in (o := o) (k := k) f j
  rw [h] at h1
  have e := one_mark f h1.1 h1.2
  have h2 : mdF y k (jF y k (stF m o i)) < stF m o (i + 1) := by rw [e]; exact h1.2
  unfold nmJ nmO
  rw [if_pos h2, e, decide_eq_true (by rw [← e]; exact h2)]
  exact ⟨rfl, rfl⟩
theorem nm_without {m y o k : Rat} (f : Fit m y) {i : Int} (h : ∀ j, mwF m y o k j ≠ i) : nmO m y o k i = true ∧ nmJ m y o k i = nmJ m y o k (i - 1) := by
  by_cases c : mdF y k (jF y k (stF m o i)) < stF m o (i + 1)
  · exact absurd (ma_of f.pos (md_ge f.ypos _) c) (h _)
  · obtain ⟨_, _, h3, _, h5⟩ := nm_odd f c
    exact ⟨h3, h5.symm⟩
/-- p is the place of the odd month, 12 where there is none -/
structure YrN (m y o k : Rat) (a : Int) (p e : Nat) : Prop where
  e1 : e ≤ 1
  p1 : 1 ≤ p
  p12 : p ≤ 12
  pe : e = 0 → p = 12
  last : mwF m y o k (12 * a + 12) = mwF m y o k (12 * a) + 12 + e
  nm : ∀ i : Nat, i < 12 + e → nmO m y o k (mwF m y o k (12 * a) + i) = decide (i = p) ∧ nmJ m y o k (mwF m y o k (12 * a) + i) = 12 * a + (if i < p then (i : Int) else (i : Int) - 1)
theorem year_names {m y o k : Rat} (f : Fit m y) (a : Int) : ∃ p e : Nat, YrN m y o k a p e := by
  generalize hF : mwF m y o k (12 * a) = F
  have up : ∀ t : Nat, F + t ≤ mwF m y o k (12 * a + t) := fun t => by rw [← hF]; exact mw_add f _ t
  have l12 := mw_most (o := o) (k := k) f (12 * a)
  rw [hF] at l12
  have u12 := up 12
  have dn : ∀ t : Nat, t ≤ 12 → mwF m y o k (12 * a + t) + (12 - t : Nat) ≤ mwF m y o k (12 * a + 12) := fun t ht => by
    have := mw_add (o := o) (k := k) f (12 * a + t) (12 - t)
    rw [show 12 * a + (t : Int) + ((12 - t : Nat) : Int) = 12 * a + 12 by omega] at this
    exact this
  have u12' : F + 12 ≤ mwF m y o k (12 * a + 12) := u12
  by_cases c : mwF m y o k (12 * a + 12) = F + 12
  · refine ⟨12, 0, by omega, by omega, by omega, fun _ => rfl, by rw [hF, c]; omega, fun i hi => ?_⟩
    have e : mwF m y o k (12 * a + i) = F + i := by
      have := up i
      have := dn i (by omega)
      omega
    rw [hF]
    obtain ⟨h1, h2⟩ := nm_with f e
    rw [h1, h2, if_pos (by omega), decide_eq_false (by omega)]
    exact ⟨rfl, rfl⟩
  · have c13 : mwF m y o k (12 * a + 12) = F + 13 := by omega
    have two : ∀ t : Nat, t ≤ 12 → mwF m y o k (12 * a + t) = F + t ∨ mwF m y o k (12 * a + t) = F + t + 1 := fun t ht => by
      have := up t
      have := dn t ht
      omega
    -- the least t that is put off
    have ex : ∃ p : Nat, p ≤ 12 ∧ mwF m y o k (12 * a + p) = F + p + 1 ∧ ∀ t : Nat, t < p → mwF m y o k (12 * a + t) = F + t := by
      have go : ∀ n : Nat, n ≤ 12 → (∀ t : Nat, t < n → mwF m y o k (12 * a + t) = F + t) ∨ ∃ p : Nat, p ≤ 12 ∧ mwF m y o k (12 * a + p) = F + p + 1 ∧ ∀ t : Nat, t < p → mwF m y o k (12 * a + t) = F + t := by
        intro n
        induction n with
        | zero => intro _; exact .inl fun t ht => absurd ht (Nat.not_lt_zero t)
        | succ n ih =>
          intro hn
          rcases ih (by omega) with h | h
          · rcases two n (by omega) with h2 | h2
            · refine .inl fun t ht => ?_
              by_cases e : t = n
              · rw [e]
                exact h2
              · exact h t (by omega)
            · exact .inr ⟨n, by omega, h2, h⟩
          · exact .inr h
      rcases go 12 (by omega) with h | h
      · exact ⟨12, by omega, by rw [show 12 * a + ((12 : Nat) : Int) = 12 * a + 12 from rfl, c13]; omega, h⟩
      · exact h
    obtain ⟨p, p12, hp, hlt⟩ := ex
    have p1 : 1 ≤ p := by
      apply Nat.one_le_iff_ne_zero.mpr
      intro z
      subst z
      rw [show 12 * a + ((0 : Nat) : Int) = 12 * a by omega, hF] at hp
      omega
    refine ⟨p, 1, by omega, p1, p12, fun z => absurd z (by decide), by rw [hF, c13]; omega, fun i hi => ?_⟩
    rw [hF]
    by_cases c1 : i < p
    · obtain ⟨h1, h2⟩ := nm_with f (hlt i c1)
      rw [h1, h2, if_pos c1, decide_eq_false (by omega)]
      exact ⟨rfl, rfl⟩
    · rw [if_neg c1]
      by_cases c2 : i = p
      · subst c2
        rw [decide_eq_true rfl]
        have no : ∀ j, mwF m y o k j ≠ F + i := fun j hj => by
          have h1 : 12 * a + ((i - 1 : Nat) : Int) < j := by
            apply Int.not_le.mp
            intro z
            have e1 := hlt (i - 1) (by omega)
            rcases Int.lt_or_eq_of_le z with z | z
            · have := mw_lt (o := o) (k := k) f z
              omega
            · rw [z] at hj
              omega
          have h2 : j < 12 * a + (i : Int) := by
            apply Int.not_le.mp
            intro z
            rcases Int.lt_or_eq_of_le z with z | z
            · have := mw_lt (o := o) (k := k) f z
              omega
            · rw [← z] at hj
              omega
          omega
        obtain ⟨h1, h2⟩ := nm_without f no
        refine ⟨h1, ?_⟩
        rw [h2, show F + (i : Int) - 1 = F + ((i - 1 : Nat) : Int) by omega, (nm_with f (hlt (i - 1) (by omega))).1]
        omega
      · have e : mwF m y o k (12 * a + ((i - 1 : Nat) : Int)) = F + (i : Int) := by
          have h1 := two (i - 1) (by omega)
          have h2 := mw_add (o := o) (k := k) f (12 * a + p) (i - 1 - p)
          rw [show 12 * a + (p : Int) + ((i - 1 - p : Nat) : Int) = 12 * a + ((i - 1 : Nat) : Int) by omega, hp] at h2
          omega
        obtain ⟨h1, h2⟩ := nm_with f e
        rw [h1, h2, decide_eq_false c2]
        exact ⟨rfl, by omega⟩
/-- the name of the i-th month of a year -/
def nfN (p i : Nat) : Int := if i < p then (i : Int) + 1 else (i : Int)
theorem YrN.name {m y o k : Rat} {a : Int} {p e : Nat} (h : YrN m y o k a p e) {i : Nat} (hi : i < 12 + e) : nmL m y o k (mwF m y o k (12 * a) + i) = [.int a, .int (nfN p i), .bl (decide (i = p))] := by
  obtain ⟨h1, h2⟩ := h.nm i hi
  have p1 := h.p1
  have p12 := h.p12
  have e1 := h.e1
  have pe := h.pe
  have r : ∀ u : Int, 0 ≤ u → u < 12 → (12 * a + u) / 12 = a ∧ (12 * a + u) % 12 = u := fun u h0 h1 => by constructor <;> omega
  unfold nmL nfN
  rw [h1, h2]
  by_cases c : i < p
  · obtain ⟨r1, r2⟩ := r i (by omega) (by omega)
    rw [if_pos c, if_pos c, r1, r2]
  · obtain ⟨r1, r2⟩ := r ((i : Int) - 1) (by omega) (by omega)
    rw [if_neg c, if_neg c, r1, r2, show (i : Int) - 1 + 1 = i by omega]
theorem all_p {P : Nat → Nat → Prop} (h0 : P 12 0) (h1 : ∀ p, 1 ≤ p → p ≤ 12 → P p 1) {m y o k : Rat} {a : Int} {p e : Nat} (h : YrN m y o k a p e) : P p e := by
  have e1 := h.e1
  rcases Nat.le_one_iff_eq_zero_or_eq_one.mp e1 with z | z
  · rw [z, h.pe z]
    exact h0
  · rw [z]
    exact h1 p h.p1 h.p12
theorem plain_all {m y o k : Rat} {a : Int} {p e : Nat} (h : YrN m y o k a p e) : ((List.range (12 + e)).filter (fun i => !decide (i = p))).map (nfN p) = [1, 2, 3, 4, 5, 6, 7, 8, 9, 10, 11, 12] := by
  refine all_p (P := fun p e => ((List.range (12 + e)).filter (fun i => !decide (i = p))).map (nfN p) = [1, 2, 3, 4, 5, 6, 7, 8, 9, 10, 11, 12]) (by decide) (fun p h1 h2 => ?_) h
  have : ∀ p : Nat, p < 13 → 1 ≤ p → ((List.range (12 + 1)).filter (fun i => !decide (i = p))).map (nfN p) = [1, 2, 3, 4, 5, 6, 7, 8, 9, 10, 11, 12] := by decide
  exact this p (by omega) h1
theorem odd_all {m y o k : Rat} {a : Int} {p e : Nat} (h : YrN m y o k a p e) : ((List.range (12 + e)).filter (fun i => decide (i = p))).length = e := by
  refine all_p (P := fun p e => ((List.range (12 + e)).filter (fun i => decide (i = p))).length = e) (by decide) (fun p h1 h2 => ?_) h
  have : ∀ p : Nat, p < 13 → 1 ≤ p → ((List.range (12 + 1)).filter (fun i => decide (i = p))).length = 1 := by decide
  exact this p (by omega) h1
theorem rise_all {m y o k : Rat} {a : Int} {p e : Nat} (h : YrN m y o k a p e) : ((List.range (12 + e)).map fun i => (nfN p i, decide (i = p))).Pairwise (fun x y => SrtO.lexB (kB y) (kB x) = false) := by
  refine all_p (P := fun p e => ((List.range (12 + e)).map fun i => (nfN p i, decide (i = p))).Pairwise (fun x y => SrtO.lexB (kB y) (kB x) = false)) (by decide) (fun p h1 h2 => ?_) h
  have : ∀ p : Nat, p < 13 → 1 ≤ p → ((List.range (12 + 1)).map fun i => (nfN p i, decide (i = p))).Pairwise (fun x y => SrtO.lexB (kB y) (kB x) = false) := by decide
  exact this p (by omega) h1
/-- how long months are -/
theorem st_len {m o : Rat} (h1 : 1 ≤ m) (i : Int) : 1 ≤ stF m o (i + 1) - stF m o i ∧ m.floor ≤ stF m o (i + 1) - stF m o i ∧ stF m o (i + 1) - stF m o i ≤ m.floor + 1 := by
  have a := st_step (o := o) h1 i
  have b1 : ((stF m o i : Int) : Rat) ≤ o + (i : Rat) * m := int_le_floor.mp (Int.le_refl _)
  have b2 : o + (i : Rat) * m < ((stF m o i + 1 : Int) : Rat) := floor_le_iff.mp (Int.le_refl _)
  have c1 : ((stF m o (i + 1) : Int) : Rat) ≤ o + ((i + 1 : Int) : Rat) * m := int_le_floor.mp (Int.le_refl _)
  have c2 : o + ((i + 1 : Int) : Rat) * m < ((stF m o (i + 1) + 1 : Int) : Rat) := floor_le_iff.mp (Int.le_refl _)
  have d1 : ((m.floor : Int) : Rat) ≤ m := int_le_floor.mp (Int.le_refl _)
  have d2 : m < ((m.floor + 1 : Int) : Rat) := floor_le_iff.mp (Int.le_refl _)
  rw [cast_add1] at b2 c1 c2 d2
  rw [cast_add1] at c2
  refine ⟨by omega, ?_, ?_⟩
  · apply Int.not_lt.mp
    intro z
    have z2 : stF m o (i + 1) + 1 ≤ stF m o i + m.floor := by omega
    have z3 : ((stF m o (i + 1) + 1 : Int) : Rat) ≤ ((stF m o i + m.floor : Int) : Rat) := by exact_mod_cast z2
    rw [Rat.intCast_add, Rat.intCast_add] at z3
    have : ((1 : Int) : Rat) = 1 := rfl
    grind
  · apply Int.not_lt.mp
    intro z
    have z2 : stF m o i + m.floor + 2 ≤ stF m o (i + 1) := by omega
    have z3 : ((stF m o i + m.floor + 2 : Int) : Rat) ≤ ((stF m o (i + 1) : Int) : Rat) := by exact_mod_cast z2
    rw [Rat.intCast_add, Rat.intCast_add] at z3
    have : ((2 : Int) : Rat) = 2 := rfl
    grind
theorem znat {n : Nat} (j : Nat) (h : j < 1024) (hn : 10 ≤ n) : Sz n (j : Int) := Nat.lt_of_lt_of_le (show (j : Int).natAbs < 2 ^ 10 by omega) (Nat.pow_le_pow_right (by decide) hn)
theorem zadd {n l : Nat} {i : Int} (h : Sz n i) (c : Int) (hc : c.natAbs ≤ 16 := by decide) (h4 : 5 ≤ n := by decide) (hl : n < l := by decide) : Sz l (i + c) := by
  refine Sz.add h (n := n) ?_ hl
  exact Nat.lt_of_lt_of_le (Nat.lt_of_le_of_lt hc (by decide : 16 < 2 ^ 5)) (Nat.pow_le_pow_right (by decide) h4)
theorem zsub {n l : Nat} {i : Int} (h : Sz n i) (c : Int) (hc : c.natAbs ≤ 16 := by decide) (h4 : 5 ≤ n := by decide) (hl : n < l := by decide) : Sz l (i - c) := by
  refine Sz.sub h (n := n) ?_ hl
  exact Nat.lt_of_lt_of_le (Nat.lt_of_le_of_lt hc (by decide : 16 < 2 ^ 5)) (Nat.pow_le_pow_right (by decide) h4)
theorem zdiv {n : Nat} {i : Int} (h : Sz n i) : Sz n (i / 12) := Nat.lt_of_le_of_lt (natAbs_ediv_le (b := 12) i) h
theorem Good.znm {m y o k : Rat} (g : Good m y o k) {n l : Nat} {i : Int} (h : Sz n i) (h0 : 5 ≤ n) (hl : n + 320 < l) : Sz l (nmJ m y o k i) := by
  have z1 : Sz (n + 151) (stF m o i) := g.zst h (by omega) (by omega)
  have z2 : Sz (n + 152) (stF m o (i - 1)) := g.zst (zsub (l := n + 1) h 1 (by decide) h0 (by omega)) (by omega) (by omega)
  unfold nmJ
  split
  · exact g.zj z1 (by omega) (by omega)
  · exact g.zj z2 (by omega) (by omega)
/-! ### Date -/
def dfs (y n d o : V) : List (Str × V) := putF "odd" o (putF "day" d (putF "number" n (putF "year" y [])))
theorem dyn_ : ¬ (("year" : Str) = "number") := by decide +kernel
theorem dyd_ : ¬ (("year" : Str) = "day") := by decide +kernel
theorem dyo_ : ¬ (("year" : Str) = "odd") := by decide +kernel
theorem dnd_ : ¬ (("number" : Str) = "day") := by decide +kernel
theorem dno_ : ¬ (("number" : Str) = "odd") := by decide +kernel
theorem ddo_ : ¬ (("day" : Str) = "odd") := by decide +kernel
theorem df_year (y n d o : V) : (dfs y n d o).lookup ("year" : Str) = some y := by
  unfold dfs
  rw [lookup_putF, if_neg dyo_, lookup_putF, if_neg dyd_, lookup_putF, if_neg dyn_, lookup_putF, if_pos rfl]
theorem df_number (y n d o : V) : (dfs y n d o).lookup ("number" : Str) = some n := by
  unfold dfs
  rw [lookup_putF, if_neg dno_, lookup_putF, if_neg dnd_, lookup_putF, if_pos rfl]
theorem df_day (y n d o : V) : (dfs y n d o).lookup ("day" : Str) = some d := by
  unfold dfs
  rw [lookup_putF, if_neg ddo_, lookup_putF, if_pos rfl]
theorem df_odd (y n d o : V) : (dfs y n d o).lookup ("odd" : Str) = some o := by
  unfold dfs
  rw [lookup_putF, if_pos rfl]
/-- what the top says of the class -/
structure DaT (K : PySem.W.Frag) (Cd : Addr) : Prop where
  cl : Cls K Cd
  n1 : NoAttr K Cd "year"
  n2 : NoAttr K Cd "number"
  n3 : NoAttr K Cd "day"
  n4 : NoAttr K Cd "odd"
  ty : ∀ (H : Hp) (a dx : Addr) (fs : List (Str × V)), H a = some (.ins Cd dx fs) → TyX K H (.ref a) (.ref Cd)
/-- at p a Date -/
def Da (Cd : Addr) (H : Hp) (p : Addr) (y n d : Int) (o : Bool) : Prop := ∃ dx, H p = some (.ins Cd dx (dfs (.int y) (.int n) (.int d) (.bl o)))
theorem Da.same {Cd p : Addr} {H H1 : Hp} {y n d : Int} {o : Bool} (h : Da Cd H p y n d o) (s : Same H H1) : Da Cd H1 p y n d o := by
  obtain ⟨dx, e⟩ := h
  exact ⟨dx, s _ _ e⟩
def spDaI (Cd : Addr) : Sp := fun vs H Q _ => ∃ (p dx : Addr) (y n d o : V), vs = [.ref p, y, n, d, o] ∧ H p = some (.ins Cd dx []) ∧ Q .non (L2.upd H p (.ins Cd dx (dfs y n d o)))
def spDaE (Cd : Addr) : Sp := fun vs H Q _ => ∃ (p r : Addr) (y n d y' n' d' : Int) (o o' : Bool), vs = [.ref p, .ref r] ∧ Da Cd H p y n d o ∧ Da Cd H r y' n' d' o' ∧ Q (.bl (decide (y = y') && (decide (n = n') && (decide (d = d') && decide (o = o'))))) H
theorem dec_int (a b : Int) : decide (V.int a = V.int b) = decide (a = b) := by
  by_cases h : a = b
  · rw [decide_eq_true h, decide_eq_true (congrArg V.int h)]
  · rw [decide_eq_false h, decide_eq_false (fun z => h (V.int.inj z))]
theorem dec_bl (a b : Bool) : decide (V.bl a = V.bl b) = decide (a = b) := by
  by_cases h : a = b
  · rw [decide_eq_true h, decide_eq_true (congrArg V.bl h)]
  · rw [decide_eq_false h, decide_eq_false (fun z => h (V.bl.inj z))]
section
variable {P : Program} {w : World} {K : PySem.W.Frag} {mg : Str → Option Value} {base : Heap} {Cd : Addr}
theorem ok_daI (D : Di K mg "Date" Cd "Date.__init__" s_Date_init [.bl false]) (T : DaT K Cd) : Ci P w K mg base CX0 1 "Date" Cd "Date.__init__" s_Date_init [.bl false] ["self", "year", "number", "day", "odd"] (spDaI Cd) := by
  refine ci0 (k := 0) D c_Date_init (fun vs H Q E h => ?_) fun f cdv A outer s H vs Q E hr h => ?_
  · obtain ⟨p, dx, y, n, d, o, rfl, _⟩ := h
    rfl
  · obtain ⟨p, dx, y, n, d, o, rfl, hp, q⟩ := h
    refine ⟨_, (pss_cons (ps_fld (pv 0) (pv 1) rfl)
      (pss_cons (ps_fld (pv 0) (pv 2) rfl)
      (pss_cons (ps_fld (pv 0) (pv 3) rfl)
      (pss_one (ps_fld (pv 0) (pv 4) rfl))))), ?_⟩
    refine ⟨_, rfl, _, rfl, p, Cd, dx, _, rfl, hp, T.cl, T.n1, (by show 0 < 1000; decide), ?_⟩
    refine ⟨_, rfl, _, rfl, p, Cd, dx, _, rfl, upd_same, T.cl, T.n2, (by show 1 < 1000; decide), ?_⟩
    refine ⟨_, rfl, _, rfl, p, Cd, dx, _, rfl, upd_same, T.cl, T.n3, (by show 2 < 1000; decide), ?_⟩
    refine ⟨_, rfl, _, rfl, p, Cd, dx, _, rfl, upd_same, T.cl, T.n4, (by show 3 < 1000; decide), ?_⟩
    rw [upd_upd, upd_upd, upd_upd]
    exact q
theorem bd_Date4 : Bd1 "__init__" "Date.__init__" s_Date_init ["self", "year", "number", "day", "odd"] 5 1 1 := fun _ _ _ _ _ _ _ us its hu hi => match us, hu, its, hi with | [_, _, _, _, _], _, [_], _ => ⟨_, rfl, rfl⟩
theorem ok_daE (D : Dm K Cd "__eq__" "Date.__eq__" s_Date_eq) (T : DaT K Cd) (g_isinstance : mg "isinstance" = none) (h_Date : mg "Date" = some (.ref Cd)) : Cm P w K mg base CX0 1 Cd "__eq__" "Date.__eq__" s_Date_eq ["self", "other"] (spDaE Cd) := by
  refine cm0 (k := 0) D c_Date_eq (fun vs H Q E h => ?_) fun f cdv A outer s H vs Q E hr h => ?_
  · obtain ⟨p, r, y, n, d, y', n', d', o, o', rfl, _⟩ := h
    rfl
  · obtain ⟨p, r, y, n, d, y', n', d', o, o', rfl, ⟨dx, hp⟩, ⟨dx', hr'⟩, q⟩ := h
    refine ⟨_, (pss_one (ps_ret (pe_and (pe_callB call_isi rfl g_isinstance (by decide +kernel) (pa_cons (pv 1) (pa_cons (pe_glob (v := .ref Cd) rfl h_Date rfl) pa_nil))) (pe_and (pe_cmpR op_eq (pe_fld (pv 0) rfl) (pe_fld (pv 1) rfl) (nomark _)) (pe_and (pe_cmpR op_eq (pe_fld (pv 0) rfl) (pe_fld (pv 1) rfl) (nomark _)) (pe_and (pe_cmpR op_eq (pe_fld (pv 0) rfl) (pe_fld (pv 1) rfl) (nomark _)) (pe_one (pe_cmpR op_eq (pe_fld (pv 0) rfl) (pe_fld (pv 1) rfl) (nomark _))))))))), ?_⟩
    refine ⟨_, rfl, _, _, _, _, _, rfl, .own Cd, T.ty _ _ _ _ hr', kit_self, _, rfl, iteT ?_⟩
    refine ⟨_, rfl, p, Cd, dx, _, _, rfl, hp, T.cl, T.n1, df_year _ _ _ _, _, rfl, r, Cd, dx', _, _, rfl, hr', T.cl, T.n1, df_year _ _ _ _, rfl, _, rfl, ?_⟩
    rw [dec_int]
    by_cases h1 : y = y'
    · rw [decide_eq_true h1] at q ⊢
      refine iteT ?_
      refine ⟨_, rfl, p, Cd, dx, _, _, rfl, hp, T.cl, T.n2, df_number _ _ _ _, _, rfl, r, Cd, dx', _, _, rfl, hr', T.cl, T.n2, df_number _ _ _ _, rfl, _, rfl, ?_⟩
      rw [dec_int]
      by_cases h2 : n = n'
      · rw [decide_eq_true h2] at q ⊢
        refine iteT ?_
        refine ⟨_, rfl, p, Cd, dx, _, _, rfl, hp, T.cl, T.n3, df_day _ _ _ _, _, rfl, r, Cd, dx', _, _, rfl, hr', T.cl, T.n3, df_day _ _ _ _, rfl, _, rfl, ?_⟩
        rw [dec_int]
        by_cases h3 : d = d'
        · rw [decide_eq_true h3] at q ⊢
          refine iteT ?_
          refine ⟨_, rfl, p, Cd, dx, _, _, rfl, hp, T.cl, T.n4, df_odd _ _ _ _, _, rfl, r, Cd, dx', _, _, rfl, hr', T.cl, T.n4, df_odd _ _ _ _, rfl, ?_⟩
          rw [dec_bl]
          exact q
        · rw [decide_eq_false h3] at q ⊢
          exact iteF q
      · rw [decide_eq_false h2] at q ⊢
        exact iteF q
    · rw [decide_eq_false h1] at q ⊢
      exact iteF q
end
/-- a new Date, read as its maker's caller wants it -/
theorem made_da {Cd : Addr} {H : Hp} {R : Addr → Hp → Prop} {E : XK} {y n d o : V} (h : ∀ p dx H', H p = none → Same H H' → H' p = some (.ins Cd dx (dfs y n d o)) → R p H') :
    ∀ x dx, H x = none → H dx = none → dx ≠ x → spDaI Cd [.ref x, y, n, d, o] (L2.upd (L2.upd H dx (.own x)) x (.ins Cd dx [])) (fun v H2 => v = .non ∧ R x H2) E := by
  intro x dx hx hd ne
  refine ⟨x, dx, y, n, d, o, rfl, upd_same, rfl, ?_⟩
  rw [upd_upd]
  refine h x dx _ hx (Same.upd (Same.new hd) ?_) upd_same
  rw [upd_ne ne.symm]
  exact hx
def dtY (m y o k : Rat) (i : Int) : Int := nmJ m y o k (maF m o i) / 12
def dtN (m y o k : Rat) (i : Int) : Int := nmJ m y o k (maF m o i) % 12 + 1
def dtD (m o : Rat) (i : Int) : Int := i - stF m o (maF m o i) + 1
def dtO (m y o k : Rat) (i : Int) : Bool := nmO m y o k (maF m o i)
/-- a year is no greater than its day, but for what month and mark bring -/
theorem Good.zdY {m y o k : Rat} (g : Good m y o k) {n : Nat} {i : Int} (h : Sz n i) (hn : 75 ≤ n) : Sz (n + 2) (dtY m y o k i) := by
  have f := g.fit
  have s1 := st_ma (o := o) f.pos i
  have s2 := ma_st (o := o) f.pos i
  have w1 := st_w (o := o) f (maF m o i)
  have w0 := st_w (o := o) f (maF m o i - 1)
  rw [show maF m o i - 1 + 1 = maF m o i by omega] at w0
  have zc : Sz 70 m.ceil := Sz.ceil g.zm
  have zk : Sz 70 k.floor := Sz.floor g.zk
  have mk : stF m o (maF m o i - 1) ≤ mdF y k (nmJ m y o k (maF m o i)) ∧ mdF y k (nmJ m y o k (maF m o i)) < stF m o (maF m o i + 1) := by
    by_cases hm : mdF y k (jF y k (stF m o (maF m o i))) < stF m o (maF m o i + 1)
    · have e1 : nmJ m y o k (maF m o i) = jF y k (stF m o (maF m o i)) := by unfold nmJ; rw [if_pos hm]
      rw [e1]
      have a1 := md_ge (y := y) (k := k) f.ypos (stF m o (maF m o i))
      have a2 := st_step (o := o) f.one (maF m o i - 1)
      rw [show maF m o i - 1 + 1 = maF m o i by omega] at a2
      exact ⟨by omega, hm⟩
    · have e1 : nmJ m y o k (maF m o i) = jF y k (stF m o (maF m o i - 1)) := by unfold nmJ; rw [if_neg hm]
      rw [e1]
      have a1 := md_ge (y := y) (k := k) f.ypos (stF m o (maF m o i - 1))
      have a2 := mi_ahead (o := o) (k := k) f (maF m o i) hm
      have a3 := st_step (o := o) f.one (maF m o i)
      exact ⟨a1, by omega⟩
  have t1 : 1 ≤ y / 12 := by
    have b1 := f.one
    have b2 := f.between
    have b3 : m ≤ (m.ceil : Rat) := by
      apply Rat.not_lt.mp
      intro z
      have := lt_ceil_iff (q := m) (i := m.ceil) |>.mpr z
      omega
    grind
  generalize hJ : nmJ m y o k (maF m o i) = J at mk
  have md1 := int_le_floor (i := mdF y k J) (x := k + (J : Rat) * (y / 12)) |>.mp (Int.le_refl _)
  have md2 := floor_le_iff (q := k + (J : Rat) * (y / 12)) (i := mdF y k J) |>.mp (Int.le_refl _)
  rw [cast_add1] at md2
  have kf := int_le_floor (i := k.floor) (x := k) |>.mp (Int.le_refl _)
  have kl := floor_le_iff (q := k) (i := k.floor) |>.mp (Int.le_refl _)
  rw [cast_add1] at kl
  have up : 0 ≤ J → J ≤ mdF y k J - k.floor + 1 := fun h0 => by
    have c0 : (0 : Rat) ≤ (J : Rat) := by exact_mod_cast h0
    have c1 := Rat.mul_le_mul_of_nonneg_left t1 c0
    have c2 : ((J : Int) : Rat) ≤ ((mdF y k J - k.floor + 1 : Int) : Rat) := by
      rw [cast_add1, Rat.intCast_sub]
      grind
    exact_mod_cast c2
  have dn : J ≤ 0 → mdF y k J - k.floor - 1 ≤ J := fun h0 => by
    have c0 : (J : Rat) ≤ 0 := by exact_mod_cast h0
    have c1 : (J : Rat) * (y / 12) ≤ (J : Rat) := by
      have := Rat.mul_le_mul_of_nonneg_left t1 (show (0 : Rat) ≤ -(J : Rat) by grind)
      grind
    have c2 : ((mdF y k J - k.floor - 1 : Int) : Rat) ≤ ((J : Int) : Rat) := by
      rw [Rat.intCast_sub, Rat.intCast_sub]
      have : ((1 : Int) : Rat) = 1 := rfl
      grind
    exact_mod_cast c2
  have zJ : Sz (n + 2) J := by
    have p1 : (2 : Nat) ^ 75 ≤ 2 ^ n := Nat.pow_le_pow_right (by decide) hn
    have p2 : (2 : Nat) ^ (n + 2) = 2 ^ n * 4 := by rw [Nat.pow_add]
    have p3 : (2 : Nat) ^ 75 = 2 ^ 70 * 32 := by decide
    unfold Sz at *
    omega
  unfold dtY
  rw [hJ]
  exact Nat.lt_of_le_of_lt (Int.natAbs_ediv_le_natAbs _ _) zJ
def spDateOf (C Cc Cd : Addr) : Sp := fun vs H Q _ => ∃ (p : Addr) (i : Int) (m y o k : Rat), vs = [.ref p, .int i] ∧ Cl C Cc H p m y o k ∧ Good m y o k ∧ Sz 1200 i ∧
  ∀ r H', H r = none → Same H H' → Da Cd H' r (dtY m y o k i) (dtN m y o k i) (dtD m o i) (dtO m y o k i) → Q (.ref r) H'
section
variable {P : Program} {w : World} {K : PySem.W.Frag} {mg : Str → Option Value} {base : Heap} {C Cc Cd : Addr}
theorem ok_date_of (D : Df K mg "date_of" s_date_of []) (f_month_at : Cm P w K mg base CX0 7 Cc "month_at" "Calendar.month_at" s_Calendar_month_at ["self", "day"] (spM1 C Cc 2900 fun m _ o _ i => .int (maF m o i))) (f_name_of : Cm P w K mg base CX0 9 Cc "name_of" "Calendar.name_of" s_Calendar_name_of ["self", "k"] (spName C Cc)) (f_start : Cm P w K mg base CX0 7 Cc "start" "Calendar.start" s_Calendar_start ["self", "k"] (spM1 C Cc 3000 fun m _ o _ i => .int (stF m o i))) (f_Date : Ci P w K mg base CX0 1 "Date" Cd "Date.__init__" s_Date_init [.bl false] ["self", "year", "number", "day", "odd"] (spDaI Cd)) : Ca P w K mg base CX0 10 "date_of" s_date_of [] ["calendar", "day"] (spDateOf C Cc Cd) := by
  refine ca0 (k := 9) D c_date_of (fun vs H Q E h => ?_) fun f cdv A outer s H vs Q E hr h => ?_
  · obtain ⟨p, i, m, y, o, k, rfl, _⟩ := h
    rfl
  · obtain ⟨p, i, m, y, o, k, rfl, hc, g, zi, q⟩ := h
    obtain ⟨dx, a, b, c, d, e, h1, h2, h3, h4⟩ := id hc
    refine ⟨_, (pss_cons (ps_set (i := 2) c_date_of.nd rfl (.inl rfl) (pe_cm f_month_at b_Calendar_month_at hr (by decide) pass0 (pv 0) (pa_cons (pv 1) pa_nil)))
      (pss_cons (ps_asg (pe_cm f_name_of b_Calendar_name_of hr (by decide) pass0 (pv 0) (pa_cons (pv 2) pa_nil)) (pg_tup rfl (pgs_cons (pg_name (i := 3) c_date_of.nd rfl (.inl rfl)) (pgs_cons (pg_name (i := 4) c_date_of.nd rfl (.inl rfl)) (pgs_cons (pg_name (i := 5) c_date_of.nd rfl (.inl rfl)) pgs_nil)))))
      (pss_one (ps_ret (pe_ci f_Date bd_Date4 (by decide) rfl hr (by decide) pass0 rfl (pa_cons (pv 3) (pa_cons (pv 4) (pa_cons (pe_op op_add (pe_op op_sub (pv 1) (pe_cm f_start b_Calendar_start hr (by decide) pass0 (pv 0) (pa_cons (pv 2) pa_nil))) pe_int) (pa_cons (pv 5) pa_nil))))))))), ?_⟩
    have zk : Sz 1360 (maF m o i) := g.zma zi (by decide) (by decide)
    refine ⟨_, rfl, p, dx, _, rfl, e, cf_no _ _ _ _, _, rfl, p, i, m, y, o, k, rfl, hc, g, zi.mono (by decide), fun H1 s1 => ?_⟩
    refine ⟨_, rfl, p, dx, _, rfl, s1 _ _ e, cf_no _ _ _ _, _, rfl, p, _, m, y, o, k, rfl, hc.same s1, g, zk.mono (by decide), fun t H2 nt s2 et => ?_⟩
    refine ⟨t, _, rfl, SqT.of et, rfl, _, _, rfl, _, _, rfl, _, _, rfl, rfl, ?_⟩
    have s12 := s1.trans s2
    refine ⟨_, rfl, _, rfl, _, rfl, _, rfl, p, dx, _, rfl, s12 _ _ e, cf_no _ _ _ _, _, rfl, p, _, m, y, o, k, rfl, hc.same s12, g, zk.mono (by decide), fun H3 s3 => ⟨_, _, rfl, rfl, _, _, rfl, rfl, _, rfl, ?_⟩⟩
    exact made_da fun r dx H4 nr s4 er => q r H4 ((s12.trans s3).free nr) ((s12.trans s3).trans s4) ⟨dx, er⟩
end
def spDaysOf (C Cc : Addr) : Sp := fun vs H Q _ => ∃ (p : Addr) (i j : Int) (m y o k : Rat), vs = [.ref p, .int i, .int j] ∧ Cl C Cc H p m y o k ∧ Good m y o k ∧ Sz 1500 i ∧ Sz 1500 j ∧ ∀ H', Same H H' → Q (.int (stF m o (i + j) - stF m o i)) H'
section
variable {P : Program} {w : World} {K : PySem.W.Frag} {mg : Str → Option Value} {base : Heap} {C Cc : Addr}
theorem ok_daysof (D : Df K mg "days_of" s_days_of []) (f_start : Cm P w K mg base CX0 7 Cc "start" "Calendar.start" s_Calendar_start ["self", "k"] (spM1 C Cc 3000 fun m _ o _ i => .int (stF m o i))) : Ca P w K mg base CX0 8 "days_of" s_days_of [] ["calendar", "k", "many"] (spDaysOf C Cc) := by
  refine ca0 (k := 7) D c_days_of (fun vs H Q E h => ?_) fun f cdv A outer s H vs Q E hr h => ?_
  · obtain ⟨p, i, j, m, y, o, k, rfl, _⟩ := h
    rfl
  · obtain ⟨p, i, j, m, y, o, k, rfl, hc, g, zi, zj, q⟩ := h
    obtain ⟨dx, a, b, c, d, e, h1, h2, h3, h4⟩ := id hc
    refine ⟨_, (pss_one (ps_ret (pe_op op_sub (pe_cm f_start b_Calendar_start hr (by decide) pass0 (pv 0) (pa_cons (pe_op op_add (pv 1) (pv 2)) pa_nil)) (pe_cm f_start b_Calendar_start hr (by decide) pass0 (pv 0) (pa_cons (pv 1) pa_nil))))), ?_⟩
    refine ⟨_, rfl, p, dx, _, rfl, e, cf_no _ _ _ _, _, rfl, _, rfl, _, _, rfl, rfl, p, _, m, y, o, k, rfl, hc, g, (Sz.add zi zj (by decide : 1500 < 1600)).mono (by decide), fun H1 s1 => ?_⟩
    refine ⟨_, rfl, p, dx, _, rfl, s1 _ _ e, cf_no _ _ _ _, _, rfl, p, i, m, y, o, k, rfl, hc.same s1, g, zi.mono (by decide), fun H2 s2 => ⟨_, _, rfl, rfl, q H2 (s1.trans s2)⟩⟩
end
/-! ### months of dates -/
def pmF (m y o k : Rat) (a b : Int) : Int := maF m o (mdF y k (12 * a + b - 1))
def hasM (m y o k : Rat) (i : Int) : Prop := mdF y k (jF y k (stF m o i)) < stF m o (i + 1)
instance {m y o k : Rat} {i : Int} : Decidable (hasM m y o k i) := by
  unfold hasM
  exact inferInstance
theorem miF_eq (m y o k : Rat) (i : Int) : miF m y o k i = if hasM m y o k i then .int (jF y k (stF m o i)) else .non := rfl
/-- the month of a date, or why there is none -/
def moF (m y o k : Rat) (a b : Int) (od : Bool) : Sum Str Int := if b < 1 then .inl "number" else if 12 < b then .inl "number" else if od = true then (if hasM m y o k (pmF m y o k a b + 1) then .inl "odd" else .inr (pmF m y o k a b + 1)) else .inr (pmF m y o k a b)
def dyF (m y o k : Rat) (a b c : Int) (od : Bool) : Sum Str Int := match moF m y o k a b od with
  | .inl w => .inl w
  | .inr i => if c < 1 then .inl "day" else if stF m o (i + 1) - stF m o i < c then .inl "day" else .inr (stF m o i + c - 1)
theorem Good.zpm {m y o k : Rat} (g : Good m y o k) {a b : Int} (ha : Sz 900 a) (hb : Sz 900 b) : Sz 906 (12 * a + b - 1) ∧ Sz 1218 (pmF m y o k a b) := by
  have h1 : Sz 904 (12 * a) := Sz.mul (szi (n := 4) 12) ha
  have h2 : Sz 905 (12 * a + b) := Sz.add h1 (hb.mono (by decide)) (by decide)
  have h3 : Sz 906 (12 * a + b - 1) := zsub h2 1
  have h4 : Sz 1067 (mdF y k (12 * a + b - 1)) := g.zmd h3 (by decide) (by decide)
  exact ⟨h3, g.zma h4 (by decide) (by decide)⟩
def spPlain (C Cc : Addr) : Sp := fun vs H Q _ => ∃ (p : Addr) (a b : Int) (m y o k : Rat), vs = [.ref p, .int a, .int b] ∧ Cl C Cc H p m y o k ∧ Good m y o k ∧ Sz 900 a ∧ Sz 900 b ∧ ∀ H', Same H H' → Q (.int (pmF m y o k a b)) H'
def spOddM (C Cc : Addr) : Sp := fun vs H Q _ => ∃ (p : Addr) (a b : Int) (m y o k : Rat), vs = [.ref p, .int a, .int b] ∧ Cl C Cc H p m y o k ∧ Good m y o k ∧ Sz 900 a ∧ Sz 900 b ∧ ∀ H', Same H H' → Q (if hasM m y o k (pmF m y o k a b + 1) then .non else .int (pmF m y o k a b + 1)) H'
def spDayIn (C Cc : Addr) : Sp := fun vs H Q _ => ∃ (p : Addr) (a b : Int) (m y o k : Rat), vs = [.ref p, .int a, .int b] ∧ Cl C Cc H p m y o k ∧ Good m y o k ∧ Sz 2000 a ∧ ∀ H', Same H H' → Q (.int (stF m o a + b - 1)) H'
section
variable {P : Program} {w : World} {K : PySem.W.Frag} {mg : Str → Option Value} {base : Heap} {C Cc Cd CD : Addr}
theorem ok_plain (D : Df K mg "plain_month" s_plain_month []) (f_month_with : Cm P w K mg base CX0 8 Cc "month_with" "Calendar.month_with" s_Calendar_month_with ["self", "j"] (spM1 C Cc 2000 fun m y o k i => .int (maF m o (mdF y k i)))) {tk : Tok} (h_MARKS : mg "MARKS" = some (.int 12 tk)) : Ca P w K mg base CX0 9 "plain_month" s_plain_month [] ["calendar", "year", "number"] (spPlain C Cc) := by
  refine ca0 (k := 8) D c_plain_month (fun vs H Q E h => ?_) fun f cdv A outer s H vs Q E hr h => ?_
  · obtain ⟨p, a, b, m, y, o, k, rfl, _⟩ := h
    rfl
  · obtain ⟨p, a, b, m, y, o, k, rfl, hc, g, za, zb, q⟩ := h
    obtain ⟨dx, a1, b1, c1, d1, e, _⟩ := id hc
    refine ⟨_, (pss_one (ps_ret (pe_cm f_month_with b_Calendar_month_with hr (by decide) pass0 (pv 0) (pa_cons (pe_op op_sub (pe_op op_add (pe_op op_mul (pe_glob (v := .int 12) rfl h_MARKS ⟨_, rfl⟩) (pv 1)) (pv 2)) pe_int) pa_nil)))), ?_⟩
    exact ⟨_, rfl, p, dx, _, rfl, e, cf_no _ _ _ _, _, rfl, _, _, rfl, rfl, .inl ⟨by decide, by decide⟩, _, rfl, _, _, rfl, rfl, _, _, rfl, rfl, p, _, m, y, o, k, rfl, hc, g, (g.zpm za zb).1.mono (by decide), fun H' s' => q H' s'⟩
theorem ok_oddm (D : Df K mg "odd_month" s_odd_month []) (f_plain_month : Ca P w K mg base CX0 9 "plain_month" s_plain_month [] ["calendar", "year", "number"] (spPlain C Cc)) (f_mark_in : Cm P w K mg base CX0 8 Cc "mark_in" "Calendar.mark_in" s_Calendar_mark_in ["self", "k"] (spM1 C Cc 1400 miF)) : Ca P w K mg base CX0 10 "odd_month" s_odd_month [] ["calendar", "year", "number"] (spOddM C Cc) := by
  refine ca0 (k := 9) D c_odd_month (fun vs H Q E h => ?_) fun f cdv A outer s H vs Q E hr h => ?_
  · obtain ⟨p, a, b, m, y, o, k, rfl, _⟩ := h
    rfl
  · obtain ⟨p, a, b, m, y, o, k, rfl, hc, g, za, zb, q⟩ := h
    obtain ⟨dx, a1, b1, c1, d1, e, _⟩ := id hc
    refine ⟨_, (pss_cons (ps_set (i := 3) c_odd_month.nd rfl (.inl rfl) (pe_op op_add (pe_ca f_plain_month b_plain_month hr (by decide) pass0 rfl (pa_cons (pv 0) (pa_cons (pv 1) (pa_cons (pv 2) pa_nil)))) pe_int))
      (pss_cons (ps_if (pt_cmp (pc_isN (pe_cm f_mark_in b_Calendar_mark_in hr (by decide) pass0 (pv 0) (pa_cons (pv 3) pa_nil)))) (pss_one (ps_ret (pv 3))) pss_nil)
      (pss_one (ps_ret pe_non)))), ?_⟩
    refine ⟨_, rfl, _, rfl, _, rfl, p, a, b, m, y, o, k, rfl, hc, g, za, zb, fun H1 s1 => ⟨_, _, rfl, rfl, ?_⟩⟩
    refine ⟨_, rfl, p, dx, _, rfl, s1 _ _ e, cf_no _ _ _ _, _, rfl, p, _, m, y, o, k, rfl, hc.same s1, g, zadd ((g.zpm za zb).2.mono (by decide : 1218 ≤ 1300)) 1, fun H2 s2 => ⟨_, rfl, ?_⟩⟩
    have q2 := q H2 (s1.trans s2)
    rw [miF_eq]
    by_cases hm : hasM m y o k (pmF m y o k a b + 1)
    · rw [if_pos hm] at q2 ⊢
      exact iteF q2
    · rw [if_neg hm] at q2 ⊢
      exact iteT ⟨_, rfl, q2⟩
theorem ok_dayin (D : Df K mg "day_in" s_day_in []) (f_start : Cm P w K mg base CX0 7 Cc "start" "Calendar.start" s_Calendar_start ["self", "k"] (spM1 C Cc 3000 fun m _ o _ i => .int (stF m o i))) : Ca P w K mg base CX0 8 "day_in" s_day_in [] ["calendar", "k", "count"] (spDayIn C Cc) := by
  refine ca0 (k := 7) D c_day_in (fun vs H Q E h => ?_) fun f cdv A outer s H vs Q E hr h => ?_
  · obtain ⟨p, a, b, m, y, o, k, rfl, _⟩ := h
    rfl
  · obtain ⟨p, a, b, m, y, o, k, rfl, hc, g, za, q⟩ := h
    obtain ⟨dx, a1, b1, c1, d1, e, _⟩ := id hc
    refine ⟨_, (pss_one (ps_ret (pe_op op_sub (pe_op op_add (pe_cm f_start b_Calendar_start hr (by decide) pass0 (pv 0) (pa_cons (pv 1) pa_nil)) (pv 2)) pe_int))), ?_⟩
    exact ⟨_, rfl, p, dx, _, rfl, e, cf_no _ _ _ _, _, rfl, p, a, m, y, o, k, rfl, hc, g, za.mono (by decide), fun H' s' => ⟨_, rfl, _, _, rfl, rfl, _, _, rfl, rfl, q H' s'⟩⟩
end
/-! ### day_of, of a date that is there -/
def spMoN (C Cc Cd : Addr) : Sp := fun vs H Q _ => ∃ (p d : Addr) (a b c : Int) (od : Bool) (i : Int) (m y o k : Rat), vs = [.ref p, .ref d] ∧ Cl C Cc H p m y o k ∧ Good m y o k ∧ Da Cd H d a b c od ∧ Sz 900 a ∧ Sz 900 b ∧ moF m y o k a b od = .inr i ∧ ∀ H', Same H H' → Q (.int i) H'
def spDyN (C Cc Cd : Addr) : Sp := fun vs H Q _ => ∃ (p d : Addr) (a b c : Int) (od : Bool) (i : Int) (m y o k : Rat), vs = [.ref p, .ref d] ∧ Cl C Cc H p m y o k ∧ Good m y o k ∧ Da Cd H d a b c od ∧ Sz 900 a ∧ Sz 900 b ∧ dyF m y o k a b c od = .inr i ∧ ∀ H', Same H H' → Q (.int i) H'
theorem Good.zmo {m y o k : Rat} (g : Good m y o k) {a b i : Int} {od : Bool} (ha : Sz 900 a) (hb : Sz 900 b) (h : moF m y o k a b od = .inr i) : Sz 1300 i := by
  have hz := (g.zpm ha hb).2
  unfold moF at h
  split at h
  · cases h
  split at h
  · cases h
  split at h
  · split at h
    · cases h
    · cases h
      exact zadd hz 1
  · cases h
    exact hz.mono (by decide)
section
variable {P : Program} {w : World} {K : PySem.W.Frag} {mg : Str → Option Value} {base : Heap} {C Cc Cd : Addr}
theorem ok_monthof (D : Df K mg "month_of" s_month_of []) (Td : DaT K Cd) (f_plain_month : Ca P w K mg base CX0 9 "plain_month" s_plain_month [] ["calendar", "year", "number"] (spPlain C Cc)) (f_odd_month : Ca P w K mg base CX0 10 "odd_month" s_odd_month [] ["calendar", "year", "number"] (spOddM C Cc)) {tk : Tok} (h_MARKS : mg "MARKS" = some (.int 12 tk)) : Ca P w K mg base CX0 11 "month_of" s_month_of [] ["calendar", "date"] (spMoN C Cc Cd) := by
  refine ca0 (k := 10) D c_month_of (fun vs H Q E h => ?_) fun f cdv A outer s H vs Q E hr h => ?_
  · obtain ⟨p, d, a, b, c, od, i, m, y, o, k, rfl, _⟩ := h
    rfl
  · obtain ⟨p, d, a, b, c, od, i, m, y, o, k, rfl, hc, g, hd, za, zb, hi, q⟩ := h
    obtain ⟨dx, ed⟩ := id hd
    refine ⟨_, (pss_cons (ps_if (PW.pt (pw_or (pt_cmpR op_lt (pe_fld (pv 1) rfl) pe_int (nomark _)) (pw_or1 (pt_cmpR op_gt (pe_fld (pv 1) rfl) (pe_glob (v := .int 12) rfl h_MARKS ⟨_, rfl⟩) (nomark _))))) (pss_one ps_never) pss_nil)
      (pss_cons (ps_if (pt_not (pt_val (pe_fld (pv 1) rfl))) (pss_one (ps_ret (pe_ca f_plain_month b_plain_month hr (by decide) pass0 rfl (pa_cons (pv 0) (pa_cons (pe_fld (pv 1) rfl) (pa_cons (pe_fld (pv 1) rfl) pa_nil)))))) pss_nil)
      (pss_cons (ps_set (i := 2) c_month_of.nd rfl (.inl rfl) (pe_ca f_odd_month b_odd_month hr (by decide) pass0 rfl (pa_cons (pv 0) (pa_cons (pe_fld (pv 1) rfl) (pa_cons (pe_fld (pv 1) rfl) pa_nil)))))
      (pss_cons (ps_if (pt_cmp (pc_isN (pv 2))) (pss_one ps_never) pss_nil)
      (pss_one (ps_ret (pv 2))))))), ?_⟩
    unfold moF at hi
    refine ⟨_, rfl, d, Cd, dx, _, _, rfl, ed, Td.cl, Td.n2, df_number _ _ _ _, _, _, rfl, rfl, _, rfl, ?_⟩
    by_cases h1 : b < 1
    · rw [if_pos h1] at hi
      cases hi
    rw [if_neg h1] at hi
    rw [decide_eq_false h1]
    refine iteF ?_
    refine ⟨_, rfl, d, Cd, dx, _, _, rfl, ed, Td.cl, Td.n2, df_number _ _ _ _, _, _, rfl, rfl, _, rfl, ?_⟩
    by_cases h2 : 12 < b
    · rw [if_pos h2] at hi
      cases hi
    rw [if_neg h2] at hi
    rw [decide_eq_false (show ¬ (12 : Int) < b from h2)]
    refine iteF ?_
    refine ⟨_, rfl, d, Cd, dx, _, _, rfl, ed, Td.cl, Td.n4, df_odd _ _ _ _, _, rfl, ?_⟩
    cases od with
    | false =>
      rw [if_neg Bool.false_ne_true] at hi
      cases hi
      refine iteT ?_
      refine ⟨_, rfl, _, rfl, d, Cd, dx, _, _, rfl, ed, Td.cl, Td.n1, df_year _ _ _ _, _, rfl, d, Cd, dx, _, _, rfl, ed, Td.cl, Td.n2, df_number _ _ _ _, p, a, b, m, y, o, k, rfl, hc, g, za, zb, fun H1 s1 => ?_⟩
      exact q H1 s1
    | true =>
      rw [if_pos rfl] at hi
      refine iteF ?_
      refine ⟨_, rfl, _, rfl, d, Cd, dx, _, _, rfl, ed, Td.cl, Td.n1, df_year _ _ _ _, _, rfl, d, Cd, dx, _, _, rfl, ed, Td.cl, Td.n2, df_number _ _ _ _, p, a, b, m, y, o, k, rfl, hc, g, za, zb, fun H1 s1 => ?_⟩
      by_cases hm : hasM m y o k (pmF m y o k a b + 1)
      · rw [if_pos hm] at hi
        cases hi
      · rw [if_neg hm] at hi ⊢
        cases hi
        refine ⟨_, rfl, _, rfl, iteF ⟨_, rfl, ?_⟩⟩
        exact q H1 s1
theorem ok_dayof (D : Df K mg "day_of" s_day_of []) (Td : DaT K Cd) (f_month_of : Ca P w K mg base CX0 11 "month_of" s_month_of [] ["calendar", "date"] (spMoN C Cc Cd)) (f_days_of : Ca P w K mg base CX0 8 "days_of" s_days_of [] ["calendar", "k", "many"] (spDaysOf C Cc)) (f_day_in : Ca P w K mg base CX0 8 "day_in" s_day_in [] ["calendar", "k", "count"] (spDayIn C Cc)) : Ca P w K mg base CX0 12 "day_of" s_day_of [] ["calendar", "date"] (spDyN C Cc Cd) := by
  refine ca0 (k := 11) D c_day_of (fun vs H Q E h => ?_) fun f cdv A outer s H vs Q E hr h => ?_
  · obtain ⟨p, d, a, b, c, od, i, m, y, o, k, rfl, _⟩ := h
    rfl
  · obtain ⟨p, d, a, b, c, od, j, m, y, o, k, rfl, hc, g, hd, za, zb, hj, q⟩ := h
    refine ⟨_, (pss_cons (ps_set (i := 2) c_day_of.nd rfl (.inl rfl) (pe_ca f_month_of b_month_of hr (by decide) pass0 rfl (pa_cons (pv 0) (pa_cons (pv 1) pa_nil))))
      (pss_cons (ps_if (PW.pt (pw_or (pt_cmpR op_lt (pe_fld (pv 1) rfl) pe_int (nomark _)) (pw_or1 (pt_cmpR op_gt (pe_fld (pv 1) rfl) (pe_ca f_days_of b_days_of hr (by decide) pass0 rfl (pa_cons (pv 0) (pa_cons (pv 2) (pa_cons pe_int pa_nil)))) (nomark _))))) (pss_one ps_never) pss_nil)
      (pss_one (ps_ret (pe_ca f_day_in b_day_in hr (by decide) pass0 rfl (pa_cons (pv 0) (pa_cons (pv 2) (pa_cons (pe_fld (pv 1) rfl) pa_nil)))))))), ?_⟩
    unfold dyF at hj
    split at hj
    · cases hj
    next i hi =>
    have zi := g.zmo za zb hi
    have z1 : Sz 1500 (1 : Int) := szi 1 (Nat.one_lt_two_pow (by decide))
    refine ⟨_, rfl, _, rfl, p, d, a, b, c, od, i, m, y, o, k, rfl, hc, g, hd, za, zb, hi, fun H1 s1 => ?_⟩
    have hd1 := hd.same s1
    obtain ⟨dx, ed⟩ := id hd1
    refine ⟨_, rfl, d, Cd, dx, _, _, rfl, ed, Td.cl, Td.n3, df_day _ _ _ _, _, _, rfl, rfl, _, rfl, ?_⟩
    by_cases h1 : c < 1
    · rw [if_pos h1] at hj
      cases hj
    rw [if_neg h1] at hj
    rw [decide_eq_false h1]
    refine iteF ?_
    refine ⟨_, rfl, d, Cd, dx, _, _, rfl, ed, Td.cl, Td.n3, df_day _ _ _ _, _, rfl, _, rfl, p, i, 1, m, y, o, k, rfl, hc.same s1, g, zi.mono (by decide), z1, fun H2 s2 => ⟨_, _, rfl, rfl, _, rfl, ?_⟩⟩
    have s12 := s1.trans s2
    by_cases h2 : stF m o (i + 1) - stF m o i < c
    · rw [if_pos h2] at hj
      cases hj
    rw [if_neg h2] at hj
    cases hj
    rw [decide_eq_false (show ¬ stF m o (i + 1) - stF m o i < c from h2)]
    refine iteF ?_
    refine ⟨_, rfl, _, rfl, _, rfl, d, Cd, dx, _, _, rfl, s2 _ _ ed, Td.cl, Td.n3, df_day _ _ _ _, p, i, c, m, y, o, k, rfl, hc.same s12, g, zi.mono (by decide), fun H3 s3 => ?_⟩
    exact q H3 (s12.trans s3)
end
/-! ### later -/
def miyF (m y o k : Rat) (a b : Int) (od : Bool) : Int := if od = true then (if hasM m y o k (pmF m y o k a b + 1) then pmF m y o k a b else pmF m y o k a b + 1) else pmF m y o k a b
def heldF (m o : Rat) (i c : Int) : Int := if stF m o (i + 1) - stF m o i < c then stF m o (i + 1) - stF m o i else c
def latF (m y o k : Rat) (a b c : Int) (od : Bool) (dy mo yr : Int) : Int :=
  stF m o (miyF m y o k (a + yr) b od + mo) + heldF m o (miyF m y o k (a + yr) b od + mo) (heldF m o (miyF m y o k (a + yr) b od) c) - 1 + dy
theorem Good.zpmG {m y o k : Rat} (g : Good m y o k) {n : Nat} {a b : Int} (h5 : 5 ≤ n) (ha : Sz n a) (hb : Sz n b) : Sz (n + 6) (12 * a + b - 1) ∧ Sz (n + 318) (pmF m y o k a b) := by
  have h1 : Sz (n + 4) (12 * a) := (Sz.mul (szi (n := 4) 12) ha).mono (by omega)
  have h2 : Sz (n + 5) (12 * a + b) := Sz.add h1 (hb.mono (by omega)) (by omega)
  have h3 : Sz (n + 6) (12 * a + b - 1) := zsub h2 1 (by decide) (by omega) (by omega)
  have h4 : Sz (n + 167) (mdF y k (12 * a + b - 1)) := g.zmd h3 (by omega) (by omega)
  exact ⟨h3, g.zma h4 (by omega) (by omega)⟩
theorem Good.zmiy {m y o k : Rat} (g : Good m y o k) {n : Nat} {a b : Int} {od : Bool} (h5 : 5 ≤ n) (ha : Sz n a) (hb : Sz n b) : Sz (n + 319) (miyF m y o k a b od) := by
  have hz := (g.zpmG h5 ha hb).2
  unfold miyF
  split
  · split
    · exact hz.mono (by omega)
    · exact zadd hz 1 (by decide) (by omega) (by omega)
  · exact hz.mono (by omega)
theorem zheld {m o : Rat} {n : Nat} {i c : Int} (h1 : Sz n (stF m o (i + 1) - stF m o i)) (h2 : Sz n c) : Sz n (heldF m o i c) := by
  unfold heldF
  split
  · exact h1
  · exact h2
def spMiy (C Cc : Addr) : Sp := fun vs H Q _ => ∃ (p : Addr) (a b : Int) (od : Bool) (m y o k : Rat), vs = [.ref p, .int a, .int b, .bl od] ∧ Cl C Cc H p m y o k ∧ Good m y o k ∧ Sz 900 a ∧ Sz 900 b ∧ ∀ H', Same H H' → Q (.int (miyF m y o k a b od)) H'
def spHeld (C Cc : Addr) : Sp := fun vs H Q _ => ∃ (p : Addr) (i c : Int) (m y o k : Rat), vs = [.ref p, .int i, .int c] ∧ Cl C Cc H p m y o k ∧ Good m y o k ∧ Sz 1500 i ∧ ∀ H', Same H H' → Q (.int (heldF m o i c)) H'
def spLater (C Cc Cd : Addr) : Sp := fun vs H Q _ => ∃ (p d : Addr) (dy mo yr a b c : Int) (od : Bool) (i : Int) (m y o k : Rat), vs = [.ref p, .ref d, .int dy, .int mo, .int yr] ∧ Cl C Cc H p m y o k ∧ Good m y o k ∧ Da Cd H d a b c od ∧ Sz 550 a ∧ Sz 550 b ∧ Sz 1000 c ∧ Sz 60 dy ∧ Sz 60 mo ∧ Sz 60 yr ∧ dyF m y o k a b c od = .inr i ∧
  ∀ r H', H r = none → Same H H' → Da Cd H' r (dtY m y o k (latF m y o k a b c od dy mo yr)) (dtN m y o k (latF m y o k a b c od dy mo yr)) (dtD m o (latF m y o k a b c od dy mo yr)) (dtO m y o k (latF m y o k a b c od dy mo yr)) → Q (.ref r) H'
section
variable {P : Program} {w : World} {K : PySem.W.Frag} {mg : Str → Option Value} {base : Heap} {C Cc Cd : Addr}
theorem ok_miy (D : Df K mg "month_in_year" s_month_in_year []) (f_plain_month : Ca P w K mg base CX0 9 "plain_month" s_plain_month [] ["calendar", "year", "number"] (spPlain C Cc)) (f_odd_month : Ca P w K mg base CX0 10 "odd_month" s_odd_month [] ["calendar", "year", "number"] (spOddM C Cc)) : Ca P w K mg base CX0 11 "month_in_year" s_month_in_year [] ["calendar", "year", "number", "odd"] (spMiy C Cc) := by
  refine ca0 (k := 10) D c_month_in_year (fun vs H Q E h => ?_) fun f cdv A outer s H vs Q E hr h => ?_
  · obtain ⟨p, a, b, od, m, y, o, k, rfl, _⟩ := h
    rfl
  · obtain ⟨p, a, b, od, m, y, o, k, rfl, hc, g, za, zb, q⟩ := h
    refine ⟨_, (pss_cons (ps_set (i := 4) c_month_in_year.nd rfl (.inl rfl) (pe_ifExp (pt_val (pv 3)) (pe_ca f_odd_month b_odd_month hr (by decide) pass0 rfl (pa_cons (pv 0) (pa_cons (pv 1) (pa_cons (pv 2) pa_nil)))) pe_non))
      (pss_cons (ps_if (pt_cmp (pc_isN (pv 4))) (pss_one (ps_ret (pe_ca f_plain_month b_plain_month hr (by decide) pass0 rfl (pa_cons (pv 0) (pa_cons (pv 1) (pa_cons (pv 2) pa_nil)))))) pss_nil)
      (pss_one (ps_ret (pv 4))))), ?_⟩
    refine ⟨_, rfl, _, rfl, ?_⟩
    cases od with
    | false =>
      refine iteF ?_
      refine ⟨_, rfl, _, rfl, iteT ?_⟩
      exact ⟨_, rfl, _, rfl, _, rfl, p, a, b, m, y, o, k, rfl, hc, g, za, zb, fun H1 s1 => q H1 s1⟩
    | true =>
      refine iteT ?_
      refine ⟨_, rfl, _, rfl, _, rfl, p, a, b, m, y, o, k, rfl, hc, g, za, zb, fun H1 s1 => ?_⟩
      by_cases hm : hasM m y o k (pmF m y o k a b + 1)
      · rw [if_pos hm]
        refine ⟨_, rfl, _, rfl, iteT ?_⟩
        refine ⟨_, rfl, _, rfl, _, rfl, p, a, b, m, y, o, k, rfl, hc.same s1, g, za, zb, fun H2 s2 => ?_⟩
        have q2 := q H2 (s1.trans s2)
        unfold miyF at q2
        rw [if_pos rfl, if_pos hm] at q2
        exact q2
      · rw [if_neg hm]
        refine ⟨_, rfl, _, rfl, iteF ⟨_, rfl, ?_⟩⟩
        have q2 := q H1 s1
        unfold miyF at q2
        rw [if_pos rfl, if_neg hm] at q2
        exact q2
theorem ok_held (D : Df K mg "held_in" s_held_in []) (f_days_of : Ca P w K mg base CX0 8 "days_of" s_days_of [] ["calendar", "k", "many"] (spDaysOf C Cc)) (g_min : mg "min" = none) : Ca P w K mg base CX0 9 "held_in" s_held_in [] ["calendar", "k", "count"] (spHeld C Cc) := by
  refine ca0 (k := 8) D c_held_in (fun vs H Q E h => ?_) fun f cdv A outer s H vs Q E hr h => ?_
  · obtain ⟨p, i, c, m, y, o, k, rfl, _⟩ := h
    rfl
  · obtain ⟨p, i, c, m, y, o, k, rfl, hc, g, zi, q⟩ := h
    refine ⟨_, (pss_one (ps_ret (pe_callB (call_min2 rfl) rfl g_min (by decide +kernel) (pa_cons (pv 2) (pa_cons (pe_ca f_days_of b_days_of hr (by decide) pass0 rfl (pa_cons (pv 0) (pa_cons (pv 1) (pa_cons pe_int pa_nil)))) pa_nil))))), ?_⟩
    exact ⟨_, rfl, _, rfl, _, rfl, p, i, 1, m, y, o, k, rfl, hc, g, zi, szi 1 (Nat.one_lt_two_pow (by decide)), fun H1 s1 => ⟨_, _, rfl, q H1 s1⟩⟩
theorem ok_later (D : Df K mg "later" s_later [.int 0, .int 0, .int 0]) (Td : DaT K Cd) (f_day_of : Ca P w K mg base CX0 12 "day_of" s_day_of [] ["calendar", "date"] (spDyN C Cc Cd)) (f_month_in_year : Ca P w K mg base CX0 11 "month_in_year" s_month_in_year [] ["calendar", "year", "number", "odd"] (spMiy C Cc)) (f_held_in : Ca P w K mg base CX0 9 "held_in" s_held_in [] ["calendar", "k", "count"] (spHeld C Cc)) (f_day_in : Ca P w K mg base CX0 8 "day_in" s_day_in [] ["calendar", "k", "count"] (spDayIn C Cc)) (f_date_of : Ca P w K mg base CX0 10 "date_of" s_date_of [] ["calendar", "day"] (spDateOf C Cc Cd)) :
    Ca P w K mg base CX0 13 "later" s_later [.int 0, .int 0, .int 0] ["calendar", "date", "days", "months", "years"] (spLater C Cc Cd) := by
  refine ca0 (k := 12) D c_later (fun vs H Q E h => ?_) fun f cdv A outer s H vs Q E hr h => ?_
  · obtain ⟨p, d, dy, mo, yr, a, b, c, od, i, m, y, o, k, rfl, _⟩ := h
    rfl
  · obtain ⟨p, d, dy, mo, yr, a, b, c, od, i, m, y, o, k, rfl, hc, g, hd, za, zb, zc, zdy, zmo, zyr, hi, q⟩ := h
    refine ⟨_, (pss_cons (ps_expr (pe_ca f_day_of b_day_of hr (by decide) pass0 rfl (pa_cons (pv 0) (pa_cons (pv 1) pa_nil))))
      (pss_cons (ps_set (i := 5) c_later.nd rfl (.inl rfl) (pe_ca f_month_in_year b_month_in_year hr (by decide) pass0 rfl (pa_cons (pv 0) (pa_cons (pe_op op_add (pe_fld (pv 1) rfl) (pv 4)) (pa_cons (pe_fld (pv 1) rfl) (pa_cons (pe_fld (pv 1) rfl) pa_nil))))))
      (pss_cons (ps_set (i := 6) c_later.nd rfl (.inl rfl) (pe_ca f_held_in b_held_in hr (by decide) pass0 rfl (pa_cons (pv 0) (pa_cons (pv 5) (pa_cons (pe_fld (pv 1) rfl) pa_nil)))))
      (pss_cons (ps_set (i := 5) c_later.nd rfl (.inl rfl) (pe_op op_add (pv 5) (pv 3)))
      (pss_cons (ps_set (i := 6) c_later.nd rfl (.inl rfl) (pe_ca f_held_in b_held_in hr (by decide) pass0 rfl (pa_cons (pv 0) (pa_cons (pv 5) (pa_cons (pv 6) pa_nil)))))
      (pss_one (ps_ret (pe_ca f_date_of b_date_of hr (by decide) pass0 rfl (pa_cons (pv 0) (pa_cons (pe_op op_add (pe_ca f_day_in b_day_in hr (by decide) pass0 rfl (pa_cons (pv 0) (pa_cons (pv 5) (pa_cons (pv 6) pa_nil)))) (pv 2)) pa_nil)))))))))), ?_⟩
    refine ⟨_, rfl, _, rfl, p, d, a, b, c, od, i, m, y, o, k, rfl, hc, g, hd, za.mono (by decide), zb.mono (by decide), hi, fun H1 s1 => ?_⟩
    have hd1 := hd.same s1
    obtain ⟨dx, ed⟩ := id hd1
    have zay : Sz 551 (a + yr) := Sz.add za (zyr.mono (by decide)) (by decide)
    have zk1 : Sz 870 (miyF m y o k (a + yr) b od) := g.zmiy (n := 551) (by decide) zay (zb.mono (by decide))
    have zk2 : Sz 871 (miyF m y o k (a + yr) b od + mo) := Sz.add zk1 (zmo.mono (by decide)) (by decide)
    have zl : ∀ {i : Int}, Sz 871 i → Sz 1024 (stF m o (i + 1) - stF m o i) := fun {i} hi => Sz.sub (n := 1023) (g.zst (zadd (l := 872) hi 1) (by decide) (by decide)) (g.zst hi (by decide) (by decide)) (by decide)
    have zc1 : Sz 1024 (heldF m o (miyF m y o k (a + yr) b od) c) := zheld (zl (zk1.mono (by decide))) (zc.mono (by decide))
    have zc2 : Sz 1024 (heldF m o (miyF m y o k (a + yr) b od + mo) (heldF m o (miyF m y o k (a + yr) b od) c)) := zheld (zl zk2) zc1
    have zst : Sz 1024 (stF m o (miyF m y o k (a + yr) b od + mo)) := g.zst zk2 (by decide) (by decide)
    have zday : Sz 1025 (stF m o (miyF m y o k (a + yr) b od + mo) + heldF m o (miyF m y o k (a + yr) b od + mo) (heldF m o (miyF m y o k (a + yr) b od) c)) := Sz.add zst zc2 (by decide)
    have zlat : Sz 1200 (latF m y o k a b c od dy mo yr) := (Sz.add (n := 1026) (zsub (l := 1026) zday 1) (zdy.mono (by decide)) (by decide : 1026 < 1027)).mono (by decide)
    refine ⟨_, rfl, _, rfl, d, Cd, dx, _, _, rfl, ed, Td.cl, Td.n1, df_year _ _ _ _, _, rfl, _, _, rfl, rfl, _, rfl, d, Cd, dx, _, _, rfl, ed, Td.cl, Td.n2, df_number _ _ _ _, _, rfl, d, Cd, dx, _, _, rfl, ed, Td.cl, Td.n4, df_odd _ _ _ _, p, a + yr, b, od, m, y, o, k, rfl, hc.same s1, g, zay.mono (by decide), zb.mono (by decide), fun H2 s2 => ?_⟩
    have s12 := s1.trans s2
    refine ⟨_, rfl, _, rfl, _, rfl, d, Cd, dx, _, _, rfl, s2 _ _ ed, Td.cl, Td.n3, df_day _ _ _ _, p, _, c, m, y, o, k, rfl, hc.same s12, g, zk1.mono (by decide), fun H3 s3 => ?_⟩
    have s13 := s12.trans s3
    refine ⟨_, rfl, _, rfl, _, _, rfl, rfl, ?_⟩
    refine ⟨_, rfl, _, rfl, _, rfl, p, _, _, m, y, o, k, rfl, hc.same s13, g, zk2.mono (by decide), fun H4 s4 => ?_⟩
    have s14 := s13.trans s4
    refine ⟨_, rfl, _, rfl, _, rfl, _, rfl, p, _, _, m, y, o, k, rfl, hc.same s14, g, zk2.mono (by decide), fun H5 s5 => ⟨_, rfl, _, _, rfl, rfl, ?_⟩⟩
    have s15 := s14.trans s5
    exact ⟨p, latF m y o k a b c od dy mo yr, m, y, o, k, rfl, hc.same s15, g, zlat, fun r H6 nr s6 hr6 => q r H6 (s15.free nr) (s15.trans s6) hr6⟩
end
theorem back_day {m y o k : Rat} (g : Good m y o k) (i : Int) : dyF m y o k (dtY m y o k i) (dtN m y o k i) (dtD m o i) (dtO m y o k i) = .inr i := by
  have f := g.fit
  have s1 := st_ma (o := o) f.pos i
  have s2 := ma_st (o := o) f.pos i
  have n1 : ¬ dtN m y o k i < 1 := by unfold dtN; omega
  have n2 : ¬ 12 < dtN m y o k i := by unfold dtN; omega
  have c1 : ¬ dtD m o i < 1 := by unfold dtD; omega
  have key : moF m y o k (dtY m y o k i) (dtN m y o k i) (dtO m y o k i) = .inr (maF m o i) := by
    unfold moF
    rw [if_neg n1, if_neg n2]
    have ej : 12 * dtY m y o k i + dtN m y o k i - 1 = nmJ m y o k (maF m o i) := by unfold dtY dtN; omega
    by_cases hm : mdF y k (jF y k (stF m o (maF m o i))) < stF m o (maF m o i + 1)
    · have e1 : nmJ m y o k (maF m o i) = jF y k (stF m o (maF m o i)) := by unfold nmJ; rw [if_pos hm]
      have e2 : dtO m y o k i = false := (nm_own hm).2
      have e3 : pmF m y o k (dtY m y o k i) (dtN m y o k i) = maF m o i := by
        unfold pmF
        rw [ej, e1]
        exact ma_of f.pos (md_ge f.ypos _) hm
      rw [e2, e3]
      rfl
    · obtain ⟨_, _, c3, c4, c5⟩ := nm_odd f hm
      have e2 : dtO m y o k i = true := c3
      have a' := mi_ahead f (maF m o i) hm
      have e3 : pmF m y o k (dtY m y o k i) (dtN m y o k i) = maF m o i - 1 := by
        unfold pmF
        rw [ej]
        have e1 : nmJ m y o k (maF m o i) = jF y k (stF m o (maF m o i - 1)) := by unfold nmJ; rw [if_neg hm]
        rw [e1]
        refine ma_of f.pos (md_ge f.ypos _) ?_
        rw [show maF m o i - 1 + 1 = maF m o i by omega]
        exact a'
      rw [e2, if_pos rfl, e3, show maF m o i - 1 + 1 = maF m o i by omega, if_neg (show ¬ hasM m y o k (maF m o i) from hm)]
  unfold dyF
  rw [key]
  show (if dtD m o i < 1 then _ else if stF m o (maF m o i + 1) - stF m o (maF m o i) < dtD m o i then _ else _) = _
  rw [if_neg c1, if_neg (by unfold dtD; omega)]
  unfold dtD
  congr 1
  omega
/-! ### stretches -/
theorem getI (F : Nat → Int) {n i : Nat} (h : i < n) : (((List.range n).map F).map V.int)[i]? = some (.int (F i)) := by
  rw [List.getElem?_map, List.getElem?_map, List.getElem?_range h]
  rfl
theorem cut_tail (xs : List V) : cutV xs (some 1) none = xs.drop 1 := by
  cases xs with
  | nil => rfl
  | cons x xs =>
    have h1 : HT.sIx (x :: xs).length 0 (some 1) = 1 := by simp [HT.sIx]
    have h2 : HT.sIx (x :: xs).length (x :: xs).length none = (x :: xs).length := rfl
    unfold cutV
    rw [h1, h2]
    refine List.take_of_length_le ?_
    simp
def spSteps : Sp := fun vs H Q _ => ∃ (a : Addr) (F : Nat → Int) (n : Nat), vs = [.ref a] ∧ H a = some (.lst (((List.range (n + 1)).map F).map V.int)) ∧ n < 1000 ∧ ∀ r H', H r = none → Same H H' → H' r = some (.lst ((stp F n).map V.int)) → Q (.ref r) H'
def spLen (C Cc : Addr) : Sp := fun vs H Q _ => ∃ (p : Addr) (i : Int) (n : Nat) (m y o k : Rat), vs = [.ref p, .int i, .int (n : Nat)] ∧ Cl C Cc H p m y o k ∧ Good m y o k ∧ Sz 1500 i ∧ n < 500 ∧ ∀ r H', H r = none → Same H H' → H' r = some (.lst ((stp (fun j => stF m o (i + (j : Nat))) n).map V.int)) → Q (.ref r) H'
section
variable {P : Program} {w : World} {K : PySem.W.Frag} {mg : Str → Option Value} {base : Heap} {C Cc : Addr}
abbrev TE_steps1 : TE := tOp (rI0 fun i j => .int (i - j)) (tVar 2) (tVar 1)
abbrev TE_lengths_from1 (C Cc : Addr) : TE := tMeth Cc "start" (spM1 C Cc 3000 fun m _ o _ i => .int (stF m o i)) [] E0 (tVar 0) (tCons (tVar 3) tNil)
theorem ok_steps (D : Df K mg "steps" s_steps []) (g_zip : mg "zip" = none) : Ca P w K mg base CX0 1 "steps" s_steps [] ["days"] spSteps := by
  refine ca0 (k := 0) D c_steps (fun vs H Q E h => ?_) fun f cdv A outer s H vs Q E hr h => ?_
  · obtain ⟨a, F, n, rfl, _⟩ := h
    rfl
  · obtain ⟨a, F, n, rfl, e, hn, q⟩ := h
    refine ⟨_, (pss_one (ps_ret (pe_lc (own := [("day", 1), ("behind", 2)]) (g := gTup K 2 (gCons (gName 1) (gCons (gName 2) gNil))) (tt := tYes) (te := TE_steps1 ) rfl c_steps.nd (pi_zip rfl g_zip (pa_cons (pv 0) (pa_cons (pe_slice sl_list (pv 0) (po_some pe_int) po_none) pa_nil))) (blkOk_by (N := ["days", "day", "behind"]) (sc := defScope s_steps) (by decide +kernel)) (fun _ _ _ _ _ => (pg_tup rfl (pgs_cons (pg_name (i := 1) c_steps.nd rfl (.inl rfl)) (pgs_cons (pg_name (i := 2) c_steps.nd rfl (.inl rfl)) pgs_nil)))) (fun _ _ _ _ _ => by exact pts_nil) (fun _ _ _ _ _ => by exact (pe_op op_sub (pv 2) (pv 1)))))), ?_⟩
    refine ⟨_, rfl, _, rfl, _, rfl, a, _, rfl, SqL.of e, fun p1 n1 => ?_⟩
    have s1 := Same.new (o := .lst (cutV (((List.range (n + 1)).map F).map V.int) (some 1) none)) n1
    have e1 := s1 _ _ e
    refine ⟨a, p1, _, _, rfl, SqL.of e1, SqL.of upd_same, fun D0 hD => ?_⟩
    have hl : (((List.range (n + 1)).map F).map V.int).length = n + 1 := by simp
    refine lc_ints (walk_zip (n := n) (K := K) (a := a) (b := p1) (xs := ((List.range (n + 1)).map F).map V.int) (ys := cutV (((List.range (n + 1)).map F).map V.int) (some 1) none) ?_) yPair_same hD (by show n < 2 ^ 24; omega) (fun i => F (i + 1) - F i) (fun H' s' => ⟨SqL.of (s' _ _ e1), SqL.of (s' _ _ upd_same)⟩) ?_ ?_
    · rw [cut_tail, List.length_drop, hl]
      omega
    · rintro i x H1 H2 R hi s2 ⟨T, x1, x2, rfl, nT, rfl, g1, g2⟩ k1
      have g1 : (((List.range (n + 1)).map F).map V.int)[i]? = some x1 := g1
      have g2 : (cutV (((List.range (n + 1)).map F).map V.int) (some 1) none)[i]? = some x2 := g2
      rw [getI F (by omega)] at g1
      rw [cut_tail, List.getElem?_drop, Nat.add_comm 1 i, getI F (by omega)] at g2
      cases g1
      cases g2
      refine ⟨T, _, rfl, SqT.of upd_same, rfl, _, _, rfl, _, _, rfl, rfl, rfl, ?_⟩
      exact ⟨_, rfl, _, rfl, _, _, rfl, rfl, k1 _ (Same.refl _)⟩
    · intro H' h1 h2
      exact q D0 H' (s1.free hD) (s1.trans h2) h1
theorem ok_len (D : Df K mg "lengths_from" s_lengths_from []) (f_steps : Ca P w K mg base CX0 1 "steps" s_steps [] ["days"] spSteps) (f_start : Cm P w K mg base CX0 7 Cc "start" "Calendar.start" s_Calendar_start ["self", "k"] (spM1 C Cc 3000 fun m _ o _ i => .int (stF m o i))) (g_range : mg "range" = none) : Ca P w K mg base CX0 9 "lengths_from" s_lengths_from [] ["calendar", "k", "many"] (spLen C Cc) := by
  refine ca0 (k := 8) D c_lengths_from (fun vs H Q E h => ?_) fun f cdv A outer s H vs Q E hr h => ?_
  · obtain ⟨p, i, n, m, y, o, k, rfl, _⟩ := h
    rfl
  · obtain ⟨p, i, n, m, y, o, k, rfl, hc, g, zi, hn, q⟩ := h
    obtain ⟨dx, a, b, c, d, e, h1, h2, h3, h4⟩ := id hc
    refine ⟨_, (pss_one (ps_ret (pe_ca f_steps b_steps hr (by decide) pass0 rfl (pa_cons (pe_lc (own := [("n", 3)]) (g := gName 3) (tt := tYes) (te := TE_lengths_from1 C Cc) rfl c_lengths_from.nd (pi_rangeA rfl g_range (pa_cons (pv 1) (pa_cons (pe_op op_add (pe_op op_add (pv 1) (pv 2)) pe_int) pa_nil))) (blkOk_by (N := ["calendar", "k", "many", "n"]) (sc := defScope s_lengths_from) (by decide +kernel)) (fun _ _ _ _ _ => (pg_name (i := 3) c_lengths_from.nd rfl (.inl rfl))) (fun _ _ _ _ _ => by exact pts_nil) (fun _ _ _ _ _ => by exact (pe_cm f_start b_Calendar_start hr (by decide) pass0 (pv 0) (pa_cons (pv 3) pa_nil)))) pa_nil)))), ?_⟩
    refine ⟨_, rfl, _, rfl, _, rfl, _, _, rfl, rfl, _, _, rfl, rfl, _, _, rfl, fun D0 hD => ?_⟩
    have en : (i + (n : Int) + 1 - i).toNat = n + 1 := by omega
    rw [en]
    refine lc_ints (walk_range (lo := i) (n := n + 1)) yFn_same hD (by show n + 1 < 2 ^ 24; omega) (fun j => stF m o (i + (j : Nat))) (fun _ _ => trivial) ?_ ?_
    · rintro j x H1 H2 R hj s1 ⟨rfl, rfl⟩ k1
      refine ⟨rfl, ?_⟩
      refine ⟨_, rfl, p, dx, _, rfl, s1 _ _ e, cf_no _ _ _ _, _, rfl, p, _, m, y, o, k, rfl, hc.same s1, g, ?_, fun H3 s3 => k1 H3 s3⟩
      exact (Sz.add (n := 1500) zi (znat j (by omega) (by decide)) (by decide : 1500 < 1600)).mono (by decide)
    · intro H' h1 h2
      exact ⟨D0, _, n, rfl, h1, by omega, fun r H2 nr s2 er => q r H2 (h2.free nr) (h2.trans s2) er⟩
end
/-! ### years as wholes -/
def yfs (y f n l o : V) : List (Str × V) := putF "odd" o (putF "lengths" l (putF "names" n (putF "first" f (putF "number" y []))))
theorem yk {a b : Str} (h : decide (a = b) = false := by decide +kernel) : ¬ (a = b) := of_decide_eq_false h
theorem yf_number (y f n l o : V) : (yfs y f n l o).lookup ("number" : Str) = some y := by
  unfold yfs
  rw [lookup_putF, if_neg yk, lookup_putF, if_neg yk, lookup_putF, if_neg yk, lookup_putF, if_neg yk, lookup_putF, if_pos rfl]
theorem yf_first (y f n l o : V) : (yfs y f n l o).lookup ("first" : Str) = some f := by
  unfold yfs
  rw [lookup_putF, if_neg yk, lookup_putF, if_neg yk, lookup_putF, if_neg yk, lookup_putF, if_pos rfl]
theorem yf_names (y f n l o : V) : (yfs y f n l o).lookup ("names" : Str) = some n := by
  unfold yfs
  rw [lookup_putF, if_neg yk, lookup_putF, if_neg yk, lookup_putF, if_pos rfl]
theorem yf_lengths (y f n l o : V) : (yfs y f n l o).lookup ("lengths" : Str) = some l := by
  unfold yfs
  rw [lookup_putF, if_neg yk, lookup_putF, if_pos rfl]
theorem yf_odd (y f n l o : V) : (yfs y f n l o).lookup ("odd" : Str) = some o := by
  unfold yfs
  rw [lookup_putF, if_pos rfl]
theorem yf_names4 (y f n l : V) : (putF "lengths" l (putF "names" n (putF "first" f (putF "number" y [])))).lookup ("names" : Str) = some n := by
  rw [lookup_putF, if_neg yk, lookup_putF, if_pos rfl]
theorem yf_no (y f n l o : V) : (yfs y f n l o).lookup ("days_in" : Str) = none := by
  unfold yfs
  rw [lookup_putF, if_neg yk, lookup_putF, if_neg yk, lookup_putF, if_neg yk, lookup_putF, if_neg yk, lookup_putF, if_neg yk]
  rfl
structure YrT (K : PySem.W.Frag) (C Cc Cy : Addr) : Prop where
  cl : Cls K Cy
  n1 : NoAttr K Cy "number"
  n2 : NoAttr K Cy "first"
  n3 : NoAttr K Cy "names"
  n4 : NoAttr K Cy "lengths"
  n5 : NoAttr K Cy "odd"
  e1 : Cy ≠ C
  e2 : Cy ≠ Cc
/-- at p a Year of these fields -/
def Yr (Cy : Addr) (H : Hp) (p : Addr) (a f : Int) (D1 D2 : Addr) (v : V) : Prop := ∃ dx, H p = some (.ins Cy dx (yfs (.int a) (.int f) (.ref D1) (.ref D2) v))
def nm2 (m y o k : Rat) (i : Int) : Int × Bool := (nmJ m y o k i % 12 + 1, nmO m y o k i)
/-- how many months a year has -/
def yN (m y o k : Rat) (a : Int) : Nat := (mwF m y o k (12 * a + 12) - mwF m y o k (12 * a)).toNat
theorem yN_fact {m y o k : Rat} (g : Good m y o k) (a : Int) : ((yN m y o k a : Nat) : Int) = mwF m y o k (12 * a + 12) - mwF m y o k (12 * a) ∧ yN m y o k a ≤ 13 := by
  obtain ⟨p, e, h⟩ := year_names (o := o) (k := k) g.fit a
  have h1 := h.last
  have h2 := h.e1
  unfold yN
  omega
def ynL (m y o k : Rat) (a : Int) : List (Int × Bool) := (List.range (yN m y o k a)).map fun j => nm2 m y o k (mwF m y o k (12 * a) + (j : Nat))
def ylL (m y o k : Rat) (a : Int) : List Int := stp (fun j => stF m o (mwF m y o k (12 * a) + (j : Nat))) (yN m y o k a)
theorem ynL_len (m y o k : Rat) (a : Int) : (ynL m y o k a).length = yN m y o k a := by simp [ynL]
theorem ylL_len (m y o k : Rat) (a : Int) : (ylL m y o k a).length = yN m y o k a := by simp [ylL, stp]
def odV (ks : List (Int × Bool)) : V := match ks.find? (·.2) with
  | some q => .int q.1
  | none => .non
/-- a list of names -/
def NmB (H : Hp) (us : List V) (ks : List (Int × Bool)) : Prop := us.length = ks.length ∧ ∀ (j : Nat) (v : V), us[j]? = some v → ∃ (r : Addr) (q : Int × Bool), v = .ref r ∧ ks[j]? = some q ∧ H r = some (.tup [.int q.1, .bl q.2])
theorem NmB.same {H H1 : Hp} {us : List V} {ks : List (Int × Bool)} (h : NmB H us ks) (s : ∀ r xs, H r = some (.tup xs) → H1 r = some (.tup xs)) : NmB H1 us ks := ⟨h.1, fun j v hj => by
  obtain ⟨r, q, e1, e2, e3⟩ := h.2 j v hj
  exact ⟨r, q, e1, e2, s _ _ e3⟩⟩
theorem tup_upd {H : Hp} {D : Addr} {o u : HO} (hD : H D = some o) (n : ∀ xs, o ≠ .tup xs) : ∀ r xs, H r = some (.tup xs) → L2.upd H D u r = some (.tup xs) := fun r xs e => by
  rw [upd_ne (ne_of e hD fun z => n _ z.symm)]
  exact e
theorem mw_pm (m y o k : Rat) (a : Int) : pmF m y o k a 1 = mwF m y o k (12 * a) := by
  unfold pmF mwF
  rw [show 12 * a + 1 - 1 = 12 * a by omega]
def spFd (C Cc : Addr) : Sp := fun vs H Q _ => ∃ (p : Addr) (a : Int) (m y o k : Rat), vs = [.ref p, .int a] ∧ Cl C Cc H p m y o k ∧ Good m y o k ∧ Sz 560 a ∧ ∀ H', Same H H' → Q (.int (fdF m y o k a)) H'
def spMin (C Cc : Addr) : Sp := fun vs H Q _ => ∃ (p : Addr) (a : Int) (m y o k : Rat), vs = [.ref p, .int a] ∧ Cl C Cc H p m y o k ∧ Good m y o k ∧ Sz 560 a ∧ ∀ H', Same H H' → Q (.int ((yN m y o k a : Nat) : Int)) H'
def spOddN : Sp := fun vs H Q _ => ∃ (l : Addr) (us : List V) (ks : List (Int × Bool)), vs = [.ref l] ∧ H l = some (.lst us) ∧ NmB H us ks ∧ Q (odV ks) H
def spYrI (C Cc Cy : Addr) : Sp := fun vs H Q _ => ∃ (p dx c : Addr) (a : Int) (m y o k : Rat), vs = [.ref p, .ref c, .int a] ∧ H p = some (.ins Cy dx []) ∧ Cl C Cc H c m y o k ∧ Good m y o k ∧ Sz 560 a ∧
  ∀ H' D1 D2 (us : List V), But p H H' → Yr Cy H' p a (fdF m y o k a) D1 D2 (odV (ynL m y o k a)) → H D1 = none → H D2 = none → D1 ≠ D2 → H' D1 = some (.lst us) → NmB H' us (ynL m y o k a) → H' D2 = some (.lst ((ylL m y o k a).map V.int)) → Q .non H'
def spYl (Cy : Addr) : Sp := fun vs H Q _ => ∃ (p : Addr) (a f : Int) (D1 D2 : Addr) (v : V) (us : List V), vs = [.ref p] ∧ Yr Cy H p a f D1 D2 v ∧ H D1 = some (.lst us) ∧ Q (.int us.length) H
def spYd (Cy : Addr) : Sp := fun vs H Q _ => ∃ (p : Addr) (a f : Int) (D1 D2 : Addr) (v : V) (ls : List Int), vs = [.ref p] ∧ Yr Cy H p a f D1 D2 v ∧ H D2 = some (.lst (ls.map V.int)) ∧ Q (.int ls.sum) H
abbrev TE_Year_init1 (K : PySem.W.Frag) (C Cc : Addr) : TE := L2.tSl (rSlT K) (tMeth Cc "name_of" (spName C Cc) [] E0 (tVar 1) (tCons (tVar 5) tNil)) (tPart (tC (.int 1))) tNoPart
section
variable {P : Program} {w : World} {K : PySem.W.Frag} {mg : Str → Option Value} {base : Heap} {C Cc Cy : Addr}
theorem ok_fd (D : Df K mg "first_day" s_first_day []) (f_start : Cm P w K mg base CX0 7 Cc "start" "Calendar.start" s_Calendar_start ["self", "k"] (spM1 C Cc 3000 fun m _ o _ i => .int (stF m o i))) (f_plain_month : Ca P w K mg base CX0 9 "plain_month" s_plain_month [] ["calendar", "year", "number"] (spPlain C Cc)) : Ca P w K mg base CX0 10 "first_day" s_first_day [] ["calendar", "year"] (spFd C Cc) := by
  refine ca0 (k := 9) D c_first_day (fun vs H Q E h => ?_) fun f cdv A outer s H vs Q E hr h => ?_
  · obtain ⟨p, a, m, y, o, k, rfl, _⟩ := h
    rfl
  · obtain ⟨p, a, m, y, o, k, rfl, hc, g, za, q⟩ := h
    obtain ⟨dx, a1, b1, c1, d1, e, _⟩ := id hc
    refine ⟨_, (pss_one (ps_ret (pe_cm f_start b_Calendar_start hr (by decide) pass0 (pv 0) (pa_cons (pe_ca f_plain_month b_plain_month hr (by decide) pass0 rfl (pa_cons (pv 0) (pa_cons (pv 1) (pa_cons pe_int pa_nil)))) pa_nil)))), ?_⟩
    refine ⟨_, rfl, p, dx, _, rfl, e, cf_no _ _ _ _, _, rfl, _, rfl, p, a, 1, m, y, o, k, rfl, hc, g, za.mono (by decide), szi 1 (Nat.one_lt_two_pow (by decide)), fun H1 s1 => ?_⟩
    rw [mw_pm]
    have zm : Sz 2000 (mwF m y o k (12 * a)) := by
      rw [← mw_pm]
      exact (g.zpm (za.mono (by decide)) (szi 1 (Nat.one_lt_two_pow (by decide)))).2.mono (by decide)
    refine ⟨p, _, m, y, o, k, rfl, hc.same s1, g, zm.mono (by decide), fun H2 s2 => ?_⟩
    exact q H2 (s1.trans s2)
theorem ok_min (D : Df K mg "months_in" s_months_in []) (f_plain_month : Ca P w K mg base CX0 9 "plain_month" s_plain_month [] ["calendar", "year", "number"] (spPlain C Cc)) : Ca P w K mg base CX0 10 "months_in" s_months_in [] ["calendar", "year"] (spMin C Cc) := by
  refine ca0 (k := 9) D c_months_in (fun vs H Q E h => ?_) fun f cdv A outer s H vs Q E hr h => ?_
  · obtain ⟨p, a, m, y, o, k, rfl, _⟩ := h
    rfl
  · obtain ⟨p, a, m, y, o, k, rfl, hc, g, za, q⟩ := h
    refine ⟨_, (pss_one (ps_ret (pe_op op_sub (pe_ca f_plain_month b_plain_month hr (by decide) pass0 rfl (pa_cons (pv 0) (pa_cons (pe_op op_add (pv 1) pe_int) (pa_cons pe_int pa_nil)))) (pe_ca f_plain_month b_plain_month hr (by decide) pass0 rfl (pa_cons (pv 0) (pa_cons (pv 1) (pa_cons pe_int pa_nil))))))), ?_⟩
    refine ⟨_, rfl, _, rfl, _, _, rfl, rfl, p, a + 1, 1, m, y, o, k, rfl, hc, g, (zadd za 1 (l := 561)).mono (by decide), szi 1 (Nat.one_lt_two_pow (by decide)), fun H1 s1 => ?_⟩
    refine ⟨_, rfl, _, rfl, p, a, 1, m, y, o, k, rfl, hc.same s1, g, za.mono (by decide), szi 1 (Nat.one_lt_two_pow (by decide)), fun H2 s2 => ⟨_, _, rfl, rfl, ?_⟩⟩
    dsimp only
    rw [mw_pm, mw_pm, show 12 * (a + 1) = 12 * a + 12 by omega, ← (yN_fact g a).1]
    exact q H2 (s1.trans s2)
theorem ok_oddn (D : Df K mg "odd_number" s_odd_number []) : Ca P w K mg base CX0 1 "odd_number" s_odd_number [] ["names"] spOddN := by
  refine ca0 (k := 0) D c_odd_number (fun vs H Q E h => ?_) fun f cdv A outer s H vs Q E hr h => ?_
  · obtain ⟨l, us, ks, rfl, _⟩ := h
    rfl
  · obtain ⟨l, us, ks, rfl, hl, hN, q⟩ := h
    refine ⟨_, (pss_cons (ps_for PassesOwn.never rfl (pi_list (pv 0)) (pg_tup rfl (pgs_cons (pg_name (i := 1) c_odd_number.nd rfl (.inl rfl)) (pgs_cons (pg_name (i := 2) c_odd_number.nd rfl (.inl rfl)) pgs_nil))) (pss_one (ps_if (pt_val (pv 2)) (pss_one (ps_ret (pv 1))) pss_nil)))
      (pss_one (ps_ret pe_non))), ?_⟩
    refine ⟨_, rfl, l, rfl, ⟨_, SqL.of hl⟩, for_list (K := K) (a := l) (xs := us) (fun i σ H' => ∃ v1 v2 : Option V, σ = [some (.ref l), v1, v2] ∧ H' = H ∧ (ks.take i).find? (·.2) = none)
      ⟨_, _, rfl, rfl, rfl⟩ (fun i σ H' _ ⟨_, _, _, e, _⟩ => by rw [e]; exact SqL.of hl) ?_ ?_⟩
    · rintro i x σ H' hi ⟨v1, v2, rfl, rfl, hf⟩
      obtain ⟨r, z, rfl, hz, er⟩ := hN.2 i x hi
      refine ⟨r, _, rfl, SqT.of er, rfl, _, _, rfl, _, _, rfl, rfl, _, rfl, _, rfl, ?_⟩
      cases hb : z.2 with
      | true =>
        refine iteT ⟨_, rfl, ?_⟩
        have : odV ks = .int z.1 := by
          unfold odV
          have hs : ks = ks.take i ++ z :: ks.drop (i + 1) := by
            have hl := (List.getElem?_eq_some_iff.mp hz).1
            have he := (List.getElem?_eq_some_iff.mp hz).2
            rw [← he, List.getElem_cons_drop, List.take_append_drop]
          rw [hs, List.find?_append, hf]
          simp [hb]
        rw [this] at q
        exact q
      | false =>
        refine iteF ⟨_, _, rfl, rfl, ?_⟩
        rw [List.take_add_one, hz, List.find?_append, hf]
        simp [hb]
    · rintro σ H' ⟨v1, v2, rfl, rfl, hf⟩
      have hx : ks.take us.length = ks := by rw [hN.1, List.take_length]
      rw [hx] at hf
      have : odV ks = .non := by
        unfold odV
        rw [hf]
      rw [this] at q
      exact q
end
/-! ### a year made -/
theorem But.putI {p : Addr} {H H1 : Hp} {o : HO} (b : But p H H1) : But p H (L2.upd H1 p o) := b.put
theorem Cl.putY {C Cc Cy D : Addr} {H : Hp} {p dx : Addr} {m y o k : Rat} {fs : List (Str × V)} {u : HO} (e1 : Cy ≠ C) (e2 : Cy ≠ Cc) (h : Cl C Cc H p m y o k) (hD : H D = some (.ins Cy dx fs)) : Cl C Cc (L2.upd H D u) p m y o k := by
  obtain ⟨dx', a, b, c, d, e, ⟨x1, h1⟩, ⟨x2, h2⟩, ⟨x3, h3⟩, ⟨x4, h4⟩⟩ := h
  have kp : ∀ {a c dx : Addr} {fs : List (Str × V)}, c ≠ Cy → H a = some (.ins c dx fs) → L2.upd H D u a = some (.ins c dx fs) := fun {a c dx fs} n e => by
    rw [upd_ne (ne_of e hD (by intro z; injection z with z1; exact n z1))]
    exact e
  exact ⟨dx', a, b, c, d, kp (Ne.symm e2) e, ⟨x1, kp (Ne.symm e1) h1⟩, ⟨x2, kp (Ne.symm e1) h2⟩, ⟨x3, kp (Ne.symm e1) h3⟩, ⟨x4, kp (Ne.symm e1) h4⟩⟩
theorem Good.zmw {m y o k : Rat} (g : Good m y o k) {n l : Nat} {i : Int} (h : Sz n i) (h0 : 0 < n) (hl : n + 320 < l) : Sz l (mwF m y o k i) := g.zma (n := n + 161) (g.zmd h h0 (by omega)) (by omega) (by omega)
section
variable {P : Program} {w : World} {K : PySem.W.Frag} {mg : Str → Option Value} {base : Heap} {C Cc Cy : Addr}
set_option maxHeartbeats 8000000 in
theorem ok_yrI (D : Di K mg "Year" Cy "Year.__init__" s_Year_init []) (T : YrT K C Cc Cy) (g_range : mg "range" = none) (f_name_of : Cm P w K mg base CX0 9 Cc "name_of" "Calendar.name_of" s_Calendar_name_of ["self", "k"] (spName C Cc)) (f_plain_month : Ca P w K mg base CX0 9 "plain_month" s_plain_month [] ["calendar", "year", "number"] (spPlain C Cc)) (f_lengths_from : Ca P w K mg base CX0 9 "lengths_from" s_lengths_from [] ["calendar", "k", "many"] (spLen C Cc)) (f_months_in : Ca P w K mg base CX0 10 "months_in" s_months_in [] ["calendar", "year"] (spMin C Cc)) (f_first_day : Ca P w K mg base CX0 10 "first_day" s_first_day [] ["calendar", "year"] (spFd C Cc)) (f_odd_number : Ca P w K mg base CX0 1 "odd_number" s_odd_number [] ["names"] spOddN) : Ci P w K mg base CX0 11 "Year" Cy "Year.__init__" s_Year_init [] ["self", "calendar", "number"] (spYrI C Cc Cy) := by
  refine ci0 (k := 10) D c_Year_init (fun vs H Q E h => ?_) fun f cdv A outer s H vs Q E hr h => ?_
  · obtain ⟨p, dx, c, a, m, y, o, k, rfl, _⟩ := h
    rfl
  · obtain ⟨p, dx, c, a, m, y, o, k, rfl, hp, hc, g, za, q⟩ := h
    refine ⟨_, (pss_cons (ps_set (i := 3) c_Year_init.nd rfl (.inl rfl) (pe_ca f_plain_month b_plain_month hr (by decide) pass0 rfl (pa_cons (pv 1) (pa_cons (pv 2) (pa_cons pe_int pa_nil)))))
      (pss_cons (ps_set (i := 4) c_Year_init.nd rfl (.inl rfl) (pe_ca f_months_in b_months_in hr (by decide) pass0 rfl (pa_cons (pv 1) (pa_cons (pv 2) pa_nil))))
      (pss_cons (ps_fld (pv 0) (pv 2) rfl)
      (pss_cons (ps_fld (pv 0) (pe_ca f_first_day b_first_day hr (by decide) pass0 rfl (pa_cons (pv 1) (pa_cons (pv 2) pa_nil))) rfl)
      (pss_cons (ps_fld (pv 0) (pe_lc (own := [("n", 5)]) (g := gName 5) (tt := tYes) (te := TE_Year_init1 K C Cc) rfl c_Year_init.nd (pi_rangeA rfl g_range (pa_cons (pv 3) (pa_cons (pe_op op_add (pv 3) (pv 4)) pa_nil))) (blkOk_by (N := ["self", "calendar", "number", "k", "many", "n"]) (sc := defScope s_Year_init) (by decide +kernel)) (fun _ _ _ _ _ => (pg_name (i := 5) c_Year_init.nd rfl (.inl rfl))) (fun _ _ _ _ _ => by exact pts_nil) (fun _ _ _ _ _ => by exact (pe_slice sl_tup (pe_cm f_name_of b_Calendar_name_of hr (by decide) pass0 (pv 1) (pa_cons (pv 5) pa_nil)) (po_some pe_int) po_none))) rfl)
      (pss_cons (ps_fld (pv 0) (pe_ca f_lengths_from b_lengths_from hr (by decide) pass0 rfl (pa_cons (pv 1) (pa_cons (pv 3) (pa_cons (pv 4) pa_nil)))) rfl)
      (pss_one (ps_fld (pv 0) (pe_ca f_odd_number b_odd_number hr (by decide) pass0 rfl (pa_cons (pe_fld (pv 0) rfl) pa_nil)) rfl)))))))), ?_⟩
    have zm : Sz 1300 (mwF m y o k (12 * a)) := g.zmw (n := 565) ((Sz.mul (n := 4) (szi 12) za).mono (by decide)) (by decide) (by decide)
    obtain ⟨hN, hN13⟩ := yN_fact g a
    refine ⟨_, rfl, _, rfl, c, a, 1, m, y, o, k, rfl, hc, g, za.mono (by decide), szi 1 (Nat.one_lt_two_pow (by decide)), fun H1 s1 => ?_⟩
    rw [mw_pm]
    refine ⟨_, rfl, _, rfl, c, a, m, y, o, k, rfl, hc.same s1, g, za, fun H2 s2 => ?_⟩
    have s02 := s1.trans s2
    have hp2 := s02 _ _ hp
    have hc2 := hc.same s02
    have b2 : But p H H2 := But.same s02
    refine ⟨_, rfl, _, rfl, p, Cy, dx, _, rfl, hp2, T.cl, T.n1, (by show 0 < 1000; decide), ?_⟩
    have hp3 : (L2.upd H2 p (.ins Cy dx (putF "number" (.int a) []))) p = some (.ins Cy dx (putF "number" (.int a) [])) := upd_same
    have hc3 := hc2.putY (u := .ins Cy dx (putF "number" (.int a) [])) T.e1 T.e2 hp2
    have b3 : But p H (L2.upd H2 p (.ins Cy dx (putF "number" (.int a) []))) := b2.put
    generalize L2.upd H2 p (.ins Cy dx (putF "number" (.int a) [])) = H3 at *
    refine ⟨_, rfl, _, rfl, c, a, m, y, o, k, rfl, hc3, g, za, fun H4 s4 => ?_⟩
    have hp4 := s4 _ _ hp3
    have hc4 := hc3.same s4
    have b4 := b3.trans (But.same s4)
    refine ⟨_, rfl, p, Cy, dx, _, rfl, hp4, T.cl, T.n2, (by show 1 < 1000; decide), ?_⟩
    have hp5 : (L2.upd H4 p (.ins Cy dx (putF "first" (.int (fdF m y o k a)) (putF "number" (.int a) [])))) p = some (.ins Cy dx (putF "first" (.int (fdF m y o k a)) (putF "number" (.int a) []))) := upd_same
    have hc5 := hc4.putY (u := .ins Cy dx (putF "first" (.int (fdF m y o k a)) (putF "number" (.int a) []))) T.e1 T.e2 hp4
    have b5 : But p H (L2.upd H4 p (.ins Cy dx (putF "first" (.int (fdF m y o k a)) (putF "number" (.int a) [])))) := b4.put
    generalize L2.upd H4 p (.ins Cy dx (putF "first" (.int (fdF m y o k a)) (putF "number" (.int a) []))) = H5 at *
    refine ⟨_, rfl, _, rfl, _, rfl, _, _, rfl, rfl, mwF m y o k (12 * a), _, rfl, fun D1 nD1 => ?_⟩
    have en : (mwF m y o k (12 * a) + ((yN m y o k a : Nat) : Int) - mwF m y o k (12 * a)).toNat = yN m y o k a := by omega
    rw [en]
    obtain ⟨dxc, _, _, _, _, ec, _⟩ := id hc5
    refine lc_all (walk_range (lo := mwF m y o k (12 * a)) (n := yN m y o k a)) yFn_same nD1 (Nat.lt_of_le_of_lt hN13 (by decide)) (fun (j : Nat) v H' => ∃ r : Addr, v = .ref r ∧ H' r = some (.tup [.int (nm2 m y o k (mwF m y o k (12 * a) + (j : Nat))).1, .bl (nm2 m y o k (mwF m y o k (12 * a) + (j : Nat))).2]))
      (fun j v Ha Hb s ⟨r, e1, e2⟩ => ⟨r, e1, s _ _ e2⟩) (fun j v Ha acc acc' hacc ⟨r, e1, e2⟩ => ⟨r, e1, by rw [upd_ne (ne_of e2 hacc (by intro z; cases z))]; exact e2⟩) (fun _ _ => trivial) ?_ ?_
    · rintro j x Ha Hb R hj sa ⟨rfl, rfl⟩ k1
      refine ⟨rfl, ?_⟩
      have zi : Sz 1310 (mwF m y o k (12 * a) + (j : Int)) := Sz.add (n := 1300) zm (znat j (by omega) (by decide)) (by decide)
      refine ⟨_, rfl, c, dxc, _, rfl, sa _ _ ec, cf_no _ _ _ _, _, rfl, c, _, m, y, o, k, rfl, hc5.same sa, g, zi.mono (by decide), fun r H6 nr s6 er => ?_⟩
      refine ⟨_, rfl, r, _, rfl, SqT.of er, (by show ¬ (HT.sIx 3 0 (some 1) = 0 ∧ HT.sIx 3 3 none = 3); decide), fun t nt => ?_⟩
      have st := Same.new (o := .tup (cutV (nmL m y o k (mwF m y o k (12 * a) + (j : Int))) (some 1) none)) nt
      exact k1 _ _ (s6.trans st) ⟨t, rfl, upd_same⟩
    · intro us H6 hl eD1 s6 hps
      have hp6 := s6 _ _ hp5
      have hc6 := hc5.same s6
      have nDp1 : D1 ≠ p := fun z => by
        rw [z, hp5] at nD1
        cases nD1
      have nD1H : H D1 = none := by
        cases hh : H D1 with
        | none => rfl
        | some o' => exact absurd (b5 _ _ nDp1 hh) (by rw [nD1]; exact fun z => by cases z)
      have b6 := b5.trans (But.same s6)
      have hNm : NmB H6 us (ynL m y o k a) := ⟨by rw [hl, ynL_len], fun j v hj => by
        obtain ⟨r, e1, e2⟩ := hps j v hj
        refine ⟨r, _, e1, ?_, e2⟩
        have hjl := (List.getElem?_eq_some_iff.mp hj).1
        unfold ynL
        rw [List.getElem?_map, List.getElem?_range (by omega)]
        rfl⟩
      refine ⟨_, rfl, p, Cy, dx, _, rfl, hp6, T.cl, T.n3, (by show 2 < 1000; decide), ?_⟩
      have hp7 : (L2.upd H6 p (.ins Cy dx (putF "names" (.ref D1) (putF "first" (.int (fdF m y o k a)) (putF "number" (.int a) []))))) p = some (.ins Cy dx (putF "names" (.ref D1) (putF "first" (.int (fdF m y o k a)) (putF "number" (.int a) [])))) := upd_same
      have hc7 := hc6.putY (u := .ins Cy dx (putF "names" (.ref D1) (putF "first" (.int (fdF m y o k a)) (putF "number" (.int a) [])))) T.e1 T.e2 hp6
      have b7 : But p H (L2.upd H6 p (.ins Cy dx (putF "names" (.ref D1) (putF "first" (.int (fdF m y o k a)) (putF "number" (.int a) []))))) := b6.put
      have eD17 : (L2.upd H6 p (.ins Cy dx (putF "names" (.ref D1) (putF "first" (.int (fdF m y o k a)) (putF "number" (.int a) []))))) D1 = some (.lst us) := by rw [upd_ne nDp1]; exact eD1
      have hNm7 := hNm.same (tup_upd (u := .ins Cy dx (putF "names" (.ref D1) (putF "first" (.int (fdF m y o k a)) (putF "number" (.int a) [])))) hp6 (fun _ z => by cases z))
      generalize L2.upd H6 p (.ins Cy dx (putF "names" (.ref D1) (putF "first" (.int (fdF m y o k a)) (putF "number" (.int a) [])))) = H7 at *
      refine ⟨_, rfl, _, rfl, _, rfl, c, _, yN m y o k a, m, y, o, k, rfl, hc7, g, zm.mono (by decide), by omega, fun D2 H8 nD2 s8 eD2 => ?_⟩
      have hp8 := s8 _ _ hp7
      have eD18 := s8 _ _ eD17
      have nDp2 : D2 ≠ p := fun z => by
        rw [z, hp7] at nD2
        cases nD2
      have nD12 : D1 ≠ D2 := ne_of_none eD17 nD2
      have nD2H : H D2 = none := by
        cases hh : H D2 with
        | none => rfl
        | some o' => exact absurd (b7 _ _ nDp2 hh) (by rw [nD2]; exact fun z => by cases z)
      have b8 := b7.trans (But.same s8)
      have hNm8 := hNm7.same fun r xs e => s8 _ _ e
      refine ⟨_, rfl, p, Cy, dx, _, rfl, hp8, T.cl, T.n4, (by show 3 < 1000; decide), ?_⟩
      have hp9 : (L2.upd H8 p (.ins Cy dx (putF "lengths" (.ref D2) (putF "names" (.ref D1) (putF "first" (.int (fdF m y o k a)) (putF "number" (.int a) [])))))) p = some (.ins Cy dx (putF "lengths" (.ref D2) (putF "names" (.ref D1) (putF "first" (.int (fdF m y o k a)) (putF "number" (.int a) []))))) := upd_same
      have b9 : But p H (L2.upd H8 p (.ins Cy dx (putF "lengths" (.ref D2) (putF "names" (.ref D1) (putF "first" (.int (fdF m y o k a)) (putF "number" (.int a) [])))))) := b8.put
      have eD19 : (L2.upd H8 p (.ins Cy dx (putF "lengths" (.ref D2) (putF "names" (.ref D1) (putF "first" (.int (fdF m y o k a)) (putF "number" (.int a) [])))))) D1 = some (.lst us) := by rw [upd_ne nDp1]; exact eD18
      have eD29 : (L2.upd H8 p (.ins Cy dx (putF "lengths" (.ref D2) (putF "names" (.ref D1) (putF "first" (.int (fdF m y o k a)) (putF "number" (.int a) [])))))) D2 = some (.lst ((ylL m y o k a).map V.int)) := by rw [upd_ne nDp2]; exact eD2
      have hNm9 := hNm8.same (tup_upd (u := .ins Cy dx (putF "lengths" (.ref D2) (putF "names" (.ref D1) (putF "first" (.int (fdF m y o k a)) (putF "number" (.int a) []))))) hp8 (fun _ z => by cases z))
      generalize L2.upd H8 p (.ins Cy dx (putF "lengths" (.ref D2) (putF "names" (.ref D1) (putF "first" (.int (fdF m y o k a)) (putF "number" (.int a) []))))) = H9 at *
      refine ⟨_, rfl, p, Cy, dx, _, _, rfl, hp9, T.cl, T.n3, yf_names4 _ _ _ _, D1, us, _, rfl, eD19, hNm9, ?_⟩
      refine ⟨_, rfl, p, Cy, dx, _, rfl, hp9, T.cl, T.n5, (by show 4 < 1000; decide), ?_⟩
      refine q _ D1 D2 us b9.put ⟨dx, upd_same⟩ nD1H nD2H nD12 (by rw [upd_ne nDp1]; exact eD19) (hNm9.same (tup_upd hp9 (fun _ z => by cases z))) (by rw [upd_ne nDp2]; exact eD29)
end
/-! ### dates carried, where they are there -/
def spCarN (C Cc Cd : Addr) : Sp := fun vs H Q _ => ∃ (p p2 d : Addr) (a b c : Int) (od : Bool) (i : Int) (m y o k m' y' o' k' : Rat), vs = [.ref p, .ref p2, .ref d] ∧ Cl C Cc H p m y o k ∧ Good m y o k ∧ Cl C Cc H p2 m' y' o' k' ∧ Good m' y' o' k' ∧ Da Cd H d a b c od ∧ Sz 900 a ∧ Sz 900 b ∧ Sz 1200 i ∧ dyF m y o k a b c od = .inr i ∧
  ∀ r H', H r = none → Same H H' → Da Cd H' r (dtY m' y' o' k' i) (dtN m' y' o' k' i) (dtD m' o' i) (dtO m' y' o' k' i) → Q (.ref r) H'
section
variable {P : Program} {w : World} {K : PySem.W.Frag} {mg : Str → Option Value} {base : Heap} {C Cc Cd : Addr}
theorem ok_carN (D : Df K mg "carried" s_carried []) (f_day_of : Ca P w K mg base CX0 12 "day_of" s_day_of [] ["calendar", "date"] (spDyN C Cc Cd)) (f_date_of : Ca P w K mg base CX0 10 "date_of" s_date_of [] ["calendar", "day"] (spDateOf C Cc Cd)) : Ca P w K mg base CX0 13 "carried" s_carried [] ["one", "two", "date"] (spCarN C Cc Cd) := by
  refine ca0 (k := 12) D c_carried (fun vs H Q E h => ?_) fun f cdv A outer s H vs Q E hr h => ?_
  · obtain ⟨p, p2, d, a, b, c, od, i, m, y, o, k, m', y', o', k', rfl, _⟩ := h
    rfl
  · obtain ⟨p, p2, d, a, b, c, od, i, m, y, o, k, m', y', o', k', rfl, hc, g, hc', g', hd, za, zb, zi, hi, q⟩ := h
    refine ⟨_, (pss_one (ps_ret (pe_ca f_date_of b_date_of hr (by decide) pass0 rfl (pa_cons (pv 1) (pa_cons (pe_ca f_day_of b_day_of hr (by decide) pass0 rfl (pa_cons (pv 0) (pa_cons (pv 2) pa_nil))) pa_nil))))), ?_⟩
    refine ⟨_, rfl, _, rfl, _, rfl, p, d, a, b, c, od, i, m, y, o, k, rfl, hc, g, hd, za, zb, hi, fun H1 s1 => ?_⟩
    exact ⟨p2, i, m', y', o', k', rfl, hc'.same s1, g', zi, fun r H2 nr s2 hr2 => q r H2 (s1.free nr) (s1.trans s2) hr2⟩
end
/-! ### years that begin together -/
def spYw (C Cc : Addr) : Sp := fun vs H Q _ => ∃ (p : Addr) (a : Int) (m y o k : Rat), vs = [.ref p, .int a] ∧ Cl C Cc H p m y o k ∧ Good m y o k ∧ Sz 1200 a ∧ ∀ H', Same H H' → Q (.int (dtY m y o k a)) H'
theorem Good.zfd {m y o k : Rat} (g : Good m y o k) {n l : Nat} {a : Int} (h : Sz n a) (h5 : 5 ≤ n) (hl : n + 470 < l) : Sz l (fdF m y o k a) := by
  have h1 : Sz (n + 4) (12 * a) := (Sz.mul (szi (n := 4) 12) h).mono (by omega)
  have h2 : Sz (n + 166) (mdF y k (12 * a)) := g.zmd h1 (by omega) (by omega)
  have h3 : Sz (n + 318) (maF m o (mdF y k (12 * a))) := g.zma h2 (by omega) (by omega)
  exact g.zst h3 (by omega) (by omega)
section
variable {P : Program} {w : World} {K : PySem.W.Frag} {mg : Str → Option Value} {base : Heap} {C Cc : Addr}
theorem ok_yw (D : Df K mg "year_with" s_year_with []) (f_month_at : Cm P w K mg base CX0 7 Cc "month_at" "Calendar.month_at" s_Calendar_month_at ["self", "day"] (spM1 C Cc 2900 fun m _ o _ i => .int (maF m o i))) (f_name_of : Cm P w K mg base CX0 9 Cc "name_of" "Calendar.name_of" s_Calendar_name_of ["self", "k"] (spName C Cc)) : Ca P w K mg base CX0 10 "year_with" s_year_with [] ["calendar", "day"] (spYw C Cc) := by
  refine ca0 (k := 9) D c_year_with (fun vs H Q E h => ?_) fun f cdv A outer s H vs Q E hr h => ?_
  · obtain ⟨p, a, m, y, o, k, rfl, _⟩ := h
    rfl
  · obtain ⟨p, i, m, y, o, k, rfl, hc, g, zi, q⟩ := h
    obtain ⟨dx, a1, b1, c1, d1, e, _⟩ := id hc
    have zk : Sz 1360 (maF m o i) := g.zma zi (by decide) (by decide)
    refine ⟨_, (pss_one (ps_ret (pe_ix ix_tup (pe_cm f_name_of b_Calendar_name_of hr (by decide) pass0 (pv 0) (pa_cons (pe_cm f_month_at b_Calendar_month_at hr (by decide) pass0 (pv 0) (pa_cons (pv 1) pa_nil)) pa_nil)) pe_int (fun _ _ => rfl)))), ?_⟩
    refine ⟨_, rfl, p, dx, _, rfl, e, cf_no _ _ _ _, _, rfl, p, dx, _, rfl, e, cf_no _ _ _ _, _, rfl, p, i, m, y, o, k, rfl, hc, g, zi.mono (by decide), fun H1 s1 => ?_⟩
    refine ⟨p, _, m, y, o, k, rfl, hc.same s1, g, zk.mono (by decide), fun t H2 nt s2 et => ?_⟩
    exact ⟨t, _, _, _, rfl, rfl, SqT.of et, rfl, q H2 (s1.trans s2)⟩
end
/-- whether a year begins on a day -/
def bgF (m y o k : Rat) (a : Int) : Bool := decide (fdF m y o k (dtY m y o k a) = a)
def stL (m y o k m' y' o' k' : Rat) (a : Int) (n : Nat) : List Int := ((List.range n).filter fun j => bgF m' y' o' k' (fdF m y o k (a + (j : Nat)))).map fun j => fdF m y o k (a + (j : Nat))
def spStt (C Cc : Addr) : Sp := fun vs H Q _ => ∃ (p p2 : Addr) (a : Int) (n : Nat) (m y o k m' y' o' k' : Rat), vs = [.ref p, .ref p2, .int a, .int (n : Nat)] ∧ Cl C Cc H p m y o k ∧ Good m y o k ∧ Cl C Cc H p2 m' y' o' k' ∧ Good m' y' o' k' ∧ Sz 77 a ∧ n < 500 ∧
  ∀ r H', H r = none → Same H H' → H' r = some (.lst ((stL m y o k m' y' o' k' a n).map V.int)) → Q (.ref r) H'
section
variable {P : Program} {w : World} {K : PySem.W.Frag} {mg : Str → Option Value} {base : Heap} {C Cc : Addr}
abbrev TE_starts_together1 (C Cc : Addr) : TE := tCall (spFd C Cc) [] E0 (tCons (tVar 0) (tCons (tVar 5) tNil))
abbrev TE_starts_together2 (C Cc : Addr) : TE := tVar 6
abbrev TT_starts_together2 (C Cc : Addr) : TT := tTest (tOp rEq (tCall (spFd C Cc) [] E0 (tCons (tVar 1) (tCons (tCall (spYw C Cc) [] E0 (tCons (tVar 1) (tCons (tVar 6) tNil))) tNil))) (tVar 6))
theorem ok_stt (D : Df K mg "starts_together" s_starts_together []) (g_range : mg "range" = none) (f_first_day : Ca P w K mg base CX0 10 "first_day" s_first_day [] ["calendar", "year"] (spFd C Cc)) (f_year_with : Ca P w K mg base CX0 10 "year_with" s_year_with [] ["calendar", "day"] (spYw C Cc)) : Ca P w K mg base CX0 11 "starts_together" s_starts_together [] ["one", "two", "first", "many"] (spStt C Cc) := by
  refine ca0 (k := 10) D c_starts_together (fun vs H Q E h => ?_) fun f cdv A outer s H vs Q E hr h => ?_
  · obtain ⟨p, p2, a, n, m, y, o, k, m', y', o', k', rfl, _⟩ := h
    rfl
  · obtain ⟨p, p2, a, n, m, y, o, k, m', y', o', k', rfl, hc, g, hc', g', za, hn, q⟩ := h
    refine ⟨_, (pss_cons (ps_setLc (i := 4) (own := [("year", 5)]) (g := gName 5) (tt := tYes) (te := TE_starts_together1 C Cc) rfl c_starts_together.nd rfl rfl (sw_true rfl rfl rfl (by decide +kernel)) (pi_rangeA rfl g_range (pa_cons (pv 2) (pa_cons (pe_op op_add (pv 2) (pv 3)) pa_nil))) (blkOk_by (N := ["one", "two", "first", "many", "days", "year", "day"]) (sc := defScope s_starts_together) (by decide +kernel)) (fun _ _ _ _ _ => (pg_name (i := 5) c_starts_together.nd rfl (.inl rfl))) (fun _ _ _ _ _ => by exact pts_nil) (fun _ _ _ _ _ => by exact (pe_ca f_first_day b_first_day hr (by decide) pass0 rfl (pa_cons (pv 0) (pa_cons (pv 5) pa_nil)))))
      (pss_one (ps_ret (pe_lc (own := [("day", 6)]) (g := gName 6) (tt := TT_starts_together2 C Cc) (te := TE_starts_together2 C Cc) rfl c_starts_together.nd (pi_list (pv 4)) (blkOk_by (N := ["one", "two", "first", "many", "days", "year", "day"]) (sc := defScope s_starts_together) (by decide +kernel)) (fun _ _ _ _ _ => (pg_name (i := 6) c_starts_together.nd rfl (.inl rfl))) (fun _ _ _ _ _ => by exact pts_one (pt_cmpR op_eq (pe_ca f_first_day b_first_day hr (by decide) pass0 rfl (pa_cons (pv 1) (pa_cons (pe_ca f_year_with b_year_with hr (by decide) pass0 rfl (pa_cons (pv 1) (pa_cons (pv 6) pa_nil))) pa_nil))) (pv 6) (nomark _))) (fun _ _ _ _ _ => by exact (pv 6)))))), ?_⟩
    refine ⟨_, rfl, _, rfl, _, rfl, _, _, rfl, rfl, _, _, rfl, fun D0 hD => ?_⟩
    have en : (a + (n : Int) - a).toNat = n := by omega
    rw [en]
    have zj : ∀ j : Nat, j < n → Sz 78 (a + (j : Nat)) := fun j hj => (Sz.add (n := 77) za (znat j (by omega) (by decide)) (by decide : 77 < 78))
    refine lc_ints (walk_range (lo := a) (n := n)) yFn_same hD (by show n < 2 ^ 24; omega) (fun j => fdF m y o k (a + (j : Nat))) (fun _ _ => trivial) ?_ ?_
    · rintro j x H1 H2 R hj s1 ⟨rfl, rfl⟩ k1
      refine ⟨rfl, ?_⟩
      exact ⟨_, rfl, _, rfl, p, _, m, y, o, k, rfl, hc.same s1, g, (zj j hj).mono (by decide), fun H3 s3 => k1 H3 s3⟩
    · intro H1 e1 s1
      refine ⟨_, rfl, D0, rfl, ⟨_, SqL.of e1⟩, fun D2 hD2 => ?_⟩
      have ln : (((List.range n).map fun j => fdF m y o k (a + (j : Nat))).map V.int).length = n := by simp
      have wl := walk_list (K := K) (a := D0) (xs := ((List.range n).map fun j => fdF m y o k (a + (j : Nat))).map V.int)
      rw [ln] at wl
      refine lc_filt wl yAt_same hD2 (by show n < 2 ^ 24; omega) (fun j => fdF m y o k (a + (j : Nat))) (fun j => bgF m' y' o' k' (fdF m y o k (a + (j : Nat)))) (fun H' s' => SqL.of (s' _ _ e1)) ?_ ?_
      · rintro j x H2 H3 R N hj s2 ⟨rfl, hx⟩ kT kF
        rw [getI _ hj] at hx
        cases hx
        have zf : Sz 550 (fdF m y o k (a + (j : Nat))) := g.zfd (zj j hj) (by decide) (by decide)
        have s12 := s1.trans s2
        refine ⟨rfl, ?_⟩
        refine ⟨_, rfl, _, rfl, _, rfl, p2, _, m', y', o', k', rfl, hc'.same s12, g', zf.mono (by decide), fun H4 s4 => ?_⟩
        have zy := g'.zdY zf (by decide)
        refine ⟨p2, _, m', y', o', k', rfl, (hc'.same s12).same s4, g', zy.mono (by decide), fun H5 s5 => ?_⟩
        refine ⟨_, rfl, rfl, _, rfl, ?_⟩
        rw [dec_int]
        show if bgF m' y' o' k' (fdF m y o k (a + (j : Nat))) = true then _ else _
        by_cases hB : bgF m' y' o' k' (fdF m y o k (a + (j : Nat))) = true
        · rw [if_pos hB]
          exact ⟨_, rfl, kT hB H5 (s4.trans s5)⟩
        · rw [if_neg hB]
          exact kF (by simpa using hB) H5 (s4.trans s5)
      · intro H2 e2 s2
        exact q D2 H2 (s1.free hD2) (s1.trans s2) e2
end
/-! ### all unlike stretches -/
def spSat (C : Addr) : Sp := fun vs H Q _ => ∃ (s : Addr) (t : Int) (n : Nat) (m : Rat), vs = [.ref s, .int t, .int (n : Nat)] ∧ Sh C H s m ∧ Rz 100 m ∧ Sz 100 t ∧ n < 500 ∧ ∀ r H', H r = none → Same H H' → H' r = some (.tup ((stp (rowF m.num m.den t) n).map V.int)) → Q (.ref r) H'
def spStr' (C Cc : Addr) : Sp := fun vs H Q _ => ∃ (p : Addr) (n : Nat) (m y o k : Rat), vs = [.ref p, .int (n : Nat)] ∧ Cl C Cc H p m y o k ∧ Good m y o k ∧ n < 500 ∧ ∀ (r : Addr) (H' : Hp) (us : List V) (ts : List Int), H r = none → Same H H' → H' r = some (.lst us) → ts.Perm (parts m.num m.den n) → ts.Pairwise (· ≤ ·) → Rows H' us (ts.map fun t => stp (rowF m.num m.den t) n) → Q (.ref r) H'
theorem Rows.putL {H : Hp} {us : List V} {zs : List (List Int)} {r : Addr} {xs ys : List V} (h : Rows H us zs) (e : H r = some (.lst xs)) : Rows (L2.upd H r (.lst ys)) us zs := ⟨h.1, fun j u hu => by
  obtain ⟨q, z, e1, e2, e3⟩ := h.2 j u hu
  refine ⟨q, z, e1, e2, ?_⟩
  rw [upd_ne (ne_of e3 e (by intro z; cases z))]
  exact e3⟩
section
variable {P : Program} {w : World} {K : PySem.W.Frag} {mg : Str → Option Value} {base : Heap} {C Cc : Addr}
abbrev TE_stretch_at1 (K : PySem.W.Frag) : TE := tOp (rI CDivA fun i j => .int (i.fdiv j)) (tOp (rI0 fun i j => .int (i + j)) (tVar 1) (tOp (rI CMulA fun i j => .int (i * j)) (tVar 3) (tFld K (tVar 0) "top"))) (tFld K (tVar 0) "bottom")
theorem ok_sat (D : Df K mg "stretch_at" s_stretch_at []) (T : ShT K C) (f_steps : Ca P w K mg base CX0 1 "steps" s_steps [] ["days"] spSteps) (g_range : mg "range" = none) (g_tuple : mg "tuple" = none) : Ca P w K mg base CX0 2 "stretch_at" s_stretch_at [] ["month", "part", "many"] (spSat C) := by
  refine ca0 (k := 1) D c_stretch_at (fun vs H Q E h => ?_) fun f cdv A outer s H vs Q E hr h => ?_
  · obtain ⟨s, t, n, m, rfl, _⟩ := h
    rfl
  · obtain ⟨s, t, n, m, rfl, ⟨dx, hs⟩, zm, zt, hn, q⟩ := h
    refine ⟨_, (pss_one (ps_ret (pe_callTy call_tuple_of rfl g_tuple (by decide +kernel) (pa_cons (pe_ca f_steps b_steps hr (by decide) pass0 rfl (pa_cons (pe_lc (own := [("n", 3)]) (g := gName 3) (tt := tYes) (te := TE_stretch_at1 K) rfl c_stretch_at.nd (pi_range1 rfl g_range (pa_cons (pe_op op_add (pv 2) pe_int) pa_nil)) (blkOk_by (N := ["month", "part", "many", "n"]) (sc := defScope s_stretch_at) (by decide +kernel)) (fun _ _ _ _ _ => (pg_name (i := 3) c_stretch_at.nd rfl (.inl rfl))) (fun _ _ _ _ _ => by exact pts_nil) (fun _ _ _ _ _ => by exact (pe_op op_fdivA (pe_op op_add (pv 1) (pe_op op_mulA (pv 3) (pe_fld (pv 0) rfl))) (pe_fld (pv 0) rfl)))) pa_nil)) pa_nil)))), ?_⟩
    refine ⟨_, rfl, _, _, rfl, rfl, _, rfl, ?_, ?_, fun D0 hD => ?_⟩
    · omega
    · omega
    have en : ((n : Int) + 1).toNat = n + 1 := by omega
    rw [en]
    refine lc_ints (walk_range (lo := 0) (n := n + 1)) yFn_same hD (by show n + 1 < 2 ^ 24; omega) (fun j => rowF m.num m.den t j) (fun _ _ => trivial) ?_ ?_
    · rintro j x H1 H2 R hj s1 ⟨rfl, rfl⟩ k1
      refine ⟨rfl, ?_⟩
      have zj : Sz 100000 (0 + (j : Int)) := by
        rw [Int.zero_add]
        exact znat j (by omega) (by decide)
      refine ⟨_, rfl, _, rfl, _, rfl, s, C, dx, _, _, rfl, s1 _ _ hs, T.cl, T.nT, sf_top _ _, _, _, rfl, rfl, ⟨zj, zm.1.mono (by decide)⟩, _, _, rfl, rfl, _, rfl, s, C, dx, _, _, rfl, s1 _ _ hs, T.cl, T.nB, sf_bottom _ _, _, _, rfl, rfl, ⟨Int.ne_of_gt (den_pos m), zm.2.mono (by decide)⟩, ?_⟩
      have k2 := k1 H2 (Same.refl _)
      have e : (t + (0 + (j : Int)) * m.num).fdiv (m.den : Int) = rowF m.num m.den t j := by
        unfold rowF
        rw [Int.fdiv_eq_ediv_of_nonneg _ (Int.le_of_lt (den_pos m)), Int.zero_add]
      show R (V.int ((t + (0 + (j : Int)) * m.num).fdiv (m.den : Int))) H2
      rw [e]
      exact k2
    · intro H' h1 h2
      refine ⟨D0, _, n, rfl, h1, by omega, fun r H2 nr s2 er => ?_⟩
      refine ⟨r, _, rfl, .inl ⟨SqL.of er, fun l nl => ?_⟩⟩
      exact q l _ ((h2.trans s2).free nl) (Same.upd (h2.trans s2) nl) upd_same
abbrev TE_stretches1 (K : PySem.W.Frag) (C : Addr) : TE := tOp (rI (fun _ j => 0 < j) fun i j => .int (i % j)) (tOp (rI CMulA fun i j => .int (i * j)) (tUn (rU fun i => .int (-i)) (tVar 4)) (tFld K (tVar 2) "top")) (tFld K (tVar 2) "bottom")
abbrev TE_stretches2 (K : PySem.W.Frag) (C : Addr) : TE := tCall (spSat C) [] E0 (tCons (tVar 2) (tCons (tVar 5) (tCons (tVar 1) tNil)))
theorem ok_stretches (D : Df K mg "stretches" s_stretches []) (T : ShT K C) (Tc : CaT K C Cc) (f_stretch_at : Ca P w K mg base CX0 2 "stretch_at" s_stretch_at [] ["month", "part", "many"] (spSat C)) (g_range : mg "range" = none) (g_min : mg "min" = none) (g_sorted : mg "sorted" = none) : Ca P w K mg base CX0 3 "stretches" s_stretches [] ["calendar", "many"] (spStr' C Cc) := by
  refine ca0 (k := 2) D c_stretches (fun vs H Q E h => ?_) fun f cdv A outer s H vs Q E hr h => ?_
  · obtain ⟨p, n, m, y, o, k, rfl, _⟩ := h
    rfl
  · obtain ⟨p, n, m, y, o, k, rfl, hc, g, hn, q⟩ := h
    obtain ⟨dx, a, b, c, d, e, ⟨da, h1⟩, h2, h3, h4⟩ := id hc
    refine ⟨_, (pss_cons (ps_set (i := 2) c_stretches.nd rfl (.inr rfl) (pe_fld (pv 0) rfl))
      (pss_cons (ps_set (i := 3) c_stretches.nd rfl (.inl rfl) (pe_callB cr_sortedI rfl g_sorted (by decide +kernel) (pa_cons (pe_lc (own := [("n", 4)]) (g := gName 4) (tt := tYes) (te := TE_stretches1 K C) rfl c_stretches.nd (pi_range1 rfl g_range (pa_cons (pe_callB (call_min2 rfl) rfl g_min (by decide +kernel) (pa_cons (pe_op op_add (pv 1) pe_int) (pa_cons (pe_fld (pv 2) rfl) pa_nil))) pa_nil)) (blkOk_by (N := ["calendar", "many", "month", "parts", "n", "part"]) (sc := defScope s_stretches) (by decide +kernel)) (fun _ _ _ _ _ => (pg_name (i := 4) c_stretches.nd rfl (.inl rfl))) (fun _ _ _ _ _ => by exact pts_nil) (fun _ _ _ _ _ => by exact (pe_op op_mod (pe_op op_mulA (pe_un un_neg (pv 4)) (pe_fld (pv 2) rfl)) (pe_fld (pv 2) rfl)))) pa_nil)))
      (pss_one (ps_ret (pe_lc (own := [("part", 5)]) (g := gName 5) (tt := tYes) (te := TE_stretches2 K C) rfl c_stretches.nd (pi_list (pv 3)) (blkOk_by (N := ["calendar", "many", "month", "parts", "n", "part"]) (sc := defScope s_stretches) (by decide +kernel)) (fun _ _ _ _ _ => (pg_name (i := 5) c_stretches.nd rfl (.inl rfl))) (fun _ _ _ _ _ => by exact pts_nil) (fun _ _ _ _ _ => by exact (pe_ca f_stretch_at b_stretch_at hr (by decide) pass0 rfl (pa_cons (pv 2) (pa_cons (pv 5) (pa_cons (pv 1) pa_nil)))))))))), ?_⟩
    refine ⟨_, rfl, p, Cc, dx, _, _, rfl, e, Tc.cl, Tc.n1, cf_month _ _ _ _, ?_⟩
    have hdp := den_pos m
    have hdz := g.zm.2
    refine ⟨_, rfl, _, _, rfl, rfl, _, rfl, a, C, da, _, _, rfl, h1, T.cl, T.nB, sf_bottom _ _, _, _, rfl, _, rfl, ?_, ?_, fun D0 hD => ?_⟩
    · split <;> omega
    · split <;> omega
    have en : (if (m.den : Int) < (n : Int) + 1 then (m.den : Int) else (n : Int) + 1).toNat = min (n + 1) (m.den : Int).toNat := by
      split <;> omega
    rw [en]
    refine lc_ints (walk_range (lo := 0) (n := min (n + 1) (m.den : Int).toNat)) yFn_same hD (by show _ < 2 ^ 24; omega) (fun j => (-(j : Int) * m.num) % m.den) (fun _ _ => trivial) ?_ ?_
    · rintro j x H1 H2 R hj s1 ⟨rfl, rfl⟩ k1
      refine ⟨rfl, ?_⟩
      have zj : Sz 100000 (-(0 + (j : Int))) := by
        rw [Int.zero_add]
        exact (znat j (by omega) (by decide)).neg
      refine ⟨_, rfl, _, rfl, _, rfl, a, C, da, _, _, rfl, s1 _ _ h1, T.cl, T.nT, sf_top _ _, _, _, rfl, rfl, ⟨zj, g.zm.1.mono (by decide)⟩, _, rfl, a, C, da, _, _, rfl, s1 _ _ h1, T.cl, T.nB, sf_bottom _ _, _, _, rfl, rfl, hdp, ?_⟩
      have k2 := k1 H2 (Same.refl _)
      show R (V.int (-(0 + (j : Int)) * m.num % m.den)) H2
      rw [Int.zero_add]
      exact k2
    intro H1 e1 s1
    refine ⟨D0, _, rfl, SqL.of e1, fun ts l perm ris nl => ?_⟩
    have s2 := Same.upd (o := .lst (ts.map V.int)) s1 nl
    refine ⟨_, rfl, l, rfl, ⟨_, SqL.of upd_same⟩, fun D1 hD1 => ?_⟩
    have tsl : ts.length < 600 := by
      rw [perm.length_eq]
      simp
      omega
    refine lc_all (walk_list (K := K) (a := l) (xs := ts.map V.int)) yAt_same hD1 ?_ (fun j v H' => ∃ (q : Addr) (t : Int), v = .ref q ∧ ts[j]? = some t ∧ H' q = some (.tup ((stp (rowF m.num m.den t) n).map V.int)))
      (fun j v H1 H2 s ⟨q, t, e1, e2, e3⟩ => ⟨q, t, e1, e2, s _ _ e3⟩) (fun j v H1 acc acc' hacc ⟨q, t, e1, e2, e3⟩ => ⟨q, t, e1, e2, ?_⟩) (fun H' s' => SqL.of (s' _ _ upd_same)) ?_ ?_
    · rw [List.length_map]
      exact Nat.lt_trans tsl (by decide)
    · rw [upd_ne (ne_of e3 hacc (by intro z; cases z))]
      exact e3
    · rintro j x H2 H3 R hj s3 ⟨rfl, hx⟩ k1
      rw [List.getElem?_map] at hx
      obtain ⟨t, ht, rfl⟩ := Option.map_eq_some_iff.mp hx
      refine ⟨rfl, ?_⟩
      have tb := parts_bd hdp (perm.mem_iff.mp (List.mem_of_getElem? ht))
      have zt : Sz 100 t := by
        refine Nat.lt_of_lt_of_le (?_ : t.natAbs < 2 ^ 70) (Nat.pow_le_pow_right (by decide) (by decide))
        have := hdz
        unfold Sz at this
        omega
      exact ⟨_, rfl, _, rfl, _, rfl, a, t, n, m, rfl, ⟨da, s3 _ _ (s2 _ _ h1)⟩, g.zm.mono (by decide), zt, hn, fun r H4 nr s4 er => k1 _ H4 s4 ⟨r, t, rfl, ht, er⟩⟩
    · intro us H' hl hD' hs hp
      refine q D1 H' us ts ((s2).free hD1) (s2.trans hs) hD' perm ris ⟨by rw [hl]; simp, fun j u hu => ?_⟩
      obtain ⟨r, t, e1, e2, e3⟩ := hp j u hu
      exact ⟨r, _, e1, by rw [List.getElem?_map, e2]; rfl, e3⟩
end
/-! ### whole rounds -/
def spCm : Sp := fun vs H Q _ => ∃ a b : Int, vs = [.int a, .int b] ∧ 0 < a ∧ 0 < b ∧ Sz 4000 a ∧ Sz 4000 b ∧ Q (.int (lcI a b)) H
def spWr (C Cc : Addr) : Sp := fun vs H Q _ => ∃ (p : Addr) (m y o k : Rat), vs = [.ref p] ∧ Cl C Cc H p m y o k ∧ Good m y o k ∧ ∀ r H', H r = none → Same H H' → H' r = some (.tup [.int (wrD m y), .int (wrM m y), .int (wrY m y)]) → Q (.ref r) H'
theorem Good.pm {m y o k : Rat} (g : Good m y o k) : 0 < m.num := num_pos g.fit.pos
theorem Good.py {m y o k : Rat} (g : Good m y o k) : 0 < y.num := num_pos g.fit.ypos'
theorem Sz.div {n : Nat} {a b : Int} (h : Sz n a) : Sz n (a / b) := Nat.lt_of_le_of_lt (Int.natAbs_ediv_le_natAbs _ _) h
theorem Good.zD {m y o k : Rat} (g : Good m y o k) : Sz 140 (wrD m y) := (Sz.mul (g.zm.1.div) g.zy.1).mono (by decide)
theorem Good.zM {m y o k : Rat} (g : Good m y o k) : Sz 210 (wrM m y) := (Sz.mul (g.zD.div) g.zm.2).mono (by decide)
theorem Good.zY {m y o k : Rat} (g : Good m y o k) : Sz 210 (wrY m y) := (Sz.mul (g.zD.div) g.zy.2).mono (by decide)
theorem Good.hM {m y o k : Rat} (g : Good m y o k) : (wrM m y : Rat) * m = (wrD m y : Rat) := of_den (wr_eqM g.fit.pos g.fit.ypos')
theorem Good.hY {m y o k : Rat} (g : Good m y o k) : (wrY m y : Rat) * y = (wrD m y : Rat) := of_den (wr_eqY g.fit.pos g.fit.ypos')
section
variable {P : Program} {w : World} {K : PySem.W.Frag} {mg : Str → Option Value} {base : Heap} {C Cc : Addr}
theorem ok_cm (D : Df K mg "common_multiple" s_common_multiple []) (f_common_divisor : Ca P w K mg base CX0 1 "common_divisor" s_common_divisor [] ["one", "two"] spGcd) : Ca P w K mg base CX0 2 "common_multiple" s_common_multiple [] ["one", "two"] spCm := by
  refine ca0 (k := 1) D c_common_multiple (fun vs H Q E h => ?_) fun f cdv A outer s H vs Q E hr h => ?_
  · obtain ⟨a, b, rfl, _⟩ := h
    rfl
  · obtain ⟨a, b, rfl, ha, hb, za, zb, q⟩ := h
    refine ⟨_, (pss_one (ps_ret (pe_op op_mulA (pe_op op_fdivA (pv 0) (pe_ca f_common_divisor b_common_divisor hr (by decide) pass0 rfl (pa_cons (pv 0) (pa_cons (pv 1) pa_nil)))) (pv 1)))), ?_⟩
    have hg : (Int.gcd a b : Int) ≠ 0 := by
      have := Int.gcd_pos_of_ne_zero_left b (show a ≠ 0 by omega)
      omega
    refine ⟨_, rfl, _, rfl, _, rfl, a, b, rfl, _, _, rfl, rfl, ⟨hg, (gcd_sz (show b ≠ 0 by omega) (zb.mono (by decide))).mono (by decide)⟩, _, rfl, _, _, rfl, rfl, ?_⟩
    have e : a.fdiv (Int.gcd a b : Int) = a / (Int.gcd a b : Int) := Int.fdiv_eq_ediv_of_nonneg _ (Int.natCast_nonneg _)
    refine ⟨?_, ?_⟩
    · show CMulA (a.fdiv (Int.gcd a b : Int)) b
      rw [e]
      exact ⟨za.div.mono (by decide), zb.mono (by decide)⟩
    · show Q (V.int (a.fdiv (Int.gcd a b : Int) * b)) H
      rw [e]
      exact q
theorem ok_wr (D : Df K mg "whole_round" s_whole_round []) (T : ShX K C) (Tc : CaT K C Cc) (f_common_multiple : Ca P w K mg base CX0 2 "common_multiple" s_common_multiple [] ["one", "two"] spCm) : Ca P w K mg base CX0 3 "whole_round" s_whole_round [] ["calendar"] (spWr C Cc) := by
  refine ca0 (k := 2) D c_whole_round (fun vs H Q E h => ?_) fun f cdv A outer s H vs Q E hr h => ?_
  · obtain ⟨p, m, y, o, k, rfl, _⟩ := h
    rfl
  · obtain ⟨p, m, y, o, k, rfl, hc, g, q⟩ := h
    obtain ⟨dx, a, b, c, d, e, ⟨d1, h1⟩, ⟨d2, h2⟩, h3, h4⟩ := id hc
    refine ⟨_, (pss_cons (ps_set (i := 1) c_whole_round.nd rfl (.inl rfl) (pe_fld (pv 0) rfl))
      (pss_cons (ps_set (i := 2) c_whole_round.nd rfl (.inl rfl) (pe_fld (pv 0) rfl))
      (pss_cons (ps_set (i := 3) c_whole_round.nd rfl (.inl rfl) (pe_ca f_common_multiple b_common_multiple hr (by decide) pass0 rfl (pa_cons (pe_fld (pv 1) rfl) (pa_cons (pe_fld (pv 2) rfl) pa_nil))))
      (pss_one (ps_ret (pe_tup (pa_cons (pv 3) (pa_cons (pe_op op_mulA (pe_op op_fdivA (pv 3) (pe_fld (pv 1) rfl)) (pe_fld (pv 1) rfl)) (pa_cons (pe_op op_mulA (pe_op op_fdivA (pv 3) (pe_fld (pv 2) rfl)) (pe_fld (pv 2) rfl)) pa_nil))))))))), ?_⟩
    have pm := g.pm
    have py := g.py
    refine ⟨_, rfl, p, Cc, dx, _, _, rfl, e, Tc.cl, Tc.n1, cf_month _ _ _ _, ?_⟩
    refine ⟨_, rfl, p, Cc, dx, _, _, rfl, e, Tc.cl, Tc.n2, cf_year _ _ _ _, ?_⟩
    refine ⟨_, rfl, a, C, d1, _, _, rfl, h1, T.cl, T.nT, sf_top _ _, _, rfl, b, C, d2, _, _, rfl, h2, T.cl, T.nT, sf_top _ _, m.num, y.num, rfl, pm, py, g.zm.1.mono (by decide), g.zy.1.mono (by decide), ?_⟩
    have e1 : (wrD m y).fdiv m.num = wrD m y / m.num := Int.fdiv_eq_ediv_of_nonneg _ (Int.le_of_lt pm)
    have e2 : (wrD m y).fdiv y.num = wrD m y / y.num := Int.fdiv_eq_ediv_of_nonneg _ (Int.le_of_lt py)
    refine ⟨_, rfl, _, rfl, _, rfl, a, C, d1, _, _, rfl, h1, T.cl, T.nT, sf_top _ _, _, _, rfl, rfl, ⟨by omega, g.zm.1.mono (by decide)⟩, _, rfl, a, C, d1, _, _, rfl, h1, T.cl, T.nB, sf_bottom _ _, _, _, rfl, rfl, ?_⟩
    refine ⟨?_, _, rfl, _, rfl, b, C, d2, _, _, rfl, h2, T.cl, T.nT, sf_top _ _, _, _, rfl, rfl, ⟨by omega, g.zy.1.mono (by decide)⟩, _, rfl, b, C, d2, _, _, rfl, h2, T.cl, T.nB, sf_bottom _ _, _, _, rfl, rfl, ?_⟩
    · show CMulA ((wrD m y).fdiv m.num) m.den
      rw [e1]
      exact ⟨g.zD.div.mono (by decide), g.zm.2.mono (by decide)⟩
    refine ⟨?_, (by show 3 ≤ sizeLine; decide), fun r nr => ?_⟩
    · show CMulA ((wrD m y).fdiv y.num) y.den
      rw [e2]
      exact ⟨g.zD.div.mono (by decide), g.zy.2.mono (by decide)⟩
    refine q r _ nr (Same.new nr) ?_
    rw [upd_same]
    show some (HO.tup [V.int (wrD m y), V.int ((wrD m y).fdiv m.num * m.den), V.int ((wrD m y).fdiv y.num * y.den)]) = _
    rw [e1, e2]
    rfl
end
/-! ### near rounds -/
theorem hu1 {k : Nat} {A : Around} (r : Room k A) : A.units + 1 < cLine := by
  have := r.un
  omega
abbrev rAddS : R2 := fun x y H Q => ∃ i j, x = .str i ∧ y = .str j ∧ i.length + j.length ≤ sizeLine ∧ Q (.str (i ++ j)) H
def pu (k : List (Key × V)) (p : Int × Int) : List (Key × V) := putK k (.inl p.1) (.int p.2)
def en (p : Int × Int) : Key × V := (.inl p.1, .int p.2)
theorem pu_new {K0 : List (Int × Int)} {p : Int × Int} (h : ∀ x ∈ K0, x.1 ≠ p.1) : pu (K0.map en) p = (K0 ++ [p]).map en := by
  unfold pu putK
  rw [if_neg, List.map_append]
  · rfl
  · rw [List.any_map]
    intro z
    obtain ⟨x, hx, e⟩ := List.any_eq_true.mp z
    have e : (Sum.inl x.1 : Key) = .inl p.1 := of_decide_eq_true e
    exact h x hx (Sum.inl.inj e)
theorem fold_inc {A B most : Int} : ∀ (L K0 : List (Int × Int)) (p q : Int × Int), G3 A B most p q L → (∀ x ∈ K0, x.1 ≤ q.1) → L.foldl pu (K0.map en) = (K0 ++ L).map en
  | [], K0, _, _, _, _ => by simp
  | r :: L, K0, p, q, h, hk => by
    obtain ⟨h1, _, h3⟩ := h
    have lt := h1.lt
    rw [List.foldl_cons, pu_new (fun x hx => by have := hk x hx; omega), fold_inc L (K0 ++ [r]) q r h3 (fun x hx => ?_), List.append_assoc]
    · rfl
    · rcases List.mem_append.mp hx with hx | hx
      · have := hk x hx
        omega
      · rw [List.mem_singleton.mp hx]
        exact Int.le_refl _
theorem rows_fold {most A B : Int} {f : Nat} (hm : 1 ≤ most) (h1 : 0 < B) (h2 : B ≤ A) (hf : A * B < 2 ^ (f + 2)) : (cvs most (f + 2) A B 0 1 1 0).foldl pu [] = (rowsL most A B f).map en := by
  obtain ⟨q, R, e, q1, _, g⟩ := rows_good (most := most) h1 h2 hf
  rw [cvs_go (by omega) (by omega), show A / B * 0 + 1 = 1 by omega, show A / B * 1 + 0 = A / B by omega, List.foldl_cons]
  have p1 : pu [] (1, A / B) = [((1, A / B) : Int × Int)].map en := pu_new (K0 := []) fun x hx => by cases hx
  rw [p1]
  unfold rowsL at e ⊢
  by_cases hr : A % B = 0
  · rw [if_pos hr]
    rw [cvs_end hr]
    rfl
  rw [if_neg hr] at e ⊢
  by_cases hp : B / (A % B) = 1
  · rw [if_pos hp] at e ⊢
    rw [cvs_go hr (by rw [hp]; omega), hp, show (1 : Int) * 1 + 0 = 1 by omega, show 1 * (A / B) + 1 = A / B + 1 by omega, List.foldl_cons]
    have p2 : pu ([((1, A / B) : Int × Int)].map en) (1, A / B + 1) = [((1, A / B + 1) : Int × Int)].map en := by
      unfold pu putK
      simp [en]
    rw [p2]
    injection e with e1 e2
    rw [e2, fold_inc R [(1, A / B + 1)] _ q g (fun x hx => by rw [List.mem_singleton.mp hx]; show 1 ≤ q.1; omega)]
    rfl
  · rw [if_neg hp] at e ⊢
    injection e with e1 e2
    rw [e2, fold_inc R [(1, A / B)] _ q g (fun x hx => by rw [List.mem_singleton.mp hx]; show 1 ≤ q.1; omega)]
    rfl
theorem Sz.quo {n : Nat} {a b : Int} (h : Sz n a) : Sz n (a / b) := Nat.lt_of_le_of_lt (Int.natAbs_ediv_le_natAbs _ _) h
/-- how large a state's numbers are -/
theorem eu_sz {A B s one two y m fy fm most : Int} (h : Eu A B s one two y m fy fm) (hB : 0 < B) (oA : one ≤ A) (zA : Sz 200 A) (zM : Sz 100 most) (ym : y ≤ most) (fm' : fy ≤ most) : Sz 200 one ∧ Sz 200 two ∧ Sz 100 y ∧ Sz 100 fy ∧ Sz 310 m ∧ Sz 310 fm := by
  have o0 := h.o0
  have t0 := h.t0
  have to := h.to
  have y0 := h.y0
  have f0 := h.f0
  have zy : Sz 100 y := by unfold Sz at *; omega
  have zf : Sz 100 fy := by unfold Sz at *; omega
  have zo : Sz 200 one := by unfold Sz at *; omega
  have zt : Sz 200 two := by unfold Sz at *; omega
  have up : ∀ {u : Int}, Sz 310 (u * B) → Sz 310 u := fun {u} hu => by
    unfold Sz at *
    rw [Int.natAbs_mul] at hu
    have : 1 ≤ B.natAbs := by omega
    exact Nat.lt_of_le_of_lt (Nat.le_mul_of_pos_right _ this) hu
  refine ⟨zo, zt, zy, zf, up ?_, up ?_⟩
  · have z1 : Sz 300 (y * A) := (Sz.mul zy zA)
    have e := h.e1
    rcases h.s1 with z | z <;> rw [z] at e <;> unfold Sz at * <;> omega
  · have z1 : Sz 300 (fy * A) := (Sz.mul zf zA)
    have e := h.e2
    rcases h.s1 with z | z <;> rw [z] at e <;> unfold Sz at * <;> omega
def spNm (C : Addr) : Sp := fun vs H Q _ => ∃ (p : Addr) (most : Int) (x : Rat), vs = [.ref p, .int most] ∧ Sh C H p x ∧ 1 ≤ x ∧ Rz 200 x ∧ 1 ≤ most ∧ Sz 100 most ∧ ∀ d H', H d = none → Same H H' → H' d = some (.dK ((rowsL most x.num x.den 398).map en)) → Q (.ref d) H'
section
variable {P : Program} {w : World} {K : PySem.W.Frag} {mg : Str → Option Value} {base : Heap} {C Cc : Addr}
theorem ok_nm (D : Df K mg "nearest_months" s_nearest_months []) (T : ShX K C) : Ca P w K mg base CX0 1 "nearest_months" s_nearest_months [] ["ratio", "most"] (spNm C) := by
  refine ca0 (k := 0) D c_nearest_months (fun vs H Q E h => ?_) fun f cdv A outer s H vs Q E hr h => ?_
  · obtain ⟨p, most, x, rfl, _⟩ := h
    rfl
  · obtain ⟨p, most, x, rfl, ⟨dx, e⟩, x1, zx, m1, zm, q⟩ := h
    have hB : (0 : Int) < x.den := den_pos x
    have hBA : (x.den : Int) ≤ x.num := by
      have h3 : ((1 : Int) : Rat) ≤ x := x1
      have h4 := Rat.le_iff (1 : Rat) x |>.mp x1
      have e1 : (1 : Rat).num = 1 := rfl
      have e2 : (1 : Rat).den = 1 := rfl
      rw [e1, e2] at h4
      omega
    have hAB : x.num * (x.den : Int) < 2 ^ (398 + 2) := by
      have := Sz.mul zx.1 zx.2
      unfold Sz at this
      omega
    refine ⟨_, (pss_cons (ps_par (i := 2) (j := 3) rfl c_nearest_months.nd rfl rfl (by decide) rfl rfl (pa_cons (pe_fld (pv 0) rfl) (pa_cons (pe_fld (pv 0) rfl) pa_nil)) rfl)
      (pss_cons (ps_asg (pe_tup (pa_cons pe_int (pa_cons pe_int pa_nil))) (pg_tup rfl (pgs_cons (pg_name (i := 4) c_nearest_months.nd rfl (.inl rfl)) (pgs_cons (pg_name (i := 5) c_nearest_months.nd rfl (.inl rfl)) pgs_nil))))
      (pss_cons (ps_asg (pe_tup (pa_cons pe_int (pa_cons pe_int pa_nil))) (pg_tup rfl (pgs_cons (pg_name (i := 6) c_nearest_months.nd rfl (.inl rfl)) (pgs_cons (pg_name (i := 7) c_nearest_months.nd rfl (.inl rfl)) pgs_nil))))
      (pss_cons (ps_set (i := 8) c_nearest_months.nd rfl (.inl rfl) pe_dnewK)
      (pss_cons (ps_while PassesOwn.never (pt_cmpR op_ne (pv 3) pe_int (nomark _)) (pss_cons (ps_set (i := 9) c_nearest_months.nd rfl (.inl rfl) (pe_op op_fdivA (pv 2) (pv 3)))
      (pss_cons (ps_par (i := 4) (j := 6) rfl c_nearest_months.nd rfl rfl (by decide) rfl rfl (pa_cons (pe_op op_add (pe_op op_mulA (pv 9) (pv 4)) (pv 6)) (pa_cons (pv 4) pa_nil)) rfl)
      (pss_cons (ps_par (i := 5) (j := 7) rfl c_nearest_months.nd rfl rfl (by decide) rfl rfl (pa_cons (pe_op op_add (pe_op op_mulA (pv 9) (pv 5)) (pv 7)) (pa_cons (pv 5) pa_nil)) rfl)
      (pss_cons (ps_if (pt_cmpR op_gt (pv 4) (pv 1) (nomark _)) (pss_one ps_break) pss_nil)
      (pss_cons (ps_dput (hu1 hr) (pv 8) (pv 4) (pv 5) rfl)
      (pss_one (ps_par (i := 2) (j := 3) rfl c_nearest_months.nd rfl rfl (by decide) rfl rfl (pa_cons (pv 3) (pa_cons (pe_op op_mod (pv 2) (pv 3)) pa_nil)) rfl))))))))
      (pss_one (ps_ret (pv 8)))))))), ?_⟩
    refine ⟨_, rfl, p, C, dx, _, _, rfl, e, T.cl, T.nT, sf_top _ _, _, rfl, p, C, dx, _, _, rfl, e, T.cl, T.nB, sf_bottom _ _, _, _, rfl, ?_⟩
    refine ⟨(by show 2 ≤ sizeLine; decide), fun p1 n1 => ⟨p1, _, rfl, SqT.of upd_same, rfl, _, _, rfl, _, _, rfl, rfl, ?_⟩⟩
    refine ⟨(by show 2 ≤ sizeLine; decide), fun p2 n2 => ⟨p2, _, rfl, SqT.of upd_same, rfl, _, _, rfl, _, _, rfl, rfl, fun d nd' => ?_⟩⟩
    have s12 := (Same.new (o := .tup [.int 0, .int 1]) n1).trans (Same.new (o := .tup [.int 1, .int 0]) n2)
    have nd := s12.free nd'
    have s0 := s12.trans (Same.new (o := .dK []) nd')
    have E0 := eu_start hB hBA
    have hfold := rows_fold (most := most) m1 hB hBA hAB
    have zA := zx.1
    generalize hA : x.num = A' at *
    generalize hB' : (x.den : Int) = B' at *
    refine while_by (fun σ H' => ∃ (sg one two y m fy fm : Int) (v9 : Option V) (kvs : List (Key × V)) (g : Nat), σ = [some (.ref p), some (.int most), some (.int one), some (.int two), some (.int y), some (.int m), some (.int fy), some (.int fm), some (.ref d), v9] ∧ Eu A' B' sg one two y m fy fm ∧ one ≤ A' ∧ y ≤ most ∧ fy ≤ most ∧ one * two < 2 ^ g ∧ kvs.length + g ≤ 400 ∧ (cvs most g one two y m fy fm).foldl pu kvs = (rowsL most A' B' 398).map en ∧ Same H H' ∧ H' d = some (.dK kvs)) (mu2 3)
      ⟨1, A', B', 0, 1, 1, 0, none, [], 400, rfl, E0, Int.le_refl _, by omega, by omega, hAB, by decide, hfold, s0, upd_same⟩ ?_ ?_
    · rintro σ H' ⟨sg, one, two, y, m, fy, fm, v9, kvs, g, rfl, E, oA, ym, fym, hg, hk, hfo, s1, ed⟩
      obtain ⟨zo, zt, zy, zfy, zm', zfm⟩ := eu_sz E hB oA zA zm ym fym
      refine ⟨_, rfl, rfl, _, rfl, ?_⟩
      by_cases ht : two = 0
      · rw [show (!decide (V.int two = V.int 0)) = false by rw [ht]; rfl]
        refine iteF ⟨_, rfl, ?_⟩
        rw [cvs_end ht] at hfo
        exact q d H' nd s1 (by rw [ed]; exact congrArg _ (congrArg _ hfo))
      · rw [show (!decide (V.int two = V.int 0)) = true by simpa using ht]
        refine iteT ?_
        have E2 := E.step ht
        have t0 := E.t0
        have efd : one.fdiv two = one / two := Int.fdiv_eq_ediv_of_nonneg _ t0
        refine ⟨_, rfl, _, rfl, _, _, rfl, rfl, ⟨ht, zt.mono (by decide)⟩, ?_⟩
        show tSeq _ _ _ [_, _, _, _, _, _, _, _, _, some (V.int (one.fdiv two))] _
        rw [efd]
        have zp : Sz 200 (one / two) := zo.quo
        refine ⟨_, rfl, _, rfl, _, _, rfl, rfl, ⟨zp.mono (by decide), zy.mono (by decide)⟩, _, rfl, _, _, rfl, rfl, _, rfl, _, _, rfl, ?_⟩
        refine ⟨_, rfl, _, rfl, _, _, rfl, rfl, ⟨zp.mono (by decide), zm'.mono (by decide)⟩, _, rfl, _, _, rfl, rfl, _, rfl, _, _, rfl, ?_⟩
        refine ⟨_, rfl, _, rfl, _, _, rfl, rfl, _, rfl, ?_⟩
        by_cases hm : most < one / two * y + fy
        · rw [decide_eq_true hm]
          refine iteT ⟨_, rfl, ?_⟩
          rw [cvs_stop ht hm] at hfo
          exact q d H' nd s1 (by rw [ed]; exact congrArg _ (congrArg _ hfo))
        · rw [decide_eq_false hm]
          refine iteF ?_
          obtain ⟨g', rfl⟩ := fuel_pos E.o0 (show 0 < two by omega) hg
          rw [cvs_go ht hm, List.foldl_cons] at hfo
          refine ⟨_, rfl, _, rfl, _, rfl, d, _, rfl, DPut.k (k := .inl (one / two * y + fy)) ed ?_, ?_⟩
          · show kvs.length < 16777216
            omega
          have s2 : Same H (L2.upd H' d (.dK (putK kvs (.inl (one / two * y + fy)) (.int (one / two * m + fm))))) := upd_keep nd s1
          have to := E.to
          refine ⟨_, rfl, _, rfl, _, rfl, _, _, rfl, rfl, (by omega), _, _, rfl, ⟨-sg, two, one % two, one / two * y + fy, one / two * m + fm, y, m, _, pu kvs (one / two * y + fy, one / two * m + fm), g', rfl, E2, by omega, by omega, ym, E.less ht hg, ?_, hfo, s2, upd_same⟩, ?_⟩
          · have : (pu kvs (one / two * y + fy, one / two * m + fm)).length ≤ kvs.length + 1 := by
              unfold pu putK
              split <;> simp
            omega
          · have := Int.emod_lt_of_pos one (show 0 < two by omega)
            have := Int.emod_nonneg one ht
            show (one % two).natAbs < two.natAbs
            omega
    · intro σ H' R R' hq
      rintro ⟨v, h1, h2, k, h3, h4⟩
      exact ⟨v, h1, h2, k, h3, hq _ _ h4⟩
end
/-! ### near rounds told -/
def spLack (C Cc : Addr) : Sp := fun vs H Q _ => ∃ (p : Addr) (z : Int × Int) (m y o k : Rat), vs = [.ref p, .int z.1, .int z.2] ∧ Cl C Cc H p m y o k ∧ Good m y o k ∧ Sz 310 z.1 ∧ Sz 310 z.2 ∧ ∀ r H', H r = none → Same H H' → Sh C H' r (lkR m y z) → Q (.ref r) H'
def rowsN (m y : Rat) (most : Int) : List (Int × Int) := rowsL most (y / m).num (y / m).den 398
def RowsR (R : Hp → V → Int × Int → Prop) (H : Hp) (us : List V) (L : List (Int × Int)) : Prop := us.length = L.length ∧ ∀ (j : Nat) (u : V), us[j]? = some u → ∃ z : Int × Int, L[j]? = some z ∧ R H u z
def RowS (C : Addr) (m y : Rat) (H : Hp) (u : V) (z : Int × Int) : Prop := ∃ q s : Addr, u = .ref q ∧ H q = some (.tup [.int z.1, .int z.2, .ref s]) ∧ Sh C H s (lkR m y z)
theorem RowS.same {C : Addr} {m y : Rat} {H H1 : Hp} {u : V} {z : Int × Int} (h : RowS C m y H u z) (s : Same H H1) : RowS C m y H1 u z := by
  obtain ⟨q, t, e, e1, e2⟩ := h
  exact ⟨q, t, e, s _ _ e1, e2.same s⟩
theorem RowS.put {C D : Addr} {m y : Rat} {H : Hp} {u : V} {z : Int × Int} {o o' : HO} (h : RowS C m y H u z) (hD : H D = some o) (n1 : ∀ xs, o ≠ .tup xs) (n2 : ∀ c dx fs, o ≠ .ins c dx fs) : RowS C m y (L2.upd H D o') u z := by
  obtain ⟨q, t, e, e1, dx, e2⟩ := h
  exact ⟨q, t, e, by rw [upd_ne (ne_of e1 hD fun z => n1 _ z.symm)]; exact e1, dx, by rw [upd_ne (ne_of e2 hD fun z => n2 _ _ _ z.symm)]; exact e2⟩
def spNrs (C Cc : Addr) : Sp := fun vs H Q _ => ∃ (p : Addr) (most : Int) (m y o k : Rat), vs = [.ref p, .int most] ∧ Cl C Cc H p m y o k ∧ Good m y o k ∧ 1 ≤ most ∧ Sz 100 most ∧
  ∀ D (us : List V) H', H D = none → Same H H' → H' D = some (.lst us) → RowsR (RowS C m y) H' us (rowsN m y most) → Q (.ref D) H'
theorem Good.one {m y o k : Rat} (g : Good m y o k) : (1 : Rat) ≤ y / m := by
  have p := g.fit.pos
  have h2 := g.fit.between
  have h3 : m ≤ (m.ceil : Rat) := Rat.le_ceil
  by_cases h : (1 : Rat) ≤ y / m
  · exact h
  · have h4 : 0 < 1 - y / m := by grind
    have h5 := Rat.mul_pos h4 p
    have e : y / m * m = y := by grind
    grind
theorem Good.zx {m y o k : Rat} (g : Good m y o k) : Rz 200 (y / m) := (Rz.div g.zy g.zm (by have := g.fit.pos; grind) (by decide : _ < 146)).mono (by decide)
theorem Good.AB {m y o k : Rat} (g : Good m y o k) : ((y / m).den : Int) ≤ (y / m).num := by
  have h4 := Rat.le_iff (1 : Rat) (y / m) |>.mp g.one
  have e1 : (1 : Rat).num = 1 := rfl
  have e2 : (1 : Rat).den = 1 := rfl
  rw [e1, e2] at h4
  omega
theorem Good.rows {m y o k : Rat} (g : Good m y o k) {most : Int} (hm : 1 ≤ most) : RowsOk (y / m).num (y / m).den most (rowsN m y most) := by
  refine rows_ok hm (den_pos _) g.AB ?_
  have := Sz.mul g.zx.1 g.zx.2
  unfold Sz at this
  omega
theorem row_sz {A B most : Int} {z : Int × Int} (zA : Sz 200 A) (zB : Sz 200 B) (hB : 0 < B) (zM : Sz 100 most) (h : 1 ≤ z.1 ∧ z.1 ≤ most) (hh : 2 * ((dv A B z).natAbs : Int) ≤ B) : Sz 100 z.1 ∧ Sz 310 z.2 := by
  have z1 : Sz 100 z.1 := by unfold Sz at *; omega
  refine ⟨z1, ?_⟩
  have z2 : Sz 300 (z.1 * A) := Sz.mul z1 zA
  have z3 : Sz 310 (z.2 * B) := by
    unfold dv at hh
    have e : (2 : Nat) ^ 301 = 2 ^ 300 + 2 ^ 300 := by decide
    have z4 : Sz 300 B := zB.mono (by decide)
    have z5 : Sz 301 (z.2 * B) := by
      unfold Sz at *
      omega
    exact z5.mono (by decide)
  unfold Sz at *
  rw [Int.natAbs_mul] at z3
  have : 1 ≤ B.natAbs := by omega
  exact Nat.lt_of_le_of_lt (Nat.le_mul_of_pos_right _ this) z3
theorem Good.rsz {m y o k : Rat} (g : Good m y o k) {most : Int} (hm : 1 ≤ most) (zM : Sz 100 most) {z : Int × Int} (hz : z ∈ rowsN m y most) : Sz 100 z.1 ∧ Sz 310 z.2 :=
  row_sz g.zx.1 g.zx.2 (den_pos _) zM ((g.rows hm).le z hz) ((g.rows hm).half z hz)
theorem Good.zlk {m y o k : Rat} (g : Good m y o k) {z : Int × Int} (h1 : Sz 310 z.1) (h2 : Sz 310 z.2) : Rz 800 (lkR m y z) := ((Rz.int h2 (by decide)).mul g.zm (by decide : _ < 390)).sub ((Rz.int h1 (by decide)).mul g.zy (by decide : _ < 390)) (by decide)
abbrev TE_near_rounds1 (C Cc : Addr) : TE := tTup (tCons (tVar 3) (tCons (tVar 4) (tCons (tCall (spLack C Cc) [] E0 (tCons (tVar 0) (tCons (tVar 3) (tCons (tVar 4) tNil)))) tNil)))
section
variable {P : Program} {w : World} {K : PySem.W.Frag} {mg : Str → Option Value} {base : Heap} {C Cc : Addr}
theorem ok_lack (D : Df K mg "lack" s_lack []) (Tc : CaT K C Cc) (f_times : Ca P w K mg base CX0 5 "times" s_times [] ["one", "two"] (spTwo C (fun _ _ => True) (fun a b => a * b))) (f_minus : Ca P w K mg base CX0 5 "minus" s_minus [] ["one", "two"] (spTwo C (fun _ _ => True) (fun a b => a - b))) : Ca P w K mg base CX0 6 "lack" s_lack [] ["calendar", "years", "months"] (spLack C Cc) := by
  refine ca0 (k := 5) D c_lack (fun vs H Q E h => ?_) fun f cdv A outer s H vs Q E hr h => ?_
  · obtain ⟨p, z, m, y, o, k, rfl, _⟩ := h
    rfl
  · obtain ⟨p, z, m, y, o, k, rfl, hc, g, z1, z2, q⟩ := h
    obtain ⟨dx, a, b, c, d, e, h1, h2, h3, h4⟩ := id hc
    refine ⟨_, (pss_one (ps_ret (pe_ca f_minus b_minus hr (by decide) pass0 rfl (pa_cons (pe_ca f_times b_times hr (by decide) pass0 rfl (pa_cons (pv 2) (pa_cons (pe_fld (pv 0) rfl) pa_nil))) (pa_cons (pe_ca f_times b_times hr (by decide) pass0 rfl (pa_cons (pv 1) (pa_cons (pe_fld (pv 0) rfl) pa_nil))) pa_nil))))), ?_⟩
    refine ⟨_, rfl, _, rfl, p, Cc, dx, _, _, rfl, e, Tc.cl, Tc.n1, cf_month _ _ _ _, .int z.2, .ref a, (z.2 : Rat), m, rfl, Rv.int, h1.rv, Rz.int (z2.mono (by decide)) (by decide), g.zm.mono (by decide), trivial, fun r1 H1 n1 s1 e1 => ?_⟩
    refine ⟨_, rfl, _, rfl, p, Cc, dx, _, _, rfl, s1 _ _ e, Tc.cl, Tc.n2, cf_year _ _ _ _, .int z.1, .ref b, (z.1 : Rat), y, rfl, Rv.int, (h2.same s1).rv, Rz.int (z1.mono (by decide)) (by decide), g.zy.mono (by decide), trivial, fun r2 H2 n2 s2 e2 => ?_⟩
    refine ⟨.ref r1, .ref r2, (z.2 : Rat) * m, (z.1 : Rat) * y, rfl, (e1.same s2).rv, e2.rv, ((Rz.int z2 (by decide)).mul g.zm (by decide : _ < 390)).mono (by decide), ((Rz.int z1 (by decide)).mul g.zy (by decide : _ < 390)).mono (by decide), trivial, fun r H3 nr s3 er => q r H3 (s1.free (s2.free nr)) (s1.trans (s2.trans s3)) er⟩
theorem ok_nrs (D : Df K mg "near_rounds" s_near_rounds []) (Tc : CaT K C Cc) (f_over : Ca P w K mg base CX0 5 "over" s_over [] ["one", "two"] (spTwo C (fun _ b => b ≠ 0) (fun a b => a / b))) (f_lack : Ca P w K mg base CX0 6 "lack" s_lack [] ["calendar", "years", "months"] (spLack C Cc)) (f_nearest_months : Ca P w K mg base CX0 1 "nearest_months" s_nearest_months [] ["ratio", "most"] (spNm C)) : Ca P w K mg base CX0 7 "near_rounds" s_near_rounds [] ["calendar", "most"] (spNrs C Cc) := by
  refine ca0 (k := 6) D c_near_rounds (fun vs H Q E h => ?_) fun f cdv A outer s H vs Q E hr h => ?_
  · obtain ⟨p, most, m, y, o, k, rfl, _⟩ := h
    rfl
  · obtain ⟨p, most, m, y, o, k, rfl, hc, g, m1, zm, q⟩ := h
    obtain ⟨dx, a, b, c, d, e, h1, h2, h3, h4⟩ := id hc
    refine ⟨_, (pss_cons (ps_set (i := 2) c_near_rounds.nd rfl (.inl rfl) (pe_ca f_nearest_months b_nearest_months hr (by decide) pass0 rfl (pa_cons (pe_ca f_over b_over hr (by decide) pass0 rfl (pa_cons (pe_fld (pv 0) rfl) (pa_cons (pe_fld (pv 0) rfl) pa_nil))) (pa_cons (pv 1) pa_nil))))
      (pss_one (ps_ret (pe_lock (pe_lc (own := [("years", 3), ("months", 4)]) (g := gTup K 2 (gCons (gName 3) (gCons (gName 4) gNil))) (tt := tYes) (te := TE_near_rounds1 C Cc) rfl c_near_rounds.nd (pi_items (pv 2)) (blkOk_by (N := ["calendar", "most", "months_for", "years", "months"]) (sc := defScope s_near_rounds) (by decide +kernel)) (fun _ _ _ _ _ => (pg_tup rfl (pgs_cons (pg_name (i := 3) c_near_rounds.nd rfl (.inl rfl)) (pgs_cons (pg_name (i := 4) c_near_rounds.nd rfl (.inl rfl)) pgs_nil)))) (fun _ _ _ _ _ => by exact pts_nil) (fun _ _ _ _ _ => by exact (pe_tup (pa_cons (pv 3) (pa_cons (pv 4) (pa_cons (pe_ca f_lack b_lack hr (by decide) pass0 rfl (pa_cons (pv 0) (pa_cons (pv 3) (pa_cons (pv 4) pa_nil)))) pa_nil)))))))))), ?_⟩
    refine ⟨_, rfl, p, Cc, dx, _, _, rfl, e, Tc.cl, Tc.n2, cf_year _ _ _ _, _, rfl, p, Cc, dx, _, _, rfl, e, Tc.cl, Tc.n1, cf_month _ _ _ _, .ref b, .ref a, y, m, rfl, h2.rv, h1.rv, g.zy.mono (by decide), g.zm.mono (by decide), (by have := g.fit.pos; grind), fun r1 H1 n1 s1 e1 => ?_⟩
    refine ⟨_, rfl, r1, most, y / m, rfl, e1, g.one, g.zx, m1, zm, fun d H2 nd s2 ed => ?_⟩
    have ed : H2 d = some (.dK ((rowsN m y most).map en)) := ed
    refine ⟨d, _, ed, trivial, fun od => ?_⟩
    have s12 : Same H1 (L2.upd H2 d (.frz od (.dK ((rowsN m y most).map en)))) := upd_keep nd s2
    have ef : (L2.upd H2 d (.frz od (.dK ((rowsN m y most).map en)))) d = some (.frz od (.dK ((rowsN m y most).map en))) := upd_same
    have ndH : H d = none := s1.free nd
    have s02 := s1.trans s12
    refine ⟨_, rfl, d, od, _, rfl, ef, fun D nD => ?_⟩
    have nDd : D ≠ d := fun z => by
      rw [z, ef] at nD
      cases nD
    have nDH : H D = none := s02.free nD
    have hlen : (rowsN m y most).length ≤ 400 := rowsL_len
    generalize hHf : L2.upd H2 d (.frz od (.dK ((rowsN m y most).map en))) = Hf at *
    refine lc_all (walk_items (d := d) (o := od) (kvs := (rowsN m y most).map en)) yPair_same nD (by rw [List.length_map]; exact Nat.lt_of_le_of_lt hlen (by decide)) (fun (j : Nat) v H' => ∃ z : Int × Int, (rowsN m y most)[j]? = some z ∧ RowS C m y H' v z)
      (fun j v Ha Hb s ⟨z, e1, e2⟩ => ⟨z, e1, e2.same s⟩) (fun j v Ha acc acc' hacc ⟨z, e1, e2⟩ => ⟨z, e1, e2.put hacc (fun _ z => by cases z) (fun _ _ _ z => by cases z)⟩) (fun H' s' => s' _ _ ef) ?_ ?_
    · rintro i x Ha Hb R hi sa ⟨T, u, v, rfl, nT, rfl, hu, hv⟩ k1
      rw [List.length_map] at hi
      have hpi := List.getElem?_eq_getElem hi
      obtain ⟨rfl, rfl⟩ : u = .int ((rowsN m y most)[i]).1 ∧ v = .int ((rowsN m y most)[i]).2 := by
        dsimp only at hu hv
        rw [List.getElem?_map, hpi] at hu hv
        exact ⟨(Option.some.inj hu).symm, (Option.some.inj hv).symm⟩
      have hz : (rowsN m y most)[i] ∈ rowsN m y most := List.getElem_mem hi
      generalize (rowsN m y most)[i] = z at *
      obtain ⟨z1, z2⟩ := g.rsz m1 zm hz
      have sT := Same.new (o := .tup [.int z.1, .int z.2]) nT
      refine ⟨T, _, rfl, SqT.of upd_same, rfl, _, _, rfl, _, _, rfl, rfl, rfl, ?_⟩
      refine ⟨_, rfl, _, rfl, _, rfl, _, rfl, _, rfl, p, z, m, y, o, k, rfl, (hc.same (s02.trans sa)).same sT, g, z1.mono (by decide), z2, fun r H4 nr s4 er => ?_⟩
      refine ⟨(by show 3 ≤ sizeLine; decide), fun t nt => ?_⟩
      have s5 := Same.new (o := .tup [.int z.1, .int z.2, .ref r]) nt
      exact k1 _ _ (s4.trans s5) ⟨z, hpi, t, r, rfl, upd_same, er.same s5⟩
    · intro us H' hl hD' hs hp
      have ed' := hs _ _ ef
      refine ⟨ed', q D us _ nDH (upd_keep ndH (s02.trans hs)) (by rw [upd_ne nDd]; exact hD') ⟨by rw [hl, List.length_map], fun j u hj => ?_⟩⟩
      obtain ⟨z, e1, e2⟩ := hp j u hj
      exact ⟨z, e1, e2.put ed' (fun _ z => by cases z) (fun _ _ _ z => by cases z)⟩
end
/-! ### a Share beside anything -/
def spShG (K : PySem.W.Frag) (C : Addr) : Sp := fun vs H Q _ => ∃ (p : Addr) (x : V) (q : Rat), vs = [.ref p, x] ∧ Sh C H p q ∧
  ((∃ (r : Addr) (q' : Rat), x = .ref r ∧ Sh C H r q' ∧ Q (.bl (decide (q = q'))) H) ∨ (∃ t, TyX K H x t ∧ PySem.W.kitOne K t (.ref C) = some false ∧ Q (.bl false) H))
theorem dec_i (a b : Int) : decide (V.int a = V.int b) = decide (a = b) := by
  by_cases h : a = b
  · rw [decide_eq_true h, decide_eq_true (congrArg V.int h)]
  · rw [decide_eq_false h, decide_eq_false (fun z => h (V.int.inj z))]
section
variable {P : Program} {w : World} {K : PySem.W.Frag} {mg : Str → Option Value} {base : Heap} {C : Addr}
theorem ok_shG (D : Dm K C "__eq__" "Share.__eq__" s_Share_eq) (T : ShX K C) (g_isinstance : mg "isinstance" = none) (h_Share : mg "Share" = some (.ref C)) : Cm P w K mg base CX0 1 C "__eq__" "Share.__eq__" s_Share_eq ["self", "other"] (spShG K C) := by
  refine cm0 (k := 0) D c_Share_eq (fun vs H Q E h => ?_) fun f cdv A outer s H vs Q E hr h => ?_
  · obtain ⟨p, x, q, rfl, _⟩ := h
    rfl
  · obtain ⟨p, x, a, rfl, ⟨dx, hp⟩, hh⟩ := h
    refine ⟨_, (pss_one (ps_ret (pe_and (pe_callB call_isi rfl g_isinstance (by decide +kernel) (pa_cons (pv 1) (pa_cons (pe_glob (v := .ref C) rfl h_Share rfl) pa_nil))) (pe_and (pe_cmpR op_eq (pe_fld (pv 0) rfl) (pe_fld (pv 1) rfl) (nomark _)) (pe_one (pe_cmpR op_eq (pe_fld (pv 0) rfl) (pe_fld (pv 1) rfl) (nomark _))))))), ?_⟩
    rcases hh with ⟨r, b, rfl, ⟨dx', hr'⟩, q⟩ | ⟨t, ty, kt, q⟩
    · refine ⟨_, rfl, _, _, _, _, _, rfl, .own C, T.ty _ _ _ _ hr', kit_self, _, rfl, iteT ?_⟩
      refine ⟨_, rfl, p, C, dx, _, _, rfl, hp, T.cl, T.nT, sf_top _ _, _, rfl, r, C, dx', _, _, rfl, hr', T.cl, T.nT, sf_top _ _, rfl, _, rfl, ?_⟩
      rw [dec_i]
      by_cases h1 : a.num = b.num
      · rw [decide_eq_true h1]
        refine iteT ?_
        refine ⟨_, rfl, p, C, dx, _, _, rfl, hp, T.cl, T.nB, sf_bottom _ _, _, rfl, r, C, dx', _, _, rfl, hr', T.cl, T.nB, sf_bottom _ _, rfl, ?_⟩
        rw [dec_i]
        have e : decide ((a.den : Int) = (b.den : Int)) = decide (a = b) := by
          by_cases h2 : a = b
          · rw [decide_eq_true h2, decide_eq_true (by rw [h2])]
          · rw [decide_eq_false h2, decide_eq_false (fun z => h2 (Rat.ext h1 (by omega)))]
        rw [e]
        exact q
      · rw [decide_eq_false h1]
        rw [decide_eq_false (fun z => h1 (by rw [z]))] at q
        exact iteF q
    · exact ⟨_, rfl, _, _, _, _, _, rfl, .own C, ty, kt, _, rfl, iteF q⟩
end
/-! ### kept forms -/
def DSh (C : Addr) : Eqv := fun x y H => ∃ (p r : Addr) (q : Rat), x = .ref p ∧ y = .ref r ∧ Sh C H p q ∧ Sh C H r q
theorem mon_sh {C : Addr} : Mon (DSh C) := fun x y H H' e d => by
  obtain ⟨p, r, q, hx, hy, h1, h2⟩ := d
  exact ⟨p, r, q, hx, hy, h1.same e, h2.same e⟩
theorem op_neSh {X : Cx} {C : Addr} {j : Nat} {qual : Str} {st : Stmt} {ps : List Str} (c : Cm X.prog X.w X.K X.mg X.base CX0 1 C "__eq__" qual st ps (spShG X.K C)) (T : ShX X.K C) (hr : Room j X.A) (hk : 2 ≤ j) (b : Bd "__eq__" qual st ps := by exact b_Share_eq) : OpR X (compareOp .NotEq) (rNeG (DTup X.K (DSh C))) := by
  refine op_neTG mon_sh (eqG_own (E := E0) c b pass0 ?_) (hr.mono hk)
  rintro x y H ⟨p, r, q, rfl, rfl, ⟨dx, e⟩, ⟨dy, e'⟩⟩
  refine .inl ⟨p, dx, _, rfl, e, ?_⟩
  by_cases h : r = p
  · subst h
    exact .inl ⟨rfl, rfl⟩
  · refine .inr ⟨fun z => h (V.ref.inj z), .ref C, T.ty _ _ _ _ e', nf_self, p, .ref r, q, rfl, ⟨dx, e⟩, .inl ⟨r, q, rfl, ⟨dy, e'⟩, ?_⟩⟩
    rw [decide_eq_true rfl]
    exact ⟨rfl, Ext.rfl'⟩
/-- at r the kept form: four Shares -/
def Kt (C : Addr) (H : Hp) (r : Addr) (m y u v : Rat) : Prop := ∃ a b c d, H r = some (.tup [.ref a, .ref b, .ref c, .ref d]) ∧ Sh C H a m ∧ Sh C H b y ∧ Sh C H c u ∧ Sh C H d v
theorem Kt.same {C : Addr} {H H1 : Hp} {r : Addr} {m y u v : Rat} (h : Kt C H r m y u v) (s : Same H H1) : Kt C H1 r m y u v := by
  obtain ⟨a, b, c, d, e, h1, h2, h3, h4⟩ := h
  exact ⟨a, b, c, d, s _ _ e, h1.same s, h2.same s, h3.same s, h4.same s⟩
def spLa (C : Addr) : Sp := fun vs H Q _ => ∃ (v : V) (s : Addr) (q m : Rat), vs = [v, .ref s] ∧ Rv C H v q ∧ Sh C H s m ∧ Rz 600 q ∧ Rz 200 m ∧ ∀ p H', H p = none → Same H H' → Sh C H' p (laF q (m.den : Int)) → Q (.ref p) H'
def spKf (C Cc : Addr) : Sp := fun vs H Q _ => ∃ (p : Addr) (m y o k : Rat), vs = [.ref p] ∧ Cl C Cc H p m y o k ∧ GoodW m y o k ∧ ∀ r H', H r = none → Same H H' → Kt C H' r m y (fmF m o) (mkF y k) → Q (.ref r) H'
theorem GoodW.ztw {m y o k : Rat} (g : GoodW m y o k) : Rz 110 (y / 12) := g.zy.div (l := 4) (Rz.int (szi 12) (by decide)) twelve_ne (by decide)
theorem rz_la {n l : Nat} {q : Rat} {b : Int} (hq : Rz n q) (hb : Sz l b) (h0 : 0 < l) (hb0 : 0 < b) {m : Nat} (hm : n + l + 1 < m) : Rz m (laF q b) := by
  have z1 : Rz (n + l + 1) (q * (b : Rat)) := Rz.mul (l := l) hq (Rz.int hb h0) (by omega)
  have e : laF q b = Rat.divInt (q * b).floor b := by
    unfold laF
    rw [Rat.divInt_eq_div]
  rw [e]
  exact Rz.divInt ((Sz.floor z1).mono (by omega)) (hb.mono (by omega)) (by omega)
def gId {α : Type} : List α → List α → List α := fun us ws => us ++ ws
theorem gId_rel {n m : Nat} {vs zs : List V} {us ws : List Value} (_ : vs.length = n) (_ : zs.length = m) (h : Vals vs us) (k : Vals zs ws) : Vals (gId vs zs) (gId us ws) := h.append k
theorem kb_kept_form_calendar : Kb "kept_form" s_kept_form 0 ["calendar"] ["calendar"] gId := ⟨fun _ _ _ _ _ _ us ws hu hw => match us, hu, ws, hw with | [], _, [_], _ => rfl, gId_rel⟩
section
variable {P : Program} {w : World} {K : PySem.W.Frag} {mg : Str → Option Value} {base : Heap} {C Cc : Addr}
theorem ok_la (D : Df K mg "least_alike" s_least_alike []) (F : ShF P w K mg base C) : Ca P w K mg base CX0 6 "least_alike" s_least_alike [] ["first", "step"] (spLa C) := by
  refine ca0 (k := 5) D c_least_alike (fun vs H Q E h => ?_) fun f cdv A outer s H vs Q E hr h => ?_
  · obtain ⟨v, s, q, m, rfl, _⟩ := h
    rfl
  · obtain ⟨v, st, x, m, rfl, hv, hs, zx, zm, q⟩ := h
    have f_over := F.over
    have f_whole := F.whole
    have f_times := F.times
    refine ⟨_, (pss_one (ps_ret (pe_ca f_over b_over hr (by decide) pass0 rfl (pa_cons (pe_ca f_whole b_whole hr (by decide) pass0 rfl (pa_cons (pe_ca f_times b_times hr (by decide) pass0 rfl (pa_cons (pv 0) (pa_cons (pe_fld (pv 1) rfl) pa_nil))) pa_nil)) (pa_cons (pe_fld (pv 1) rfl) pa_nil))))), ?_⟩
    obtain ⟨ds, es⟩ := id hs
    have zb : Sz 200 (m.den : Int) := zm.2
    have zb' : Rz 200 (((m.den : Int)) : Rat) := Rz.int zb (by decide)
    refine ⟨_, rfl, _, rfl, st, C, ds, _, _, rfl, es, F.T.cl, F.T.nB, sf_bottom _ _, v, .int (m.den : Int), x, _, rfl, hv, Rv.int, zx.mono (by decide), zb'.mono (by decide), trivial, fun p1 H1 n1 s1 h1 => ?_⟩
    have z1 : Rz 900 (x * ((m.den : Int) : Rat)) := Rz.mul zx zb' (by decide)
    refine ⟨_, _, rfl, h1.rv, z1.mono (by decide), fun H2 s2 => ?_⟩
    have s12 := s1.trans s2
    refine ⟨_, rfl, st, C, ds, _, _, rfl, s12 _ _ es, F.T.cl, F.T.nB, sf_bottom _ _, .int _, .int (m.den : Int), _, _, rfl, Rv.int, Rv.int, Rz.int ((Sz.floor z1).mono (by decide)) (by decide), zb'.mono (by decide), den_ne m, fun p3 H3 n3 s3 h3 => ?_⟩
    exact q p3 H3 (s12.free n3) (s12.trans s3) h3
theorem ok_kf (D : Df K mg "kept_form" s_kept_form []) (F : ShF P w K mg base C) (T : CaT K C Cc) (f_twelfth : Ca P w K mg base CX0 6 "twelfth" s_twelfth [] ["year"] (spTw C)) (f_least_alike : Ca P w K mg base CX0 6 "least_alike" s_least_alike [] ["first", "step"] (spLa C)) : Ca P w K mg base CX0 7 "kept_form" s_kept_form [] ["calendar"] (spKf C Cc) := by
  refine ca0 (k := 6) D c_kept_form (fun vs H Q E h => ?_) fun f cdv A outer s H vs Q E hr h => ?_
  · obtain ⟨p, m, y, o, k, rfl, _⟩ := h
    rfl
  · obtain ⟨p, m, y, o, k, rfl, hc, g, q⟩ := h
    have f_over := F.over
    have f_whole := F.whole
    have f_times := F.times
    have f_minus := F.minus
    refine ⟨_, (pss_cons (ps_set (i := 1) c_kept_form.nd rfl (.inl rfl) (pe_fld (pv 0) rfl))
      (pss_cons (ps_set (i := 2) c_kept_form.nd rfl (.inl rfl) (pe_ca f_least_alike b_least_alike hr (by decide) pass0 rfl (pa_cons (pe_fld (pv 0) rfl) (pa_cons (pv 1) pa_nil))))
      (pss_cons (ps_set (i := 3) c_kept_form.nd rfl (.inl rfl) (pe_ca f_minus b_minus hr (by decide) pass0 rfl (pa_cons (pv 2) (pa_cons (pe_ca f_times b_times hr (by decide) pass0 rfl (pa_cons (pe_ca f_whole b_whole hr (by decide) pass0 rfl (pa_cons (pe_ca f_over b_over hr (by decide) pass0 rfl (pa_cons (pv 2) (pa_cons (pv 1) pa_nil))) pa_nil)) (pa_cons (pv 1) pa_nil))) pa_nil))))
      (pss_cons (ps_set (i := 4) c_kept_form.nd rfl (.inl rfl) (pe_ca f_least_alike b_least_alike hr (by decide) pass0 rfl (pa_cons (pe_fld (pv 0) rfl) (pa_cons (pe_ca f_twelfth b_twelfth hr (by decide) pass0 rfl (pa_cons (pe_fld (pv 0) rfl) pa_nil)) pa_nil))))
      (pss_one (ps_ret (pe_tup (pa_cons (pv 1) (pa_cons (pe_fld (pv 0) rfl) (pa_cons (pv 3) (pa_cons (pv 4) pa_nil))))))))))), ?_⟩
    obtain ⟨dx, a, b, c, d, e, h1, h2, h3, h4⟩ := id hc
    have hm := g.fit.pos
    refine ⟨_, rfl, p, Cc, dx, _, _, rfl, e, T.cl, T.n1, cf_month _ _ _ _, ?_⟩
    refine ⟨_, rfl, p, Cc, dx, _, _, rfl, e, T.cl, T.n3, cf_moon _ _ _ _, _, rfl, .ref c, a, o, m, rfl, h3.rv, h1, g.zo.mono (by decide), g.zm.mono (by decide), fun p1 H1 n1 s1 e1 => ?_⟩
    have z1 : Rz 700 (laF o (m.den : Int)) := rz_la g.zo (g.zm.2) (by decide) (den_pos m) (by decide)
    have z2 : Rz 900 (laF o (m.den : Int) / m) := Rz.div z1 g.zm (by grind) (by decide)
    refine ⟨_, rfl, _, rfl, _, rfl, .ref p1, .ref a, _, m, rfl, e1.rv, (h1.same s1).rv, z1.mono (by decide), g.zm.mono (by decide), (by grind), fun p2 H2 n2 s2 e2 => ?_⟩
    refine ⟨_, _, rfl, e2.rv, z2.mono (by decide), fun H3 s3 => ?_⟩
    have zi : Sz 900 (laF o (m.den : Int) / m).floor := Sz.floor z2
    have z3 : Rz 1100 (((laF o (m.den : Int) / m).floor : Rat) * m) := Rz.mul (Rz.int zi (by decide)) g.zm (by decide)
    have s13 := s1.trans (s2.trans s3)
    refine ⟨_, rfl, .int _, .ref a, _, m, rfl, Rv.int, (h1.same s13).rv, Rz.int (zi.mono (by decide)) (by decide), g.zm.mono (by decide), trivial, fun p4 H4 n4 s4 e4 => ?_⟩
    refine ⟨.ref p1, .ref p4, _, _, rfl, (e1.same (s2.trans (s3.trans s4))).rv, e4.rv, z1.mono (by decide), z3.mono (by decide), trivial, fun p5 H5 n5 s5 e5 => ?_⟩
    have e5 : Sh C H5 p5 (laF o (m.den : Int) - ((laF o (m.den : Int) / m).floor : Rat) * m) := e5
    rw [fm_prog hm] at e5
    have s15 := s13.trans (s4.trans s5)
    refine ⟨_, rfl, p, Cc, dx, _, _, rfl, s15 _ _ e, T.cl, T.n4, cf_mark _ _ _ _, _, rfl, p, Cc, dx, _, _, rfl, s15 _ _ e, T.cl, T.n2, cf_year _ _ _ _, .ref b, y, rfl, (h2.same s15).rv, g.zy.mono (by decide), fun p6 H6 n6 s6 e6 => ?_⟩
    have s16 := s15.trans s6
    refine ⟨.ref d, p6, k, _, rfl, (h4.same s16).rv, e6, g.zk.mono (by decide), g.ztw.mono (by decide), fun p7 H7 n7 s7 e7 => ?_⟩
    have s17 := s16.trans s7
    refine ⟨_, rfl, _, rfl, p, Cc, dx, _, _, rfl, s17 _ _ e, T.cl, T.n2, cf_year _ _ _ _, _, rfl, _, rfl, (by show 4 ≤ sizeLine; decide), fun r nr => ?_⟩
    have s8 := Same.new (o := .tup [.ref a, .ref b, .ref p5, .ref p7]) nr
    refine q r _ (s17.free nr) (s17.trans s8) ⟨a, b, p5, p7, upd_same, h1.same (s17.trans s8), h2.same (s17.trans s8), e5.same (s6.trans (s7.trans s8)), e7.same s8⟩
end
/-! ### years with an odd month -/
def oyL (m y o k : Rat) (a : Int) (n : Nat) : List Int := ((List.range n).filter fun j => decide (12 < ((yN m y o k (a + (j : Nat)) : Nat) : Int))).map fun j => a + (j : Nat)
def spOy (C Cc : Addr) : Sp := fun vs H Q _ => ∃ (p : Addr) (a : Int) (n : Nat) (m y o k : Rat), vs = [.ref p, .int a, .int (n : Nat)] ∧ Cl C Cc H p m y o k ∧ Good m y o k ∧ Sz 500 a ∧ n < 500 ∧ ∀ r H', H r = none → Same H H' → H' r = some (.lst ((oyL m y o k a n).map V.int)) → Q (.ref r) H'
section
variable {P : Program} {w : World} {K : PySem.W.Frag} {mg : Str → Option Value} {base : Heap} {C Cc : Addr}
abbrev TE_odd_years1 (_C _Cc : Addr) : TE := tVar 3
abbrev TT_odd_years1 (C Cc : Addr) : TT := tTest (tOp (rI0 fun i j => .bl (decide (j < i))) (tCall (spMin C Cc) [] E0 (tCons (tVar 0) (tCons (tVar 3) tNil))) (tC (.int 12)))
theorem ok_oy (D : Df K mg "odd_years" s_odd_years []) (g_range : mg "range" = none) {tk : Tok} (h_MARKS : mg "MARKS" = some (.int 12 tk)) (f_months_in : Ca P w K mg base CX0 10 "months_in" s_months_in [] ["calendar", "year"] (spMin C Cc)) : Ca P w K mg base CX0 11 "odd_years" s_odd_years [] ["calendar", "first", "many"] (spOy C Cc) := by
  refine ca0 (k := 10) D c_odd_years (fun vs H Q E h => ?_) fun f cdv A outer s H vs Q E hr h => ?_
  · obtain ⟨p, a, n, m, y, o, k, rfl, _⟩ := h
    rfl
  · obtain ⟨p, a, n, m, y, o, k, rfl, hc, g, za, hn, q⟩ := h
    refine ⟨_, (pss_one (ps_ret (pe_lc (own := [("year", 3)]) (g := gName 3) (tt := TT_odd_years1 C Cc) (te := TE_odd_years1 C Cc) rfl c_odd_years.nd (pi_rangeA rfl g_range (pa_cons (pv 1) (pa_cons (pe_op op_add (pv 1) (pv 2)) pa_nil))) (blkOk_by (N := ["calendar", "first", "many", "year"]) (sc := defScope s_odd_years) (by decide +kernel)) (fun _ _ _ _ _ => (pg_name (i := 3) c_odd_years.nd rfl (.inl rfl))) (fun _ _ _ _ _ => by exact pts_one (pt_cmpR op_gt (pe_ca f_months_in b_months_in hr (by decide) pass0 rfl (pa_cons (pv 0) (pa_cons (pv 3) pa_nil))) (pe_glob (v := .int 12) rfl h_MARKS ⟨_, rfl⟩) (nomark _))) (fun _ _ _ _ _ => by exact (pv 3))))), ?_⟩
    refine ⟨_, rfl, _, rfl, _, rfl, _, _, rfl, rfl, _, _, rfl, fun D0 hD => ?_⟩
    have en : (a + (n : Int) - a).toNat = n := by omega
    rw [en]
    have zj : ∀ j : Nat, j < n → Sz 560 (a + (j : Nat)) := fun j hj => Sz.add (n := 559) (za.mono (by decide)) (znat j (by omega) (by decide)) (by decide)
    refine lc_filt (walk_range (lo := a) (n := n)) yFn_same hD (by show n < 2 ^ 24; omega) (fun j => a + (j : Nat)) (fun j => decide (12 < ((yN m y o k (a + (j : Nat)) : Nat) : Int))) (fun _ _ => trivial) ?_ ?_
    · rintro j x H2 H3 R N hj s2 ⟨rfl, rfl⟩ kT kF
      refine ⟨rfl, ?_⟩
      refine ⟨_, rfl, _, rfl, p, _, m, y, o, k, rfl, hc.same s2, g, zj j hj, fun H4 s4 => ⟨_, _, rfl, rfl, _, rfl, ?_⟩⟩
      show if decide (12 < ((yN m y o k (a + (j : Nat)) : Nat) : Int)) = true then _ else _
      by_cases hB : decide (12 < ((yN m y o k (a + (j : Nat)) : Nat) : Int)) = true
      · rw [if_pos hB]
        exact ⟨_, rfl, kT hB H4 s4⟩
      · rw [if_neg hB]
        exact kF (by simpa using hB) H4 s4
    · intro H1 e1 s1
      exact q D0 H1 hD s1 e1
end
/-! ### years side by side -/
theorem layYe : ∀ ks : List (Int × Bool), PyData.canLayAll0 (ks.map fun q => PyData.tuple [.int q.1, .bool q.2]) = true
  | [] => rfl
  | q :: ks => by
    rw [List.map_cons]
    simp only [PyData.canLayAll0, PyData.canLay0, layYe ks, Bool.and_true]
theorem depYe : ∀ ks : List (Int × Bool), PyData.depthAll (ks.map fun q => PyData.tuple [.int q.1, .bool q.2]) ≤ 3
  | [] => by simp [PyData.depthAll]
  | q :: ks => by
    have := depYe ks
    rw [List.map_cons]
    simp only [PyData.depthAll, PyData.depth, Nat.max_def]
    repeat' split
    all_goals omega
theorem shYe (ks : List (Int × Bool)) : SeqAt.shaped (.list (ks.map fun q => PyData.tuple [.int q.1, .bool q.2])) = true := by
  have h := depYe ks
  show (PyData.canLay0 (.list (ks.map fun q => PyData.tuple [.int q.1, .bool q.2])) && decide (PyData.depth (.list (ks.map fun q => PyData.tuple [.int q.1, .bool q.2])) ≤ 64)) = true
  rw [Bool.and_eq_true]
  refine ⟨by simp only [PyData.canLay0]; exact layYe ks, decide_eq_true ?_⟩
  simp only [PyData.depth]
  omega
theorem eqvYe (ks ks' : List (Int × Bool)) : PyData.eqv (.list (ks.map fun q => PyData.tuple [.int q.1, .bool q.2])) (.list (ks'.map fun q => PyData.tuple [.int q.1, .bool q.2])) = decide (ks = ks') := PySem.W.Datum.eqv (α := List (Int × Bool)) ks ks'
theorem eqvIl (ns ns' : List Int) : PyData.eqv (.list (ns.map PyData.int)) (.list (ns'.map PyData.int)) = decide (ns = ns') := PySem.W.Datum.eqv (α := List Int) ns ns'
theorem nmB_dps {K : PySem.W.Frag} {H : Hp} : ∀ {us : List V} {ks : List (Int × Bool)}, NmB H us ks → DpAll K H us (ks.map fun q => PyData.tuple [.int q.1, .bool q.2])
  | [], [], _ => .nil
  | [], q :: ks, h => by have := h.1; simp at this
  | u :: us, [], h => by have := h.1; simp at this
  | u :: us, q :: ks, h => by
    obtain ⟨r, q', rfl, e1, e2⟩ := h.2 0 u rfl
    obtain rfl : q = q' := Option.some.inj e1
    exact .cons (.tup (SqT.of e2) (.cons (.int _) (.cons (.bl _) .nil))) (nmB_dps ⟨by have := h.1; simpa using this, fun j v hj => h.2 (j + 1) v hj⟩)
def spYrE (Cy : Addr) : Sp := fun vs H Q _ => ∃ (p p2 : Addr) (a f : Int) (D1 D2 : Addr) (v : V) (us : List V) (ks : List (Int × Bool)) (ls : List Int) (a2 f2 : Int) (E1 E2 : Addr) (v2 : V) (us2 : List V) (ks2 : List (Int × Bool)) (ls2 : List Int), vs = [.ref p, .ref p2] ∧
  Yr Cy H p a f D1 D2 v ∧ H D1 = some (.lst us) ∧ NmB H us ks ∧ H D2 = some (.lst (ls.map V.int)) ∧ Yr Cy H p2 a2 f2 E1 E2 v2 ∧ H E1 = some (.lst us2) ∧ NmB H us2 ks2 ∧ H E2 = some (.lst (ls2.map V.int)) ∧ Q (.bl (decide (ks = ks2) && decide (ls = ls2))) H
section
variable {P : Program} {w : World} {K : PySem.W.Frag} {mg : Str → Option Value} {base : Heap} {C Cc Cy : Addr}
theorem ok_yrE (D : Dm K Cy "__eq__" "Year.__eq__" s_Year_eq) (T : YrT K C Cc Cy) (ty : ∀ (H : Hp) (a dx : Addr) (fs : List (Str × V)), H a = some (.ins Cy dx fs) → TyX K H (.ref a) (.ref Cy)) (g_isinstance : mg "isinstance" = none) (h_Year : mg "Year" = some (.ref Cy)) : Cm P w K mg base CX0 1 Cy "__eq__" "Year.__eq__" s_Year_eq ["self", "other"] (spYrE Cy) := by
  refine cm0 (k := 0) D c_Year_eq (fun vs H Q E h => ?_) fun f cdv A outer s H vs Q E hr h => ?_
  · obtain ⟨p, p2, a, f, D1, D2, v, us, ks, ls, a2, f2, E1, E2, v2, us2, ks2, ls2, rfl, _⟩ := h
    rfl
  · obtain ⟨p, p2, a, f, D1, D2, v, us, ks, ls, a2, f2, E1, E2, v2, us2, ks2, ls2, rfl, ⟨dx, e⟩, e1, nm, e2, ⟨dx2, e'⟩, e1', nm2, e2', q⟩ := h
    refine ⟨_, (pss_one (ps_ret (pe_and (pe_callB call_isi rfl g_isinstance (by decide +kernel) (pa_cons (pv 1) (pa_cons (pe_glob (v := .ref Cy) rfl h_Year rfl) pa_nil))) (pe_and (pe_cmpR (op_eqD hr.units) (pe_fld (pv 0) rfl) (pe_fld (pv 1) rfl) (nomark _)) (pe_one (pe_cmpR (op_eqD hr.units) (pe_fld (pv 0) rfl) (pe_fld (pv 1) rfl) (nomark _))))))), ?_⟩
    refine ⟨_, rfl, _, _, _, _, _, rfl, .own Cy, ty _ _ _ _ e', kit_self, _, rfl, iteT ?_⟩
    refine ⟨_, rfl, p, Cy, dx, _, _, rfl, e, T.cl, T.n3, yf_names _ _ _ _ _, _, rfl, p2, Cy, dx2, _, _, rfl, e', T.cl, T.n3, yf_names _ _ _ _ _, ?_⟩
    refine ⟨_, _, .lst (SqL.of e1) (nmB_dps nm), .lst (SqL.of e1') (nmB_dps nm2), shYe _, shYe _, _, rfl, ?_⟩
    rw [eqvYe]
    by_cases hk : ks = ks2
    · rw [decide_eq_true hk] at q ⊢
      refine iteT ?_
      refine ⟨_, rfl, p, Cy, dx, _, _, rfl, e, T.cl, T.n4, yf_lengths _ _ _ _ _, _, rfl, p2, Cy, dx2, _, _, rfl, e', T.cl, T.n4, yf_lengths _ _ _ _ _, ?_⟩
      refine ⟨_, _, dp_ints e2, dp_ints e2', sh_ints _, sh_ints _, ?_⟩
      rw [eqvIl]
      exact q
    · rw [decide_eq_false hk] at q ⊢
      exact iteF q
end
/-! ### Feast -/
def ffs (a n d w : V) : List (Str × V) := putF "when" w (putF "day" d (putF "number" n (putF "name" a [])))
theorem fnn_ : ¬ (("name" : Str) = "number") := by decide +kernel
theorem fnd_ : ¬ (("name" : Str) = "day") := by decide +kernel
theorem fnw_ : ¬ (("name" : Str) = "when") := by decide +kernel
theorem fmd_ : ¬ (("number" : Str) = "day") := by decide +kernel
theorem fmw_ : ¬ (("number" : Str) = "when") := by decide +kernel
theorem fdw_ : ¬ (("day" : Str) = "when") := by decide +kernel
theorem ff_name (a n d w : V) : (ffs a n d w).lookup ("name" : Str) = some a := by
  unfold ffs
  rw [lookup_putF, if_neg fnw_, lookup_putF, if_neg fnd_, lookup_putF, if_neg fnn_, lookup_putF, if_pos rfl]
theorem ff_number (a n d w : V) : (ffs a n d w).lookup ("number" : Str) = some n := by
  unfold ffs
  rw [lookup_putF, if_neg fmw_, lookup_putF, if_neg fmd_, lookup_putF, if_pos rfl]
theorem ff_day (a n d w : V) : (ffs a n d w).lookup ("day" : Str) = some d := by
  unfold ffs
  rw [lookup_putF, if_neg fdw_, lookup_putF, if_pos rfl]
theorem ff_when (a n d w : V) : (ffs a n d w).lookup ("when" : Str) = some w := by
  unfold ffs
  rw [lookup_putF, if_pos rfl]
structure FeT (K : PySem.W.Frag) (Cf : Addr) : Prop where
  cl : Cls K Cf
  n1 : NoAttr K Cf "name"
  n2 : NoAttr K Cf "number"
  n3 : NoAttr K Cf "day"
  n4 : NoAttr K Cf "when"
def Fe (Cf : Addr) (H : Hp) (p : Addr) (a : Str) (n d : Int) (w : Str) : Prop := ∃ dx, H p = some (.ins Cf dx (ffs (.str a) (.int n) (.int d) (.str w)))
theorem Fe.same {Cf p : Addr} {H H1 : Hp} {a w : Str} {n d : Int} (h : Fe Cf H p a n d w) (s : Same H H1) : Fe Cf H1 p a n d w := by
  obtain ⟨dx, e⟩ := h
  exact ⟨dx, s _ _ e⟩
def spFeI (Cf : Addr) : Sp := fun vs H Q _ => ∃ (p dx : Addr) (a n d w : V), vs = [.ref p, a, n, d, w] ∧ H p = some (.ins Cf dx []) ∧ Q .non (L2.upd H p (.ins Cf dx (ffs a n d w)))
theorem made_fe {Cf : Addr} {H : Hp} {R : Addr → Hp → Prop} {E : XK} {a n d w : V} (h : ∀ p dx H', H p = none → Same H H' → H' p = some (.ins Cf dx (ffs a n d w)) → R p H') :
    ∀ x dx, H x = none → H dx = none → dx ≠ x → spFeI Cf [.ref x, a, n, d, w] (L2.upd (L2.upd H dx (.own x)) x (.ins Cf dx [])) (fun v H2 => v = .non ∧ R x H2) E := by
  intro x dx hx hd ne
  refine ⟨x, dx, a, n, d, w, rfl, upd_same, rfl, ?_⟩
  rw [upd_upd]
  refine h x dx _ hx (Same.upd (Same.new hd) ?_) upd_same
  rw [upd_ne ne.symm]
  exact hx
def gFe {α : Type} : List α → List α → List α → List α := fun us _ ws => us ++ (match ws with | [a, b, c, d] => [d, c, b, a] | _ => [])
theorem gFe_rel {vs ds zs : List V} {us its ws : List Value} (h : Vals vs us) (_ : Vals ds its) (k : Vals zs ws) : Vals (gFe vs ds zs) (gFe us its ws) := by
  refine h.append ?_
  cases k with
  | nil => exact .nil
  | cons a k => cases k with
    | nil => exact .nil
    | cons b k => cases k with
      | nil => exact .nil
      | cons c k => cases k with
        | nil => exact .nil
        | cons d k => cases k with
          | nil => exact .cons d (.cons c (.cons b (.cons a .nil)))
          | cons e k => exact .nil
section
variable {P : Program} {w : World} {K : PySem.W.Frag} {mg : Str → Option Value} {base : Heap} {Cf : Addr}
theorem ok_feI (D : Di K mg "Feast" Cf "Feast.__init__" s_Feast_init [.str "plain"]) (T : FeT K Cf) : Ci P w K mg base CX0 1 "Feast" Cf "Feast.__init__" s_Feast_init [.str "plain"] ["self", "name", "number", "day", "when"] (spFeI Cf) := by
  refine ci0 (k := 0) D c_Feast_init (fun vs H Q E h => ?_) fun f cdv A outer s H vs Q E hr h => ?_
  · obtain ⟨p, dx, a, n, d, w', rfl, _⟩ := h
    rfl
  · obtain ⟨p, dx, a, n, d, w', rfl, hp, q⟩ := h
    refine ⟨_, (pss_cons (ps_fld (pv 0) (pv 1) rfl)
      (pss_cons (ps_fld (pv 0) (pv 2) rfl)
      (pss_cons (ps_fld (pv 0) (pv 3) rfl)
      (pss_one (ps_fld (pv 0) (pv 4) rfl))))), ?_⟩
    refine ⟨_, rfl, _, rfl, p, Cf, dx, _, rfl, hp, T.cl, T.n1, (by show 0 < 1000; decide), ?_⟩
    refine ⟨_, rfl, _, rfl, p, Cf, dx, _, rfl, upd_same, T.cl, T.n2, (by show 1 < 1000; decide), ?_⟩
    refine ⟨_, rfl, _, rfl, p, Cf, dx, _, rfl, upd_same, T.cl, T.n3, (by show 2 < 1000; decide), ?_⟩
    refine ⟨_, rfl, _, rfl, p, Cf, dx, _, rfl, upd_same, T.cl, T.n4, (by show 3 < 1000; decide), ?_⟩
    rw [upd_upd, upd_upd, upd_upd]
    exact q
theorem bd_Feast4 : Bd1 "__init__" "Feast.__init__" s_Feast_init ["self", "name", "number", "day", "when"] 5 1 1 := fun _ _ _ _ _ _ _ us its hu hi => match us, hu, its, hi with | [_, _, _, _, _], _, [_], _ => ⟨_, rfl, rfl⟩
theorem bd_Feast3 : Bd1 "__init__" "Feast.__init__" s_Feast_init ["self", "name", "number", "day", "when"] 4 0 1 := fun _ _ _ _ _ _ _ us its hu hi => match us, hu, its, hi with | [_, _, _, _], _, [_], _ => ⟨_, rfl, rfl⟩
theorem kb_Feast_0_when_day_number_name : Kd "Feast.__init__" s_Feast_init 1 1 ["when", "day", "number", "name"] ["self", "name", "number", "day", "when"] gFe :=
  ⟨fun _ _ _ _ _ _ _ us its ws hu hi hw => match us, hu, its, hi, ws, hw with | [_], _, [_], _, [_, _, _, _], _ => ⟨_, rfl, rfl⟩, gFe_rel⟩
end
/-! ### feasts in their years -/
def isW (w : Str) (x : Str) : Bool := decide (V.str w = V.str x)
def fmL (m y o k : Rat) (a b : Int) (w : Str) : List Int := if isW w "both" = true then (if hasM m y o k (pmF m y o k a b + 1) then [pmF m y o k a b] else [pmF m y o k a b, pmF m y o k a b + 1]) else [miyF m y o k a b (isW w "odd")]
def fdd (m o : Rat) (d i : Int) : Int := stF m o i + heldF m o i d - 1
theorem fm_len (m y o k : Rat) (a b : Int) (w : Str) : (fmL m y o k a b w).length ≤ 2 := by
  unfold fmL
  split
  · split <;> simp
  · simp
theorem fm_sz {m y o k : Rat} (g : Good m y o k) {a b : Int} {w : Str} (ha : Sz 900 a) (hb : Sz 900 b) : ∀ i ∈ fmL m y o k a b w, Sz 1300 i := fun i hi => by
  have z := (g.zpm ha hb).2
  unfold fmL at hi
  split at hi
  · split at hi
    · rw [List.mem_singleton.mp hi]
      exact z.mono (by decide)
    · rcases List.mem_cons.mp hi with rfl | hi
      · exact z.mono (by decide)
      · rw [List.mem_singleton.mp hi]
        exact zadd z 1
  · rw [List.mem_singleton.mp hi]
    exact (g.zmiy (by decide) ha hb).mono (by decide)
theorem range_getD (xs : List Int) (f : Int → Int) : (List.range xs.length).map (fun j => f (xs.getD j 0)) = xs.map f := by
  refine List.ext_getElem? fun j => ?_
  rw [List.getElem?_map, List.getElem?_map]
  by_cases hj : j < xs.length
  · rw [List.getElem?_range hj, List.getElem?_eq_getElem hj]
    show some (f (xs.getD j 0)) = some (f xs[j])
    rw [List.getD_eq_getElem?_getD, List.getElem?_eq_getElem hj]
    rfl
  · rw [List.getElem?_eq_none_iff.mpr (by simp; omega), List.getElem?_eq_none_iff.mpr (by omega)]
    rfl
theorem get_int {xs : List Int} {j : Nat} {x : V} (h : (xs.map V.int)[j]? = some x) (hj : j < xs.length) : x = .int (xs.getD j 0) ∧ xs.getD j 0 ∈ xs := by
  rw [List.getElem?_map, List.getElem?_eq_getElem hj] at h
  rw [List.getD_eq_getElem?_getD, List.getElem?_eq_getElem hj]
  exact ⟨(Option.some.inj h).symm, List.getElem_mem hj⟩
def spFm (C Cc Cf : Addr) : Sp := fun vs H Q _ => ∃ (p f : Addr) (nm w : Str) (a b d : Int) (m y o k : Rat), vs = [.ref p, .ref f, .int a] ∧ Cl C Cc H p m y o k ∧ Good m y o k ∧ Fe Cf H f nm b d w ∧ Sz 900 a ∧ Sz 900 b ∧ ∀ r H', H r = none → Same H H' → H' r = some (.lst ((fmL m y o k a b w).map V.int)) → Q (.ref r) H'
def spFds (C Cc Cf : Addr) : Sp := fun vs H Q _ => ∃ (p f : Addr) (nm w : Str) (a b d : Int) (m y o k : Rat), vs = [.ref p, .ref f, .int a] ∧ Cl C Cc H p m y o k ∧ Good m y o k ∧ Fe Cf H f nm b d w ∧ Sz 900 a ∧ Sz 900 b ∧ ∀ r H', H r = none → Same H H' → H' r = some (.lst (((fmL m y o k a b w).map (fdd m o d)).map V.int)) → Q (.ref r) H'
section
variable {P : Program} {w : World} {K : PySem.W.Frag} {mg : Str → Option Value} {base : Heap} {C Cc Cf : Addr}
abbrev TE_feast_months1 : TE := tVar 4
abbrev TT_feast_months1 : TT := tB (tNotN (tVar 4))
theorem ok_fm (D : Df K mg "feast_months" s_feast_months []) (T : FeT K Cf) (f_plain_month : Ca P w K mg base CX0 9 "plain_month" s_plain_month [] ["calendar", "year", "number"] (spPlain C Cc)) (f_odd_month : Ca P w K mg base CX0 10 "odd_month" s_odd_month [] ["calendar", "year", "number"] (spOddM C Cc)) (f_month_in_year : Ca P w K mg base CX0 11 "month_in_year" s_month_in_year [] ["calendar", "year", "number", "odd"] (spMiy C Cc)) : Ca P w K mg base CX0 12 "feast_months" s_feast_months [] ["calendar", "feast", "year"] (spFm C Cc Cf) := by
  refine ca0 (k := 11) D c_feast_months (fun vs H Q E h => ?_) fun f cdv A outer s H vs Q E hr h => ?_
  · obtain ⟨p, f, nm, w, a, b, d, m, y, o, k, rfl, _⟩ := h
    rfl
  · obtain ⟨p, f, nm, w, a, b, d, m, y, o, k, rfl, hc, g, ⟨dx, ef⟩, za, zb, q⟩ := h
    refine ⟨_, (pss_cons (ps_if (pt_cmpR op_eq (pe_fld (pv 1) rfl) pe_str (nomark _)) (pss_cons (ps_set (i := 3) c_feast_months.nd rfl (.inl rfl) (pe_lst (pa_cons (pe_ca f_plain_month b_plain_month hr (by decide) pass0 rfl (pa_cons (pv 0) (pa_cons (pv 2) (pa_cons (pe_fld (pv 1) rfl) pa_nil)))) (pa_cons (pe_ca f_odd_month b_odd_month hr (by decide) pass0 rfl (pa_cons (pv 0) (pa_cons (pv 2) (pa_cons (pe_fld (pv 1) rfl) pa_nil)))) pa_nil))))
      (pss_one (ps_ret (pe_lc (own := [("k", 4)]) (g := gName 4) (tt := TT_feast_months1 ) (te := TE_feast_months1 ) rfl c_feast_months.nd (pi_list (pv 3)) (blkOk_by (N := ["calendar", "feast", "year", "months", "k"]) (sc := defScope s_feast_months) (by decide +kernel)) (fun _ _ _ _ _ => (pg_name (i := 4) c_feast_months.nd rfl (.inl rfl))) (fun _ _ _ _ _ => by exact pts_one (pt_cmp (pc_notN (pv 4)))) (fun _ _ _ _ _ => by exact (pv 4)))))) pss_nil)
      (pss_one (ps_ret (pe_lst (pa_cons (pe_ca f_month_in_year b_month_in_year hr (by decide) pass0 rfl (pa_cons (pv 0) (pa_cons (pv 2) (pa_cons (pe_fld (pv 1) rfl) (pa_cons (pe_cmpR op_eq (pe_fld (pv 1) rfl) pe_str (nomark _)) pa_nil))))) pa_nil))))), ?_⟩
    refine ⟨_, rfl, f, Cf, dx, _, _, rfl, ef, T.cl, T.n4, ff_when _ _ _ _, rfl, _, rfl, ?_⟩
    show if isW w "both" = true then _ else _
    by_cases hB : isW w "both" = true
    · rw [if_pos hB]
      refine ⟨_, rfl, _, rfl, _, rfl, f, Cf, dx, _, _, rfl, ef, T.cl, T.n2, ff_number _ _ _ _, p, a, b, m, y, o, k, rfl, hc, g, za, zb, fun H1 s1 => ?_⟩
      refine ⟨_, rfl, _, rfl, _, rfl, f, Cf, dx, _, _, rfl, s1 _ _ ef, T.cl, T.n2, ff_number _ _ _ _, p, a, b, m, y, o, k, rfl, hc.same s1, g, za, zb, fun H2 s2 => ?_⟩
      refine ⟨(by show 2 ≤ sizeLine; decide), fun l nl => ?_⟩
      have s3 := Same.new (o := .lst [.int (pmF m y o k a b), if hasM m y o k (pmF m y o k a b + 1) then .non else .int (pmF m y o k a b + 1)]) nl
      refine ⟨_, rfl, l, rfl, ⟨_, SqL.of upd_same⟩, fun D0 hD => ?_⟩
      refine lc_filt (walk_list (K := K) (a := l) (xs := [.int (pmF m y o k a b), if hasM m y o k (pmF m y o k a b + 1) then .non else .int (pmF m y o k a b + 1)])) yAt_same hD (by show 2 < 2 ^ 24; decide) (fun j => pmF m y o k a b + (j : Nat)) (fun j => decide (j = 0) || !decide (hasM m y o k (pmF m y o k a b + 1))) (fun H' s' => SqL.of (s' _ _ upd_same)) ?_ ?_
      · rintro j x H4 H5 R N hj s4 ⟨rfl, hx⟩ kT kF
        match j, hx with
        | 0, hx =>
          cases hx
          refine ⟨rfl, _, rfl, _, rfl, iteT ⟨_, rfl, ?_⟩⟩
          have z := kT rfl H5 (Same.refl _)
          rw [show pmF m y o k a b + ((0 : Nat) : Int) = pmF m y o k a b by omega] at z
          exact z
        | 1, hx =>
          have hx : some (if hasM m y o k (pmF m y o k a b + 1) then V.non else V.int (pmF m y o k a b + 1)) = some x := hx
          by_cases hm : hasM m y o k (pmF m y o k a b + 1)
          · rw [if_pos hm] at hx
            cases hx
            exact ⟨rfl, _, rfl, _, rfl, iteF (kF (by simp [hm]) H5 (Same.refl _))⟩
          · rw [if_neg hm] at hx
            cases hx
            exact ⟨rfl, _, rfl, _, rfl, iteT ⟨_, rfl, kT (by simp [hm]) H5 (Same.refl _)⟩⟩
      · intro H4 e4 s4
        refine q D0 H4 ?_ (s1.trans (s2.trans (s3.trans s4))) ?_
        · exact (s1.trans (s2.trans s3)).free hD
        · rw [e4]
          unfold fmL
          rw [if_pos hB]
          by_cases hm : hasM m y o k (pmF m y o k a b + 1)
          · simp [hm, List.range_succ]
          · simp [hm, List.range_succ]
    · rw [if_neg hB]
      refine ⟨_, rfl, _, rfl, _, rfl, f, Cf, dx, _, _, rfl, ef, T.cl, T.n2, ff_number _ _ _ _, _, rfl, f, Cf, dx, _, _, rfl, ef, T.cl, T.n4, ff_when _ _ _ _, rfl, p, a, b, isW w "odd", m, y, o, k, rfl, hc, g, za, zb, fun H1 s1 => ?_⟩
      refine ⟨(by show 1 ≤ sizeLine; decide), fun l nl => ?_⟩
      refine q l _ (s1.free nl) (s1.trans (Same.new nl)) ?_
      rw [upd_same]
      unfold fmL
      rw [if_neg hB]
      rfl
abbrev TE_feast_days1 (K : PySem.W.Frag) (C Cc : Addr) : TE := tCall (spDayIn C Cc) [] E0 (tCons (tVar 0) (tCons (tVar 4) (tCons (tCall (spHeld C Cc) [] E0 (tCons (tVar 0) (tCons (tVar 4) (tCons (tFld K (tVar 1) "day") tNil)))) tNil)))
theorem ok_fds (D : Df K mg "feast_days" s_feast_days []) (T : FeT K Cf) (f_day_in : Ca P w K mg base CX0 8 "day_in" s_day_in [] ["calendar", "k", "count"] (spDayIn C Cc)) (f_held_in : Ca P w K mg base CX0 9 "held_in" s_held_in [] ["calendar", "k", "count"] (spHeld C Cc)) (f_feast_months : Ca P w K mg base CX0 12 "feast_months" s_feast_months [] ["calendar", "feast", "year"] (spFm C Cc Cf)) : Ca P w K mg base CX0 13 "feast_days" s_feast_days [] ["calendar", "feast", "year"] (spFds C Cc Cf) := by
  refine ca0 (k := 12) D c_feast_days (fun vs H Q E h => ?_) fun f cdv A outer s H vs Q E hr h => ?_
  · obtain ⟨p, f, nm, w, a, b, d, m, y, o, k, rfl, _⟩ := h
    rfl
  · obtain ⟨p, f, nm, w, a, b, d, m, y, o, k, rfl, hc, g, hf, za, zb, q⟩ := h
    obtain ⟨dx, ef⟩ := id hf
    refine ⟨_, (pss_cons (ps_set (i := 3) c_feast_days.nd rfl (.inl rfl) (pe_ca f_feast_months b_feast_months hr (by decide) pass0 rfl (pa_cons (pv 0) (pa_cons (pv 1) (pa_cons (pv 2) pa_nil)))))
      (pss_one (ps_ret (pe_lc (own := [("k", 4)]) (g := gName 4) (tt := tYes) (te := TE_feast_days1 K C Cc) rfl c_feast_days.nd (pi_list (pv 3)) (blkOk_by (N := ["calendar", "feast", "year", "months", "k"]) (sc := defScope s_feast_days) (by decide +kernel)) (fun _ _ _ _ _ => (pg_name (i := 4) c_feast_days.nd rfl (.inl rfl))) (fun _ _ _ _ _ => by exact pts_nil) (fun _ _ _ _ _ => by exact (pe_ca f_day_in b_day_in hr (by decide) pass0 rfl (pa_cons (pv 0) (pa_cons (pv 4) (pa_cons (pe_ca f_held_in b_held_in hr (by decide) pass0 rfl (pa_cons (pv 0) (pa_cons (pv 4) (pa_cons (pe_fld (pv 1) rfl) pa_nil)))) pa_nil))))))))), ?_⟩
    refine ⟨_, rfl, _, rfl, _, rfl, p, f, nm, w, a, b, d, m, y, o, k, rfl, hc, g, hf, za, zb, fun l H1 nl s1 el => ?_⟩
    refine ⟨_, rfl, l, rfl, ⟨_, SqL.of el⟩, fun D0 hD => ?_⟩
    have wl := walk_list (K := K) (a := l) (xs := (fmL m y o k a b w).map V.int)
    rw [List.length_map] at wl
    refine lc_ints wl yAt_same hD (Nat.lt_of_le_of_lt (fm_len _ _ _ _ _ _ _) (by decide)) (fun j => fdd m o d ((fmL m y o k a b w).getD j 0)) (fun H' s' => SqL.of (s' _ _ el)) ?_ ?_
    · rintro j x H2 H3 R hj s2 ⟨rfl, hx⟩ k1
      obtain ⟨rfl, hmem⟩ := get_int hx hj
      have zi := fm_sz g za zb _ hmem
      have s12 := s1.trans s2
      refine ⟨rfl, ?_⟩
      refine ⟨_, rfl, _, rfl, _, rfl, _, rfl, _, rfl, f, Cf, dx, _, _, rfl, s12 _ _ ef, T.cl, T.n3, ff_day _ _ _ _, p, _, d, m, y, o, k, rfl, hc.same s12, g, zi.mono (by decide), fun H4 s4 => ?_⟩
      exact ⟨p, _, _, m, y, o, k, rfl, (hc.same s12).same s4, g, zi.mono (by decide), fun H5 s5 => k1 H5 (s4.trans s5)⟩
    · intro H2 e2 s2
      rw [range_getD] at e2
      exact q D0 H2 (s1.free hD) (s1.trans s2) e2
end
/-! ### figures of numbers -/
def spNum : Sp := fun vs H Q _ => ∃ (i : Int) (b : Nat), vs = [.int i, .int (b : Int)] ∧ 2 ≤ b ∧ b ≤ 16 ∧ Sz 200 i ∧ ∀ H', Same H H' → Q (.str (numT b i)) H'
theorem numT_len {b : Nat} {i : Int} (hb : 2 ≤ b) (h : Sz 200 i) : (numT b i).length ≤ 201 := by
  have h1 := lsd_len hb 200 i.natAbs h (by decide)
  unfold numT
  split
  · rw [dash_txt_len, List.length_reverse]
    omega
  · rw [txt_len, List.length_reverse]
    omega
theorem abs_nat (i : Int) : (if i < 0 then -i else i) = ((i.natAbs : Nat) : Int) := by
  split <;> omega
theorem sum_one : ∀ ds : List Nat, ((ds.map sg).map (·.length)).sum = ds.length
  | [] => rfl
  | d :: ds => by
    rw [List.map_cons, List.map_cons, List.sum_cons, sum_one ds, List.length_cons]
    show 1 + _ = _
    omega
theorem len_sg {ds : List Nat} (h : ds.length ≤ 200) : ((ds.map sg).reverse.map (·.length)).sum + (ds.map sg).reverse.length * ("" : Str).length ≤ 16777216 := by
  have e : ("" : Str).length = 0 := by decide +kernel
  rw [e, Nat.mul_zero, ← List.map_reverse, sum_one, List.length_reverse]
  omega
theorem len_dash {ds : List Nat} (h : ds.length ≤ 200) : ((ds.map sg ++ [("-" : Str)]).reverse.map (·.length)).sum + (ds.map sg ++ [("-" : Str)]).reverse.length * ("" : Str).length ≤ 16777216 := by
  have e : ("" : Str).length = 0 := by decide +kernel
  rw [e, Nat.mul_zero, List.reverse_append, List.map_append, List.sum_append, ← List.map_reverse, sum_one, List.length_reverse]
  have e2 : (List.map (fun x : Str => x.length) [("-" : Str)].reverse).sum = 1 := by decide +kernel
  rw [e2]
  omega
theorem szb {b n : Nat} (h : b ≤ 16) (hn : 5 ≤ n) : Sz n ((b : Nat) : Int) := Nat.lt_of_lt_of_le (show ((b : Nat) : Int).natAbs < 2 ^ 5 by omega) (Nat.pow_le_pow_right (by decide) hn)
section
variable {P : Program} {w : World} {K : PySem.W.Frag} {mg : Str → Option Value} {base : Heap}
theorem ok_num (D : Df K mg "numeral" s_numeral [.int 10]) {tk : Tok} (h_FIGURES : mg "FIGURES" = some (.str FIG tk)) (g_abs : mg "abs" = none) (g_reversed : mg "reversed" = none) : Ca P w K mg base CX0 1 "numeral" s_numeral [.int 10] ["number", "base"] spNum := by
  refine ca0 (k := 0) D c_numeral (fun vs H Q E h => ?_) fun f cdv A outer s H vs Q E hr h => ?_
  · obtain ⟨i, b, rfl, _⟩ := h
    rfl
  · obtain ⟨i, b, rfl, h2, h16, zi, q⟩ := h
    refine ⟨_, (pss_cons (ps_set (i := 2) c_numeral.nd rfl (.inl rfl) (pe_callB call_abs rfl g_abs (by decide +kernel) (pa_cons (pv 0) pa_nil)))
      (pss_cons (ps_set (i := 3) c_numeral.nd rfl (.inl rfl) (pe_lst (pa_cons (pe_ix ix_str (pe_glob (v := .str FIG) rfl h_FIGURES ⟨_, rfl⟩) (pe_op op_mod (pv 2) (pv 1)) (fun _ _ => rfl)) pa_nil)))
      (pss_cons (ps_while PassesOwn.never (pt_cmpR op_ge (pv 2) (pv 1) (nomark _)) (pss_cons (ps_set (i := 2) c_numeral.nd rfl (.inl rfl) (pe_op op_fdivA (pv 2) (pv 1)))
      (pss_one (ps_expr (pe_bm PySem.F.plainAttrs_list PySem.F.slot_list_append PySem.F.type_list_append mt_append (pv 3) (pa_cons (pe_ix ix_str (pe_glob (v := .str FIG) rfl h_FIGURES ⟨_, rfl⟩) (pe_op op_mod (pv 2) (pv 1)) (fun _ _ => rfl)) pa_nil))))))
      (pss_cons (ps_if (pt_cmpR op_lt (pv 0) pe_int (nomark _)) (pss_one (ps_expr (pe_bm PySem.F.plainAttrs_list PySem.F.slot_list_append PySem.F.type_list_append mt_append (pv 3) (pa_cons pe_str pa_nil)))) pss_nil)
      (pss_one (ps_ret (pe_joinRev rfl pe_str rfl g_reversed (pv 3)))))))), ?_⟩
    have hl := lsd_len h2 200 i.natAbs zi (by decide)
    have hb0 : (0 : Int) < (b : Int) := by omega
    have md' : ∀ r : Nat, ((r : Nat) : Int) % (b : Int) = ((r % b : Nat) : Int) := fun r => (Int.natCast_emod r b).symm
    have dv' : ∀ r : Nat, ((r : Nat) : Int).fdiv (b : Int) = ((r / b : Nat) : Int) := fun r => by
      rw [Int.fdiv_eq_ediv_of_nonneg _ (by omega)]
      exact (Int.natCast_ediv r b).symm
    have lt16 : ∀ r : Nat, r % b < 16 := fun r => Nat.lt_of_lt_of_le (Nat.mod_lt _ (by omega)) h16
    have fa : ∀ r : Nat, atI FIG.cps.toList (((r : Nat) : Int) % (b : Int)) = some (dg (r % b)) := fun r => by
      rw [md']
      exact fig_at (lt16 r)
    have fl : FIG.length ≤ sizeLine := by rw [fig_len]; decide
    refine ⟨_, rfl, i, rfl, ?_⟩
    rw [abs_nat]
    refine ⟨_, rfl, _, rfl, _, _, rfl, rfl, hb0, FIG, _, dg (i.natAbs % b), rfl, rfl, fl, fa _, (by show 1 ≤ sizeLine; decide), fun l nl => ?_⟩
    have e0 : ([V.str ⟨#[dg (i.natAbs % b)]⟩] : List V) = ((([] : List Nat) ++ [i.natAbs % b]).map sg).map V.str := rfl
    rw [e0]
    refine while_by (fun σ H' => ∃ (pre : List Nat) (r : Nat), σ = [some (.int i), some (.int (b : Int)), some (.int ((r : Nat) : Int)), some (.ref l)] ∧ pre ++ lsd b r = lsd b i.natAbs ∧ H' = L2.upd H l (.lst (((pre ++ [r % b]).map sg).map V.str))) (mu2 2) ⟨[], i.natAbs, rfl, rfl, rfl⟩ ?_ (fun σ H' R R' hq ⟨v, h1, v2, h12, a, c, h2, h3, k, h4, h5⟩ => ⟨v, h1, v2, h12, a, c, h2, h3, k, h4, hq _ _ h5⟩)
    rintro σ H' ⟨pre, r, rfl, hp, rfl⟩
    refine ⟨_, rfl, _, rfl, _, _, rfl, rfl, _, rfl, ?_⟩
    have plen : (pre ++ [r % b]).length ≤ 200 := by
      have h3 : (pre ++ lsd b r).length ≤ 200 := by rw [hp]; exact hl
      have h4 : 0 < (lsd b r).length := List.length_pos_iff.mpr (lsd_ne b r)
      rw [List.length_append] at h3 ⊢
      simp only [List.length_singleton]
      omega
    by_cases hr' : b ≤ r
    · rw [decide_eq_true (show ((r : Nat) : Int) ≥ (b : Int) by omega)]
      refine iteT ?_
      refine ⟨_, rfl, _, rfl, _, _, rfl, rfl, ⟨by omega, szb h16 (by decide)⟩, ?_⟩
      rw [show (fun i j : Int => V.int (Int.fdiv i j)) ((r : Nat) : Int) (b : Int) = V.int ((r / b : Nat) : Int) from congrArg V.int (dv' r)]
      refine ⟨_, rfl, .inl ⟨rfl, _, SqL.of upd_same⟩, _, rfl, _, rfl, _, _, rfl, rfl, hb0, FIG, _, dg (r / b % b), rfl, rfl, fl, fa _, l, _, _, rfl, rfl, upd_same, ?_, ?_⟩
      · rw [List.length_map, List.length_map]
        exact Nat.lt_of_le_of_lt plen (by decide)
      · refine ⟨⟨pre ++ [r % b], r / b, rfl, ?_, ?_⟩, ?_⟩
        · rw [← hp, lsd_ge h2 hr', List.append_assoc]
          rfl
        · rw [upd_upd]
          congr 1
          rw [List.map_append (l₁ := pre ++ [r % b]), List.map_append (l₁ := (pre ++ [r % b]).map sg)]
          rfl
        · show (((r / b : Nat) : Int)).natAbs < (((r : Nat) : Int)).natAbs
          rw [Int.natAbs_natCast, Int.natAbs_natCast]
          exact Nat.div_lt_self (show 0 < r by omega) (show 1 < b by omega)
    · rw [decide_eq_false (show ¬ ((r : Nat) : Int) ≥ (b : Int) by omega)]
      refine iteF ?_
      have er : pre ++ [r % b] = lsd b i.natAbs := by
        rw [← hp, lsd_lt (by omega), Nat.mod_eq_of_lt (by omega)]
      rw [er]
      refine ⟨_, rfl, _, _, rfl, rfl, _, rfl, ?_⟩
      by_cases hn : i < 0
      · rw [decide_eq_true hn]
        refine iteT ?_
        refine ⟨_, rfl, .inl ⟨rfl, _, SqL.of upd_same⟩, l, _, _, rfl, rfl, upd_same, ?_, ?_⟩
        · rw [List.length_map, List.length_map]
          exact Nat.lt_of_le_of_lt hl (by decide)
        rw [upd_upd]
        have e1 : ((lsd b i.natAbs).map sg).map V.str ++ [V.str ("-" : Str)] = ((lsd b i.natAbs).map sg ++ [("-" : Str)]).map V.str := by
          rw [List.map_append]
          rfl
        rw [e1]
        refine ⟨⟨_, rfl⟩, _, rfl, _, l, _, rfl, rfl, SqL.of upd_same, ?_, ?_⟩
        · exact len_dash hl
        · rw [join_dash]
          have q2 := q _ (Same.new (o := .lst (((lsd b i.natAbs).map sg ++ [("-" : Str)]).map V.str)) nl)
          unfold numT at q2
          rw [if_pos hn] at q2
          exact q2
      · rw [decide_eq_false hn]
        refine iteF ?_
        refine ⟨⟨_, rfl⟩, _, rfl, _, l, _, rfl, rfl, SqL.of upd_same, ?_, ?_⟩
        · exact len_sg hl
        · rw [join_sg]
          have q2 := q _ (Same.new (o := .lst (((lsd b i.natAbs).map sg).map V.str)) nl)
          unfold numT at q2
          rw [if_neg hn] at q2
          exact q2
end
/-! ### the text of a year -/
theorem sl_len {a : Str} {n : Nat} (h : a.length ≤ n) (hn : n ≤ 5000 := by decide) : a.length ≤ sizeLine := Nat.le_trans h (Nat.le_trans hn (by decide))
theorem str_app_len (a b : Str) : (a ++ b).length = a.length + b.length := by
  show (a.cps ++ b.cps).size = a.cps.size + b.cps.size
  exact Array.size_append
theorem ap_len {a b : Str} {n m : Nat} (ha : a.length ≤ n) (hb : b.length ≤ m) : (a ++ b).length ≤ n + m := by
  rw [str_app_len]
  omega
theorem lit_len {s : Str} {n : Nat} (h : Nat.ble s.length n = true := by decide +kernel) : s.length ≤ n := Nat.le_of_ble_eq_true h
def oddS (o : Bool) : Str := if o then "*" else ""
theorem odd_len (o : Bool) : (oddS o).length ≤ 1 := by cases o <;> decide +kernel
def spOddS : Sp := fun vs H Q _ => ∃ o : Bool, vs = [.bl o] ∧ Q (.str (oddS o)) H
def mkS (q : Int × (Int × Bool)) : Str := numT 10 q.1 ++ oddS q.2.2
/-- a year's text -/
def yS (ls : List Int) (ks : List (Int × Bool)) : Str := Txt.join (" " : Str) ((ls.zip ks).map mkS)
def spYs (Cy : Addr) : Sp := fun vs H Q _ => ∃ (p : Addr) (a f : Int) (D1 D2 : Addr) (v : V) (us : List V) (ls : List Int) (ks : List (Int × Bool)), vs = [.ref p] ∧ Yr Cy H p a f D1 D2 v ∧ H D1 = some (.lst us) ∧ NmB H us ks ∧ H D2 = some (.lst (ls.map V.int)) ∧ ls.length = ks.length ∧ ls.length ≤ 13 ∧ (∀ i ∈ ls, Sz 200 i) ∧ ∀ H', Same H H' → Q (.str (yS ls ks)) H'
abbrev TE_Year_str1 : TE := tOp rAddS (tCall spNum (([.int 10] : List V).drop 0) E0 (tCons (tVar 1) tNil)) (tCall spOddS [] E0 (tCons (tVar 3) tNil))
theorem bd_numeral1 : Bd1 "numeral" "numeral" s_numeral ["number", "base"] 1 0 1 := fun _ _ _ _ _ _ _ us its hu hi => match us, hu, its, hi with | [_], _, [_], _ => ⟨_, rfl, rfl⟩
theorem join_sum : ∀ {ls : List Int} {ks : List (Int × Bool)}, (∀ i ∈ ls, Sz 200 i) → (((ls.zip ks).map mkS).map (·.length)).sum ≤ 202 * ls.length
  | [], _, _ => by simp
  | _ :: _, [], _ => by simp
  | i :: ls, q :: ks, h => by
    have ih := join_sum (ls := ls) (ks := ks) fun x hx => h x (List.mem_cons_of_mem _ hx)
    have h1 := ap_len (numT_len (b := 10) (by decide) (h i List.mem_cons_self)) (odd_len q.2)
    have h2 : (mkS (i, q)).length ≤ 202 := h1
    simp only [List.zip_cons_cons, List.map_cons, List.sum_cons, List.length_cons]
    omega
section
variable {P : Program} {w : World} {K : PySem.W.Frag} {mg : Str → Option Value} {base : Heap} {C Cc Cy : Addr}
theorem ok_oddS (D : Df K mg "odd_sign" s_odd_sign []) : Ca P w K mg base CX0 1 "odd_sign" s_odd_sign [] ["odd"] spOddS := by
  refine ca0 (k := 0) D c_odd_sign (fun vs H Q E h => ?_) fun f cdv A outer s H vs Q E hr h => ?_
  · obtain ⟨i, rfl, _⟩ := h
    rfl
  · obtain ⟨o, rfl, q⟩ := h
    refine ⟨_, (pss_one (ps_ret (pe_ifExp (pt_val (pv 0)) pe_str pe_str))), ?_⟩
    refine ⟨_, rfl, _, rfl, ?_⟩
    cases o with
    | true => exact iteT q
    | false => exact iteF q
theorem ok_yrS (D : Dm K Cy "__str__" "Year.__str__" s_Year_str) (T : YrT K C Cc Cy) (g_zip : mg "zip" = none) (f_numeral : Ca P w K mg base CX0 1 "numeral" s_numeral [.int 10] ["number", "base"] spNum) (f_odd_sign : Ca P w K mg base CX0 1 "odd_sign" s_odd_sign [] ["odd"] spOddS) : Cm P w K mg base CX0 2 Cy "__str__" "Year.__str__" s_Year_str ["self"] (spYs Cy) := by
  refine cm0 (k := 1) D c_Year_str (fun vs H Q E h => ?_) fun f cdv A outer s H vs Q E hr h => ?_
  · obtain ⟨p, a, f, D1, D2, v, us, ls, ks, rfl, _⟩ := h
    rfl
  · obtain ⟨p, a, f, D1, D2, v, us, ls, ks, rfl, ⟨dx, e⟩, e1, hN, e2, hl, h13, hz, q⟩ := h
    refine ⟨_, (pss_one (ps_ret (pe_m1 PySem.F.slot_str_join PySem.F.type_str_join mt_join pe_str (pe_lc (own := [("length", 1), ("number", 2), ("odd", 3)]) (g := gTup K 2 (gCons (gName 1) (gCons (gTup K 2 (gCons (gName 2) (gCons (gName 3) gNil))) gNil))) (tt := tYes) (te := TE_Year_str1 ) rfl c_Year_str.nd (pi_zip rfl g_zip (pa_cons (pe_fld (pv 0) rfl) (pa_cons (pe_fld (pv 0) rfl) pa_nil))) (blkOk_by (N := ["self", "length", "number", "odd"]) (sc := defScope s_Year_str) (by decide +kernel)) (fun _ _ _ _ _ => (pg_tup rfl (pgs_cons (pg_name (i := 1) c_Year_str.nd rfl (.inl rfl)) (pgs_cons (pg_tup rfl (pgs_cons (pg_name (i := 2) c_Year_str.nd rfl (.inl rfl)) (pgs_cons (pg_name (i := 3) c_Year_str.nd rfl (.inl rfl)) pgs_nil))) pgs_nil)))) (fun _ _ _ _ _ => by exact pts_nil) (fun _ _ _ _ _ => by exact (pe_op op_add_str (pe_caD f_numeral bd_numeral1 (by decide) rfl hr (by decide) pass0 rfl (pa_cons (pv 1) pa_nil)) (pe_ca f_odd_sign b_odd_sign hr (by decide) pass0 rfl (pa_cons (pv 3) pa_nil)))))))), ?_⟩
    refine ⟨⟨_, rfl⟩, _, rfl, p, Cy, dx, _, _, rfl, e, T.cl, T.n4, yf_lengths _ _ _ _ _, _, rfl, p, Cy, dx, _, _, rfl, e, T.cl, T.n3, yf_names _ _ _ _ _, D2, D1, _, _, rfl, SqL.of e2, SqL.of e1, fun D0 nD => ?_⟩
    have hul : us.length = ks.length := hN.1
    refine lc_all (walk_zip (n := ls.length) (K := K) (a := D2) (b := D1) (xs := ls.map V.int) (ys := us) (by rw [List.length_map]; omega)) yPair_same nD (Nat.lt_of_le_of_lt h13 (by decide)) (fun (j : Nat) v H' => ∃ z, (ls.zip ks)[j]? = some z ∧ v = .str (mkS z))
      (fun j v Ha Hb s h => h) (fun j v Ha acc acc' hacc h => h) (fun H' s' => ⟨SqL.of (s' _ _ e2), SqL.of (s' _ _ e1)⟩) ?_ ?_
    · rintro i x Ha Hb R hi sa ⟨T', x1, x2, rfl, nT, rfl, g1, g2⟩ k1
      have g1 : (ls.map V.int)[i]? = some x1 := g1
      have g2 : us[i]? = some x2 := g2
      have hli := List.getElem?_eq_getElem hi
      rw [List.getElem?_map, hli] at g1
      cases g1
      obtain ⟨r, z, rfl, hz', er⟩ := hN.2 i _ g2
      have er := sa _ _ er
      have sT := Same.new (o := .tup [.int ls[i], .ref r]) nT
      have hzi := hz _ (List.getElem_mem hi)
      have hzip : (ls.zip ks)[i]? = some (ls[i], z) := by
        rw [List.getElem?_zip_eq_some]
        exact ⟨hli, hz'⟩
      have hln : (numT 10 ls[i]).length ≤ 201 := numT_len (by decide) hzi
      refine ⟨T', _, rfl, SqT.of upd_same, rfl, _, _, rfl, _, _, rfl, r, _, rfl, SqT.of (sT _ _ er), rfl, _, _, rfl, _, _, rfl, rfl, rfl, rfl, ?_⟩
      refine ⟨_, rfl, _, 10, rfl, by decide, by decide, hzi, fun H4 s4 => ?_⟩
      refine ⟨_, rfl, z.2, rfl, _, _, rfl, rfl, Nat.le_trans (show _ ≤ 202 by have := odd_len z.2; omega) (by decide), k1 _ H4 s4 ⟨_, hzip, rfl⟩⟩
    · intro us' H' hl' hD' hs hp
      have eus : us' = ((ls.zip ks).map mkS).map V.str := by
        refine List.ext_getElem? fun j => ?_
        by_cases hj : j < us'.length
        · have h1 := List.getElem?_eq_getElem hj
          obtain ⟨z, ez, ev⟩ := hp j _ h1
          rw [h1, ev, List.getElem?_map, List.getElem?_map, ez]
          rfl
        · rw [List.getElem?_eq_none_iff.mpr (by omega), List.getElem?_eq_none_iff.mpr (by simp; omega)]
      rw [eus] at hD'
      have hjs := join_sum (ls := ls) (ks := ks) hz
      refine ⟨_, D0, (ls.zip ks).map mkS, rfl, rfl, .inl (SqL.of hD'), ?_, q H' hs⟩
      have e0 : (" " : Str).length = 1 := by decide +kernel
      rw [e0, List.length_map, List.length_zip]
      omega
end
/-! ### calendars that tell alike -/
theorem fl_div {x : Rat} {b : Int} (hb : 0 < b) : (x / (b : Rat)).floor = ((x.floor : Rat) / (b : Rat)).floor := by
  have hb' : (0 : Rat) < (b : Rat) := by exact_mod_cast hb
  have h1 := fl_leW (((x.floor : Int) : Rat) / (b : Rat))
  have h2 := fl_ltW (((x.floor : Int) : Rat) / (b : Rat))
  generalize hF : (((x.floor : Int) : Rat) / (b : Rat)).floor = F at h1 h2
  have a1 : (F : Rat) * (b : Rat) ≤ (x.floor : Rat) := (le_divW hb').mp h1
  have a2 : (x.floor : Rat) < ((F : Rat) + 1) * (b : Rat) := Rat.not_le.mp fun z => Rat.not_le.mpr h2 ((le_divW hb').mpr z)
  have a3 : x.floor + 1 ≤ (F + 1) * b := by
    have : ((x.floor : Int) : Rat) < (((F + 1) * b : Int) : Rat) := by
      rw [Rat.intCast_mul, Rat.intCast_add]
      exact a2
    have := Rat.intCast_lt_intCast.mp this
    omega
  refine fl_ofW ((le_divW hb').mpr (Rat.le_trans a1 (fl_leW x))) ?_
  refine Rat.not_le.mp fun z => ?_
  have z1 := (le_divW hb').mp z
  have z2 := fl_ltW x
  have a4 : (x.floor : Rat) + 1 ≤ ((F : Rat) + 1) * (b : Rat) := by
    have : ((x.floor + 1 : Int) : Rat) ≤ (((F + 1) * b : Int) : Rat) := by exact_mod_cast a3
    rw [Rat.intCast_mul, Rat.intCast_add, Rat.intCast_add] at this
    exact this
  exact Rat.not_le.mpr z2 (Rat.le_trans a4 z1)
theorem st_la (m o : Rat) (i : Int) : stF m (laF o ((m.den : Int))) i = stF m o i := by
  have hb : (0 : Int) < (m.den : Int) := Int.natCast_pos.mpr m.den_pos
  have hn := den_neW m
  unfold stF laF
  have e1 : o + (i : Rat) * m = (o * ((m.den : Int) : Rat) + ((i * m.num : Int) : Rat)) / ((m.den : Int) : Rat) := by
    rw [Rat.intCast_mul, ← m_den m]
    grind
  have e2 : ((o * ((m.den : Int) : Rat)).floor : Rat) / ((m.den : Int) : Rat) + (i : Rat) * m = ((((o * ((m.den : Int) : Rat)).floor : Int) : Rat) + ((i * m.num : Int) : Rat)) / ((m.den : Int) : Rat) := by
    rw [Rat.intCast_mul, ← m_den m]
    grind
  have e3 : ((o * ((m.den : Int) : Rat) + ((i * m.num : Int) : Rat)) / ((m.den : Int) : Rat)).floor = (((((o * ((m.den : Int) : Rat)).floor : Int) : Rat) + ((i * m.num : Int) : Rat)) / ((m.den : Int) : Rat)).floor := by
    rw [fl_div hb, fl_addW, Rat.intCast_add]
  rw [e1, e2, e3]
theorem st_near {m o t : Rat} (t0 : 0 ≤ t) (t1 : t < 1) (i : Int) : stF m (laF o ((m.den : Int)) + t * (1 / ((m.den : Int) : Rat))) i = stF m o i := by
  rw [← st_la m (laF o ((m.den : Int)) + t * (1 / ((m.den : Int) : Rat))) i, la_near (den_neW m) t0 t1, st_la]
/-- a moon so many months on, and moon and mark within what changes no day -/
theorem mvd_alike {m y o k t u : Rat} {n : Int} (t0 : 0 ≤ t) (t1 : t < 1) (u0 : 0 ≤ u) (u1 : u < 1) : Mvd m y o k ((laF o ((m.den : Int)) + t * (1 / ((m.den : Int) : Rat))) + m * (n : Rat)) (laF k (((y / 12).den : Int)) + u * (1 / (((y / 12).den : Int) : Rat))) 0 n 0 := by
  refine ⟨fun i => ?_, fun j => ?_⟩
  · have e : stF m ((laF o ((m.den : Int)) + t * (1 / ((m.den : Int) : Rat))) + m * (n : Rat)) i = stF m (laF o ((m.den : Int)) + t * (1 / ((m.den : Int) : Rat))) (i + n) := by
      unfold stF
      rw [Rat.intCast_add]
      congr 1
      grind
    rw [e, st_near t0 t1, Int.add_zero]
  · rw [Int.add_zero, Int.add_zero]
    exact st_near (m := y / 12) u0 u1 j
theorem mvd_self (m y o k : Rat) : Mvd m y o k o k 0 0 0 := ⟨fun i => by rw [Int.add_zero, Int.add_zero], fun j => by rw [Int.add_zero, Int.add_zero]⟩
/-! ### dates of a calendar that is moved -/
section
variable {m y o k o' k' : Rat} {d a e : Int}
theorem Mvd.mark (M : Mvd m y o k o' k' d a e) (f : Fit m y) (i : Int) : jF y k' (stF m o' i) = jF y k (stF m o (i + a)) - e := by
  rw [M.st, M.j f.ypos]
theorem Mvd.mday (M : Mvd m y o k o' k' d a e) (f : Fit m y) (i : Int) : mdF y k' (jF y k' (stF m o' i)) = mdF y k (jF y k (stF m o (i + a))) + d := by
  rw [M.mark f, M.md]
  congr 2
  omega
theorem Mvd.own (M : Mvd m y o k o' k' d a e) (f : Fit m y) (i : Int) : mdF y k' (jF y k' (stF m o' i)) < stF m o' (i + 1) ↔ mdF y k (jF y k (stF m o (i + a))) < stF m o (i + a + 1) := by
  rw [M.mday f, M.st, show i + 1 + a = i + a + 1 by omega]
  omega
theorem Mvd.hasM (M : Mvd m y o k o' k' d a e) (f : Fit m y) (i : Int) : hasM m y o' k' i ↔ hasM m y o k (i + a) := M.own f i
theorem Mvd.nmJ (M : Mvd m y o k o' k' d a e) (f : Fit m y) (i : Int) : nmJ m y o' k' i = nmJ m y o k (i + a) - e := by
  unfold MM.nmJ
  have h := M.own f i
  have h1 := M.mark f i
  have h2 := M.mark f (i - 1)
  rw [show i - 1 + a = i + a - 1 by omega] at h2
  by_cases c : mdF y k (jF y k (stF m o (i + a))) < stF m o (i + a + 1)
  · rw [if_pos c, if_pos (h.mpr c), h1]
  · rw [if_neg c, if_neg (fun z => c (h.mp z)), h2]
theorem Mvd.nmO (M : Mvd m y o k o' k' d a e) (f : Fit m y) (i : Int) : nmO m y o' k' i = nmO m y o k (i + a) := by
  unfold MM.nmO
  rw [decide_eq_decide.mpr (M.own f i)]
theorem Mvd.dtJ (M : Mvd m y o k o' k' d a e) (f : Fit m y) (x : Int) : MM.nmJ m y o' k' (maF m o' (x + d)) = MM.nmJ m y o k (maF m o x) - e := by
  rw [M.nmJ f, M.ma f.pos, show maF m o x - a + a = maF m o x by omega]
theorem Mvd.dtO (M : Mvd m y o k o' k' d a e) (f : Fit m y) (x : Int) : dtO m y o' k' (x + d) = dtO m y o k x := by
  unfold MM.dtO
  rw [M.nmO f, M.ma f.pos, show maF m o x - a + a = maF m o x by omega]
theorem Mvd.dtD (M : Mvd m y o k o' k' d a e) (f : Fit m y) (x : Int) : dtD m o' (x + d) = dtD m o x := by
  unfold MM.dtD
  rw [M.ma f.pos, M.st, show maF m o x - a + a = maF m o x by omega]
  omega
theorem Mvd.dtY (M : Mvd m y o k o' k' d a 0) (f : Fit m y) (x : Int) : dtY m y o' k' (x + d) = dtY m y o k x := by
  unfold MM.dtY
  rw [M.dtJ f, Int.sub_zero]
theorem Mvd.dtN (M : Mvd m y o k o' k' d a 0) (f : Fit m y) (x : Int) : dtN m y o' k' (x + d) = dtN m y o k x := by
  unfold MM.dtN
  rw [M.dtJ f, Int.sub_zero]
theorem Mvd.pm (M : Mvd m y o k o' k' d a 0) (f : Fit m y) (b c : Int) : pmF m y o' k' b c = pmF m y o k b c - a := by
  unfold pmF
  rw [M.md, M.ma f.pos, Int.add_zero]
theorem Mvd.miy (M : Mvd m y o k o' k' d a 0) (f : Fit m y) (b c : Int) (od : Bool) : miyF m y o' k' b c od = miyF m y o k b c od - a := by
  unfold miyF
  rw [M.pm f]
  have h := M.hasM f (pmF m y o k b c - a + 1)
  rw [show pmF m y o k b c - a + 1 + a = pmF m y o k b c + 1 by omega] at h
  by_cases c1 : od = true
  · rw [if_pos c1, if_pos c1]
    by_cases c2 : MM.hasM m y o k (pmF m y o k b c + 1)
    · rw [if_pos c2, if_pos (h.mpr c2)]
    · rw [if_neg c2, if_neg (fun z => c2 (h.mp z))]
      omega
  · rw [if_neg c1, if_neg c1]
theorem Mvd.held (M : Mvd m y o k o' k' d a e) (i c : Int) : heldF m o' (i - a) c = heldF m o i c := by
  unfold heldF
  rw [M.st, M.st, show i - a + 1 + a = i + 1 by omega, show i - a + a = i by omega, show stF m o (i + 1) + d - (stF m o i + d) = stF m o (i + 1) - stF m o i by omega]
theorem Mvd.lat (M : Mvd m y o k o' k' d a 0) (f : Fit m y) (b n c : Int) (od : Bool) (dy mo yr : Int) : latF m y o' k' b n c od dy mo yr = latF m y o k b n c od dy mo yr + d := by
  unfold latF
  rw [M.miy f, M.held, show miyF m y o k (b + yr) n od - a + mo = miyF m y o k (b + yr) n od + mo - a by omega, M.held, M.st, show miyF m y o k (b + yr) n od + mo - a + a = miyF m y o k (b + yr) n od + mo by omega]
  omega
end
/-! ### days in calendars alike, as the law asks -/
theorem dtN_sz54 (m y o k : Rat) (i : Int) : Sz 10 (dtN m y o k i) := by
  have p6 : (2 : Int) ^ 10 = 1024 := by decide
  unfold dtN
  exact Sz.of (by omega) (by omega)
theorem dt_sz {m y o k : Rat} (g : Good m y o k) {x : Int} (zx : Sz 100 x) : Sz 550 (dtY m y o k x) ∧ Sz 550 (dtN m y o k x) ∧ Sz 1000 (dtD m o x) := by
  have z1 : Sz 550 (dtY m y o k x) := (g.zdY (n := 110) (zx.mono (by decide)) (by decide)).mono (by decide)
  have zk : Sz 252 (maF m o x) := g.zma zx (by decide) (by decide)
  have zs : Sz 403 (stF m o (maF m o x)) := g.zst zk (by decide) (by decide)
  refine ⟨z1, (dtN_sz54 _ _ _ _ _).mono (by decide), ?_⟩
  unfold dtD
  exact (zadd (l := 405) (Sz.sub (n := 403) (zx.mono (by decide)) zs (by decide : 403 < 404)) 1).mono (by decide)
def gOd {α : Type} : List α → List α → List α → List α := fun us _ ws => us ++ ws
theorem gOd_rel {vs ds zs : List V} {us its ws : List Value} (h : Vals vs us) (_ : Vals ds its) (k : Vals zs ws) : Vals (gOd vs ds zs) (gOd us its ws) := h.append k
theorem kb_later_2_days_months_years : Kdn "later" s_later 3 2 ["days", "months", "years"] ["calendar", "date", "days", "months", "years"] gOd :=
  ⟨fun _ _ _ _ _ _ _ us its ws hu hi hw => match us, hu, its, hi, ws, hw with | [_, _], _, [_, _, _], _, [_, _, _], _ => ⟨_, rfl, rfl⟩, gOd_rel⟩
theorem bd_later5 : Bd1 "later" "later" s_later ["calendar", "date", "days", "months", "years"] 5 3 3 := fun _ _ _ _ _ _ _ us its hu hi => match us, hu, its, hi with | [_, _, _, _, _], _, [_, _, _], _ => ⟨_, rfl, rfl⟩
theorem eqv_iib (a b a' b' : Int) (c c' : Bool) : PyData.eqv (.tuple [.int a, .int b, .bool c]) (.tuple [.int a', .int b', .bool c']) = (decide (a = a') && (decide (b = b') && decide (c = c'))) := by
  simp only [PyData.eqv, PyData.eqvAll, Bool.and_true]
  rfl
def spDr55 (C Cc : Addr) : Sp := fun vs H Q _ => ∃ (p p2 : Addr) (x N n : Int) (m y o k o' k' : Rat), vs = [.ref p, .ref p2, .int x, .int N] ∧ Cl C Cc H p m y o k ∧ Good m y o k ∧ Cl C Cc H p2 m y o' k' ∧ Good m y o' k' ∧ Mvd m y o k o' k' 0 n 0 ∧ Sz 70 x ∧ Sz 60 N ∧ ∀ H', Same H H' → Q (.bl true) H'
section
variable {P : Program} {w : World} {K : PySem.W.Frag} {mg : Str → Option Value} {base : Heap} {C Cc Cd : Addr}
set_option maxHeartbeats 16000000 in
theorem ok_ldr55 (D : Df K mg "_law_days_right" s_l_days_right []) (Td : DaT K Cd) (NT : NeT K Cd) (f_month_at : Cm P w K mg base CX0 7 Cc "month_at" "Calendar.month_at" s_Calendar_month_at ["self", "day"] (spM1 C Cc 2900 fun m _ o _ i => .int (maF m o i))) (f_month_with : Cm P w K mg base CX0 8 Cc "month_with" "Calendar.month_with" s_Calendar_month_with ["self", "j"] (spM1 C Cc 2000 fun m y o k i => .int (maF m o (mdF y k i)))) (f_mark_day : Cm P w K mg base CX0 7 Cc "mark_day" "Calendar.mark_day" s_Calendar_mark_day ["self", "j"] (spM1 C Cc 3000 fun _ y _ k i => .int (mdF y k i))) (f_name_of : Cm P w K mg base CX0 9 Cc "name_of" "Calendar.name_of" s_Calendar_name_of ["self", "k"] (spName C Cc)) (f_start : Cm P w K mg base CX0 7 Cc "start" "Calendar.start" s_Calendar_start ["self", "k"] (spM1 C Cc 3000 fun m _ o _ i => .int (stF m o i))) (f_date_of : Ca P w K mg base CX0 10 "date_of" s_date_of [] ["calendar", "day"] (spDateOf C Cc Cd)) (f_Date_eq : Cm P w K mg base CX0 1 Cd "__eq__" "Date.__eq__" s_Date_eq ["self", "other"] (spDaE Cd)) (f_carried : Ca P w K mg base CX0 13 "carried" s_carried [] ["one", "two", "date"] (spCarN C Cc Cd)) (f_later : Ca P w K mg base CX0 13 "later" s_later [.int 0, .int 0, .int 0] ["calendar", "date", "days", "months", "years"] (spLater C Cc Cd)) : Ca P w K mg base CX0 14 "_law_days_right" s_l_days_right [] ["_law_one", "_law_two", "_law_at", "_law_more"] (spDr55 C Cc) := by
  refine ca0 (k := 13) D c_l_days_right (fun vs H Q E h => ?_) fun f cdv A outer s H vs Q E hr h => ?_
  · obtain ⟨p, p2, x, N, n, m, y, o, k, o', k', rfl, _⟩ := h
    rfl
  · obtain ⟨p, p2, x, N, n, m, y, o, k, o', k', rfl, hc, g, hc', g', M, zx, zN, q⟩ := h
    refine ⟨_, (pss_cons (ps_set (i := 4) c_l_days_right.nd rfl (.inl rfl) (pe_ca f_date_of b_date_of hr (by decide) pass0 rfl (pa_cons (pv 0) (pa_cons (pv 2) pa_nil))))
      (pss_cons (ps_if (PW.pt (pw_or (pt_cmpR (op_neC NT f_Date_eq b_Date_eq pass0 hr (by decide)) (pe_ca f_date_of b_date_of hr (by decide) pass0 rfl (pa_cons (pv 1) (pa_cons (pv 2) pa_nil))) (pv 4) (nomark _)) (pw_or1 (pt_cmpR (op_neC NT f_Date_eq b_Date_eq pass0 hr (by decide)) (pe_ca f_carried b_carried hr (by decide) pass0 rfl (pa_cons (pv 0) (pa_cons (pv 1) (pa_cons (pv 4) pa_nil)))) (pv 4) (nomark _))))) (pss_one (ps_ret pe_bl)) pss_nil)
      (pss_cons (ps_if (pt_cmpR (op_neC NT f_Date_eq b_Date_eq pass0 hr (by decide)) (pe_caDk f_later kb_later_2_days_months_years (by decide) hr (by decide) pass0 rfl (pa_cons (pv 0) (pa_cons (pv 4) pa_nil)) (pk_cons (pv 3) (pk_cons pe_int (pk_cons (pe_un un_neg pe_int) pk_nil)))) (pe_caDk f_later kb_later_2_days_months_years (by decide) hr (by decide) pass0 rfl (pa_cons (pv 1) (pa_cons (pv 4) pa_nil)) (pk_cons (pv 3) (pk_cons pe_int (pk_cons (pe_un un_neg pe_int) pk_nil)))) (nomark _)) (pss_one (ps_ret pe_bl)) pss_nil)
      (pss_cons (ps_set (i := 5) c_l_days_right.nd rfl (.inl rfl) (pe_cm f_month_at b_Calendar_month_at hr (by decide) pass0 (pv 0) (pa_cons (pv 2) pa_nil)))
      (pss_cons (ps_set (i := 6) c_l_days_right.nd rfl (.inl rfl) (pe_op op_sub (pe_cm f_month_at b_Calendar_month_at hr (by decide) pass0 (pv 1) (pa_cons (pv 2) pa_nil)) (pv 5)))
      (pss_cons (ps_for PassesOwn.never rfl (pi_list (pe_lst (pa_cons pe_int (pa_cons pe_int (pa_cons (pe_op op_mulA pe_int (pe_fld (pv 4) rfl)) pa_nil))))) (pg_name (i := 7) c_l_days_right.nd rfl (.inl rfl)) (pss_one (ps_if (PW.pt (pw_or (pt_cmpR op_ne (pe_cm f_month_with b_Calendar_month_with hr (by decide) pass0 (pv 1) (pa_cons (pv 7) pa_nil)) (pe_op op_add (pe_cm f_month_with b_Calendar_month_with hr (by decide) pass0 (pv 0) (pa_cons (pv 7) pa_nil)) (pv 6)) (nomark _)) (pw_or1 (pt_cmpR op_ne (pe_cm f_mark_day b_Calendar_mark_day hr (by decide) pass0 (pv 1) (pa_cons (pv 7) pa_nil)) (pe_cm f_mark_day b_Calendar_mark_day hr (by decide) pass0 (pv 0) (pa_cons (pv 7) pa_nil)) (nomark _))))) (pss_one (ps_ret pe_bl)) pss_nil)))
      (pss_one (ps_ret (pe_and (pe_cmpR (op_eqD hr.units) (pe_cm f_name_of b_Calendar_name_of hr (by decide) pass0 (pv 1) (pa_cons (pe_op op_add (pv 5) (pv 6)) pa_nil)) (pe_cm f_name_of b_Calendar_name_of hr (by decide) pass0 (pv 0) (pa_cons (pv 5) pa_nil)) (nomark _)) (pe_one (pe_cmpR op_eq (pe_cm f_start b_Calendar_start hr (by decide) pass0 (pv 1) (pa_cons (pe_op op_add (pe_op op_add (pv 5) (pv 6)) pe_int) pa_nil)) (pe_cm f_start b_Calendar_start hr (by decide) pass0 (pv 0) (pa_cons (pe_op op_add (pv 5) pe_int) pa_nil)) (nomark _)))))))))))), ?_⟩
    have f := g.fit
    have eY : ∀ z, dtY m y o' k' z = dtY m y o k z := fun z => by have h := M.dtY f z; rwa [Int.add_zero] at h
    have eN : ∀ z, dtN m y o' k' z = dtN m y o k z := fun z => by have h := M.dtN f z; rwa [Int.add_zero] at h
    have eD : ∀ z, dtD m o' z = dtD m o z := fun z => by have h := M.dtD f z; rwa [Int.add_zero] at h
    have eO : ∀ z, dtO m y o' k' z = dtO m y o k z := fun z => by have h := M.dtO f z; rwa [Int.add_zero] at h
    have za := dt_sz g (x := x) (zx.mono (by decide))
    have w9 : 550 ≤ 900 := by decide
    refine ⟨_, rfl, _, rfl, p, x, m, y, o, k, rfl, hc, g, zx.mono (by decide), fun r0 H1 n0 s1 hr0 => ?_⟩
    refine ⟨_, rfl, _, rfl, p2, x, m, y, o', k', rfl, hc'.same s1, g', zx.mono (by decide), fun r1 H2 n1 s2 hr1 => ?_⟩
    rw [eY, eN, eD, eO] at hr1
    have s02 := s1.trans s2
    have hr02 := hr0.same s2
    obtain ⟨dx0, ed0⟩ := id hr02
    obtain ⟨dx1, ed1⟩ := id hr1
    refine ⟨_, rfl, r1, dx1, _, _, rfl, ed1, Td.ty _ _ _ _ ed0, nf_self, r1, r0, _, _, _, _, _, _, _, _, rfl, hr1, hr02, _, rfl, _, rfl, no' (by simp) ?_⟩
    refine ⟨_, rfl, _, rfl, _, rfl, p, p2, r0, _, _, _, _, x, m, y, o, k, m, y, o', k', rfl, hc.same s02, g, hc'.same s02, g', hr02, za.1.mono w9, za.2.1.mono w9, zx.mono (by decide), back_day g x, fun r2 H3 n2 s3 hr2 => ?_⟩
    rw [eY, eN, eD, eO] at hr2
    have s03 := s02.trans s3
    have hr03 := hr02.same s3
    obtain ⟨dx3, ed3⟩ := id hr03
    obtain ⟨dx2, ed2⟩ := id hr2
    refine ⟨_, rfl, r2, dx2, _, _, rfl, ed2, Td.ty _ _ _ _ ed3, nf_self, r2, r0, _, _, _, _, _, _, _, _, rfl, hr2, hr03, _, rfl, _, rfl, no' (by simp) ?_⟩
    have z3 : Sz 60 (3 : Int) := (szi (n := 4) 3).mono (by decide)
    have zm : Sz 60 (-1 : Int) := (szi (n := 4) (-1)).mono (by decide)
    refine ⟨_, rfl, _, rfl, _, rfl, _, rfl, rfl, rfl, p, r0, N, 3, -1, _, _, _, _, x, m, y, o, k, rfl, hc.same s03, g, hr03, za.1, za.2.1, za.2.2, zN, z3, zm, back_day g x, fun r4 H4 n4 s4 hr4 => ?_⟩
    have s04 := s03.trans s4
    have bk : dyF m y o' k' (dtY m y o k x) (dtN m y o k x) (dtD m o x) (dtO m y o k x) = .inr x := by
      have h := back_day g' x
      rw [eY, eN, eD, eO] at h
      exact h
    refine ⟨_, rfl, _, rfl, _, rfl, _, rfl, rfl, rfl, p2, r0, N, 3, -1, _, _, _, _, x, m, y, o', k', rfl, hc'.same s04, g', hr03.same s4, za.1, za.2.1, za.2.2, zN, z3, zm, bk, fun r5 H5 n5 s5 hr5 => ?_⟩
    rw [M.lat f, Int.add_zero, eY, eN, eD, eO] at hr5
    have s05 := s04.trans s5
    have hr45 := hr4.same s5
    obtain ⟨dx4, ed4⟩ := id hr45
    obtain ⟨dx5, ed5⟩ := id hr5
    refine ⟨r4, dx4, _, _, rfl, ed4, Td.ty _ _ _ _ ed5, nf_self, r4, r5, _, _, _, _, _, _, _, _, rfl, hr45, hr5, _, rfl, _, rfl, no' (by simp) ?_⟩
    have hr05 := hr03.same (s4.trans s5)
    have hc5 := hc.same s05
    have hc5' := hc'.same s05
    obtain ⟨dxc, _, _, _, _, ec, _⟩ := id hc5
    obtain ⟨dxc', _, _, _, _, ec', _⟩ := id hc5'
    have zK : Sz 300 (maF m o x) := g.zma zx (by decide) (by decide)
    have zK' : Sz 300 (maF m o' x) := g'.zma zx (by decide) (by decide)
    have eM : ∀ z, maF m o' z = maF m o z - n := fun z => by have h := M.ma f.pos z; rwa [Int.add_zero] at h
    have eJ : ∀ j, mdF y k' j = mdF y k j := fun j => by have h := M.md j; rwa [Int.add_zero, Int.add_zero] at h
    refine ⟨_, rfl, p, dxc, _, rfl, ec, cf_no _ _ _ _, _, rfl, p, x, m, y, o, k, rfl, hc5, g, zx.mono (by decide), fun H6 s6 => ?_⟩
    refine ⟨_, rfl, p2, dxc', _, rfl, s6 _ _ ec', cf_no _ _ _ _, _, rfl, p2, x, m, y, o', k', rfl, hc5'.same s6, g', zx.mono (by decide), fun H7 s7 => ⟨_, rfl, _, _, rfl, rfl, ?_⟩⟩
    have s67 := s6.trans s7
    have s07 := s05.trans s67
    have hr07 := hr05.same s67
    obtain ⟨dx7, ed7⟩ := id hr07
    have zy : Sz 80 (dtY m y o k x) := (g.zdY (n := 75) (zx.mono (by decide)) (by decide)).mono (by decide)
    refine ⟨_, rfl, r0, Cd, dx7, _, _, rfl, ed7, Td.cl, Td.n1, df_year _ _ _ _, _, _, rfl, rfl, ⟨(szi (n := 4) 12).mono (by decide), zy.mono (by decide)⟩, (by show 3 ≤ sizeLine; decide), fun pL nL => ?_⟩
    have sL := Same.new (o := .lst [.int 0, .int 7, .int (12 * dtY m y o k x)]) nL
    have eL : (L2.upd H7 pL (.lst [.int 0, .int 7, .int (12 * dtY m y o k x)])) pL = some (.lst [.int 0, .int 7, .int (12 * dtY m y o k x)]) := upd_same
    have s0L := s07.trans sL
    have ecL := sL _ _ (s67 _ _ ec)
    have ecL' := sL _ _ (s67 _ _ ec')
    have hcL := (hc5.same s67).same sL
    have hcL' := (hc5'.same s67).same sL
    generalize L2.upd H7 pL _ = HL at *
    refine ⟨pL, rfl, ⟨_, SqL.of eL⟩, ?_⟩
    refine for_list (K := K) (a := pL) (xs := [.int 0, .int 7, .int (12 * dtY m y o k x)]) (fun _ σ H' => (∃ v7 : Option V, σ = [some (.ref p), some (.ref p2), some (.int x), some (.int N), some (.ref r0), some (.int (maF m o x)), some (.int (maF m o' x - maF m o x)), v7]) ∧ Same HL H')
      ⟨⟨_, rfl⟩, Same.refl _⟩ (fun i σ H' _ ⟨_, s'⟩ => SqL.of (s' _ _ eL)) ?_ ?_
    · rintro i z σ H8 hz ⟨⟨v7, rfl⟩, s8⟩
      obtain ⟨j, rfl, zj⟩ : ∃ j : Int, z = .int j ∧ Sz 100 j := by
        rcases List.mem_cons.mp (List.mem_of_getElem? hz) with rfl | hz
        · exact ⟨_, rfl, szi 0 (by decide)⟩
        rcases List.mem_cons.mp hz with rfl | hz
        · exact ⟨_, rfl, (szi (n := 4) 7).mono (by decide)⟩
        rcases List.mem_cons.mp hz with rfl | hz
        · exact ⟨_, rfl, (Sz.mul (n := 4) (szi 12) zy).mono (by decide)⟩
        · cases hz
      refine ⟨_, rfl, p2, dxc', _, rfl, s8 _ _ ecL', cf_no _ _ _ _, _, rfl, p2, j, m, y, o', k', rfl, hcL'.same s8, g', zj.mono (by decide), fun H9 s9 => ?_⟩
      have s89 := s8.trans s9
      refine ⟨_, rfl, p, dxc, _, rfl, s89 _ _ ecL, cf_no _ _ _ _, _, rfl, p, j, m, y, o, k, rfl, hcL.same s89, g, zj.mono (by decide), fun H10 s10 => ⟨_, rfl, _, _, rfl, rfl, rfl, _, rfl, no' ?_ ?_⟩⟩
      · show (!decide (V.int (maF m o' (mdF y k' j)) = V.int (maF m o (mdF y k j) + (maF m o' x - maF m o x)))) = false
        rw [eJ, eM, eM, show maF m o (mdF y k j) + (maF m o x - n - maF m o x) = maF m o (mdF y k j) - n by omega]
        simp
      have s8a := s89.trans s10
      refine ⟨_, rfl, p2, dxc', _, rfl, s8a _ _ ecL', cf_no _ _ _ _, _, rfl, p2, j, m, y, o', k', rfl, hcL'.same s8a, g', zj.mono (by decide), fun H11 s11 => ?_⟩
      have s8b := s8a.trans s11
      refine ⟨_, rfl, p, dxc, _, rfl, s8b _ _ ecL, cf_no _ _ _ _, _, rfl, p, j, m, y, o, k, rfl, hcL.same s8b, g, zj.mono (by decide), fun H12 s12 => ⟨rfl, _, rfl, no' ?_ ?_⟩⟩
      · show (!decide (V.int (mdF y k' j) = V.int (mdF y k j))) = false
        rw [eJ]
        simp
      exact ⟨⟨_, rfl⟩, s8b.trans s12⟩
    rintro σ H8 ⟨⟨v7, rfl⟩, s8⟩
    have s08 := s0L.trans s8
    have eS : maF m o x + (maF m o' x - maF m o x) = maF m o x - n := by
      rw [eM]
      omega
    have zS : Sz 310 (maF m o x + (maF m o' x - maF m o x)) := by
      rw [show maF m o x + (maF m o' x - maF m o x) = maF m o' x by omega]
      exact zK'.mono (by decide)
    have eL1 : nmL m y o' k' (maF m o x + (maF m o' x - maF m o x)) = nmL m y o k (maF m o x) := by
      rw [eS]
      unfold nmL
      rw [M.nmJ f, M.nmO f, show maF m o x - n + n = maF m o x by omega, Int.sub_zero]
    refine ⟨_, rfl, p2, dxc', _, rfl, s8 _ _ ecL', cf_no _ _ _ _, _, rfl, _, rfl, _, _, rfl, rfl, p2, _, m, y, o', k', rfl, hcL'.same s8, g', zS.mono (by decide), fun t1 H9 nt1 s9 et1 => ?_⟩
    rw [eL1] at et1
    have s89 := s8.trans s9
    refine ⟨_, rfl, p, dxc, _, rfl, s89 _ _ ecL, cf_no _ _ _ _, _, rfl, p, _, m, y, o, k, rfl, hcL.same s89, g, zK.mono (by decide), fun t2 H10 nt2 s10 et2 => ?_⟩
    have s8a := s89.trans s10
    have et1 : H9 t1 = some (.tup [.int (nmJ m y o k (maF m o x) / 12), .int (nmJ m y o k (maF m o x) % 12 + 1), .bl (nmO m y o k (maF m o x))]) := et1
    have et2 : H10 t2 = some (.tup [.int (nmJ m y o k (maF m o x) / 12), .int (nmJ m y o k (maF m o x) % 12 + 1), .bl (nmO m y o k (maF m o x))]) := et2
    refine ⟨.tuple [.int (nmJ m y o k (maF m o x) / 12), .int (nmJ m y o k (maF m o x) % 12 + 1), .bool (nmO m y o k (maF m o x))], .tuple [.int (nmJ m y o k (maF m o x) / 12), .int (nmJ m y o k (maF m o x) % 12 + 1), .bool (nmO m y o k (maF m o x))], .tup (SqT.of (s10 _ _ et1)) (.cons (.int _) (.cons (.int _) (.cons (.bl _) .nil))), .tup (SqT.of et2) (.cons (.int _) (.cons (.int _) (.cons (.bl _) .nil))), rfl, rfl, ?_⟩
    rw [eqv_iib, decide_eq_true rfl, decide_eq_true rfl, decide_eq_true rfl]
    refine ⟨_, rfl, iteT ?_⟩
    refine ⟨_, rfl, p2, dxc', _, rfl, s8a _ _ ecL', cf_no _ _ _ _, _, rfl, _, rfl, _, _, rfl, rfl, _, _, rfl, rfl, p2, _, m, y, o', k', rfl, hcL'.same s8a, g', (zadd (l := 320) zS 1).mono (by decide), fun H11 s11 => ?_⟩
    have s8b := s8a.trans s11
    refine ⟨_, rfl, p, dxc, _, rfl, s8b _ _ ecL, cf_no _ _ _ _, _, rfl, _, _, rfl, rfl, p, _, m, y, o, k, rfl, hcL.same s8b, g, (zadd (l := 320) (zK.mono (show 300 ≤ 310 by decide)) 1).mono (by decide), fun H12 s12 => ⟨rfl, ?_⟩⟩
    have eE : stF m o' (maF m o x + (maF m o' x - maF m o x) + 1) = stF m o (maF m o x + 1) := by
      rw [eS, M.st, Int.add_zero, show maF m o x - n + 1 + n = maF m o x + 1 by omega]
    have sF := s0L.trans (s8b.trans s12)
    show Q (V.bl (decide (V.int (stF m o' (maF m o x + (maF m o' x - maF m o x) + 1)) = V.int (stF m o (maF m o x + 1))))) H12
    rw [eE, decide_eq_true rfl]
    exact q _ sF
end
/-! what is drawn -/
def spDay : Sp := fun vs H Q _ => ∃ (l : Addr) (n : Nat), vs = [.ref l] ∧ Dr H l n ∧ n ≤ 1000000 ∧ ∀ v H', Sz 64 v → But l H H' → Dr H' l (n + 1) → Q (.int v) H'
section
variable {P : Program} {w : World} {K : PySem.W.Frag} {mg : Str → Option Value} {base : Heap}
theorem ok_lday (D : Df K mg "_law_day" s_l_day []) (nx : Ca P w K mg base CX0 1 "_law_next" s_l_next [] ["_law_draws_here"] spNext) : Ca P w K mg base CX0 2 "_law_day" s_l_day [] ["_law_draws_here"] spDay := by
  refine ca0 (k := 1) D c_l_day (fun vs H Q E h => ?_) fun f cdv A outer s H vs Q E hr h => ?_
  · obtain ⟨l, n, rfl, _⟩ := h
    rfl
  · obtain ⟨l, n, rfl, d, hn, q⟩ := h
    refine ⟨_, pss_cons (ps_set (i := 1) c_l_day.nd rfl (.inl rfl) (pe_ca nx b_l_next hr (by decide) pass0 rfl (pa_cons (pv 0) pa_nil)))
      (pss_cons (ps_set (i := 2) c_l_day.nd rfl (.inl rfl) (pe_lst (pa_cons (pe_op op_mod (pe_op op_fdiv (pv 1) pe_int) pe_int) (pa_cons (pe_op op_sub pe_int (pe_op op_mod (pe_op op_fdiv (pv 1) pe_int) pe_int)) (pa_cons (pe_op op_sub (pe_op op_mul (pe_op op_fdiv (pv 1) pe_int) (pe_op op_pow pe_int pe_int)) (pe_op op_pow pe_int pe_int)) pa_nil)))))
      (pss_one (ps_ret (pe_ix ix_list (pe_op op_cat (pv 2) (pe_lst (pa_cons (pe_op op_sub (pe_op op_pow pe_int pe_int) (pe_op op_fdiv (pv 1) pe_int)) pa_nil))) (pe_op op_mod (pv 1) pe_int) (fun _ _ => rfl))))), ?_⟩
    refine ⟨_, rfl, l, n, rfl, d, hn, fun v H1 v0 v1 b1 d1 => ?_⟩
    refine ⟨_, rfl, _, _, rfl, rfl, ⟨by decide, by decide⟩, _, _, rfl, rfl, md, _, rfl, _, _, rfl, rfl, ⟨by decide, by decide⟩, _, _, rfl, rfl, md, _, _, rfl, rfl, _, rfl, _, _, rfl, rfl, ⟨by decide, by decide⟩, _, _, rfl, rfl, ⟨by decide, by decide, by decide⟩, _, _, rfl, rfl, .inl ⟨by omega, by omega⟩, _, _, rfl, rfl, ⟨by decide, by decide, by decide⟩, _, _, rfl, rfl, (by show 3 ≤ sizeLine; decide), fun p hp => ?_⟩
    refine ⟨_, rfl, _, _, rfl, rfl, ⟨by decide, by decide, by decide⟩, _, rfl, _, _, rfl, rfl, ⟨by decide, by decide⟩, _, _, rfl, rfl, (by show 1 ≤ sizeLine; decide), fun p2 hp2 => ?_⟩
    have nep : p ≠ p2 := ne_of_none upd_same hp2
    refine ⟨p, p2, _, _, rfl, rfl, (by rw [upd_ne nep]; exact upd_same), upd_same, (by show 4 ≤ sizeLine; decide), fun p3 hp3 => ?_⟩
    have h1 := Int.emod_nonneg v (show (4 : Int) ≠ 0 by decide)
    have h2 := Int.emod_lt_of_pos v (show (0 : Int) < 4 by decide)
    have a1 := Int.emod_nonneg (v / 4) (show (800 : Int) ≠ 0 by decide)
    have a2 := Int.emod_lt_of_pos (v / 4) (show (0 : Int) < 800 by decide)
    obtain ⟨x, hx, x', rfl, zx⟩ := pick (P := fun x => ∃ i : Int, x = V.int i ∧ Sz 64 i) (xs := [.int (v / 4 % 800), .int (0 - v / 4 % 800), .int (v / 4 * 10 ^ (9 : Int).toNat - 10 ^ (17 : Int).toNat), .int (10 ^ (19 : Int).toNat - v / 4)]) h1 h2 (by
      have e9 : (10 : Int) ^ (9 : Int).toNat = 1000000000 := by decide
      have e17 : (10 : Int) ^ (17 : Int).toNat = 100000000000000000 := by decide
      have e19 : (10 : Int) ^ (19 : Int).toNat = 10000000000000000000 := by decide
      have e64 : (2 : Int) ^ 64 = 18446744073709551616 := by decide
      intro x hx
      rcases List.mem_cons.mp hx with rfl | hx
      · exact ⟨_, rfl, Sz.of (by omega) (by omega)⟩
      rcases List.mem_cons.mp hx with rfl | hx
      · exact ⟨_, rfl, Sz.of (by omega) (by omega)⟩
      rcases List.mem_cons.mp hx with rfl | hx
      · exact ⟨_, rfl, Sz.of (by rw [e9, e17, e64]; omega) (by rw [e9, e17, e64]; omega)⟩
      rcases List.mem_cons.mp hx with rfl | hx
      · exact ⟨_, rfl, Sz.of (by rw [e19, e64]; omega) (by rw [e19, e64]; omega)⟩
      · cases hx)
    refine ⟨_, rfl, _, _, rfl, rfl, md, p3, _, _, _, rfl, rfl, SqL.of upd_same, hx, ?_⟩
    exact q x' _ zx (((b1.upd hp).upd hp2).upd hp3) (((d1.new hp).new hp2).new hp3)
end
def spPart : Sp := fun vs H Q _ => ∃ (l : Addr) (n : Nat), vs = [.ref l] ∧ Dr H l n ∧ n ≤ 100000 ∧ ∀ r H' q, 0 ≤ q → q ≤ 1 → Rz 18 q → But l H H' → Dr H' l (n + 2) → Tp H' r q → Q (.ref r) H'
def spMom : Sp := fun vs H Q _ => ∃ (l : Addr) (n : Nat), vs = [.ref l] ∧ Dr H l n ∧ n ≤ 10000 ∧ ∀ r H' q, Rz 60 q → But l H H' → Dr H' l (n + 3) → Tp H' r q → Q (.ref r) H'
def spFour : Sp := fun vs H Q _ => ∃ (l : Addr) (n : Nat), vs = [.ref l] ∧ Dr H l n ∧ n ≤ 1000 ∧ ∀ r H' m y o k, Good m y o k → But l H H' → Dr H' l (n + 11) → Fo H' r m y o k → Q (.ref r) H'
theorem Tp.but {l : Addr} {H H1 : Hp} {n : Nat} {a : Addr} {q : Rat} (h : Tp H a q) (b : But l H H1) (d : Dr H l n) : Tp H1 a q := b.tup d h
section
variable {P : Program} {w : World} {K : PySem.W.Frag} {mg : Str → Option Value} {base : Heap}
theorem ok_lpart (D : Df K mg "_law_part" s_l_part []) (f_l_next : Ca P w K mg base CX0 1 "_law_next" s_l_next [] ["_law_draws_here"] spNext) (f_l_low : Ca P w K mg base CX0 1 "_law_low" s_l_low [] ["_law_top", "_law_bottom"] spLow) : Ca P w K mg base CX0 2 "_law_part" s_l_part [] ["_law_draws_here"] spPart := by
  refine ca0 (k := 1) D c_l_part (fun vs H Q E h => ?_) fun f cdv A outer s H vs Q E hr h => ?_
  · obtain ⟨l, n, rfl, _⟩ := h
    rfl
  · obtain ⟨l, n, rfl, d, hn, q⟩ := h
    refine ⟨_, (pss_cons (ps_set (i := 1) c_l_part.nd rfl (.inl rfl) (pe_ca f_l_next b_l_next hr (by decide) pass0 rfl (pa_cons (pv 0) pa_nil)))
      (pss_cons (ps_set (i := 2) c_l_part.nd rfl (.inl rfl) (pe_op op_add (pe_op op_pow pe_int pe_int) (pe_op op_mod (pe_op op_fdiv (pv 1) pe_int) (pe_op op_pow pe_int pe_int))))
      (pss_cons (ps_set (i := 3) c_l_part.nd rfl (.inl rfl) (pe_ix ix_list (pe_lst (pa_cons (pe_op op_add pe_int (pe_op op_mod (pe_op op_fdiv (pv 1) pe_int) pe_int)) (pa_cons (pe_op op_add pe_int (pe_op op_mod (pe_op op_fdiv (pv 1) pe_int) pe_int)) (pa_cons (pe_op op_add pe_int (pe_op op_mod (pe_op op_fdiv (pv 1) pe_int) pe_int)) (pa_cons (pv 2) pa_nil))))) (pe_op op_mod (pv 1) pe_int) (fun _ _ => rfl)))
      (pss_one (ps_ret (pe_ca f_l_low b_l_low hr (by decide) pass0 rfl (pa_cons (pe_op op_mod (pe_ca f_l_next b_l_next hr (by decide) pass0 rfl (pa_cons (pv 0) pa_nil)) (pe_op op_add (pv 3) pe_int)) (pa_cons (pv 3) pa_nil)))))))), ?_⟩
    refine ⟨_, rfl, l, n, rfl, d, by omega, fun v H1 v0 v1 b1 d1 => ?_⟩
    refine ⟨_, _, rfl, rfl, ⟨by decide, by decide, by decide⟩, _, rfl, _, _, rfl, rfl, ⟨by decide, by decide⟩, _, _, rfl, rfl, ⟨by decide, by decide, by decide⟩, _, _, rfl, rfl, md, _, _, rfl, rfl, ?_⟩
    refine ⟨_, rfl, _, _, rfl, rfl, ⟨by decide, by decide⟩, _, _, rfl, rfl, md, _, _, rfl, rfl, _, rfl, _, _, rfl, rfl, ⟨by decide, by decide⟩, _, _, rfl, rfl, md, _, _, rfl, rfl, _, rfl, _, _, rfl, rfl, ⟨by decide, by decide⟩, _, _, rfl, rfl, md, _, _, rfl, rfl, _, rfl, (by show 4 ≤ sizeLine; decide), fun p hp => ?_⟩
    have h1 := Int.emod_nonneg v (show (4 : Int) ≠ 0 by decide)
    have h2 := Int.emod_lt_of_pos v (show (0 : Int) < 4 by decide)
    obtain ⟨x, hx, b, rfl, zb0, zb1⟩ := pick (P := fun x => ∃ i : Int, x = V.int i ∧ 1 ≤ i ∧ i ≤ 200000) (xs := [.int (1 + v / 4 % 3), .int (1 + v / 4 % 40), .int (1 + v / 4 % 1000), .int (10 ^ (5 : Int).toNat + v / 4 % 10 ^ (5 : Int).toNat)]) h1 h2 (by
      have e5 : (10 : Int) ^ (5 : Int).toNat = 100000 := by decide
      intro x hx
      rcases List.mem_cons.mp hx with rfl | hx
      · exact ⟨_, rfl, by omega, by omega⟩
      rcases List.mem_cons.mp hx with rfl | hx
      · exact ⟨_, rfl, by omega, by omega⟩
      rcases List.mem_cons.mp hx with rfl | hx
      · exact ⟨_, rfl, by omega, by omega⟩
      rcases List.mem_cons.mp hx with rfl | hx
      · exact ⟨_, rfl, by rw [e5]; omega, by rw [e5]; omega⟩
      · cases hx)
    refine ⟨_, rfl, _, _, rfl, rfl, md, p, _, _, _, rfl, rfl, SqL.of upd_same, hx, ?_⟩
    refine ⟨_, rfl, l, n + 1, rfl, d1.new hp, by omega, fun u H2 u0 u1 b2 d2 => ?_⟩
    have t0 := Int.emod_nonneg u (show b + 1 ≠ 0 by omega)
    have t1 := Int.emod_lt_of_pos u (show 0 < b + 1 by omega)
    refine ⟨_, rfl, _, _, rfl, rfl, _, _, rfl, rfl, (show 0 < b + 1 by omega), _, rfl, u % (b + 1), b, rfl, by omega, ?_, ?_, fun r hr' => ?_⟩
    · exact (Sz.of (n := 18) (by omega) (by have : (2 : Int) ^ 18 = 262144 := by decide
                                            omega)).mono (by decide)
    · exact (Sz.of (n := 18) (by omega) (by have : (2 : Int) ^ 18 = 262144 := by decide
                                            omega)).mono (by decide)
    · obtain ⟨q0, q1⟩ := unit_divInt t0 (show u % (b + 1) ≤ b by omega) (show 0 < b by omega)
      have e18 : (2 : Int) ^ 18 = 262144 := by decide
      exact q r _ _ q0 q1 (Rz.divInt (Sz.of (by omega) (by omega)) (Sz.of (by omega) (by omega)) (by decide)) (((b1.upd hp).trans b2).upd hr') (d2.new hr') upd_same
end
section
variable {P : Program} {w : World} {K : PySem.W.Frag} {mg : Str → Option Value} {base : Heap}
theorem ok_lmom (D : Df K mg "_law_moment" s_l_moment []) (f_l_next : Ca P w K mg base CX0 1 "_law_next" s_l_next [] ["_law_draws_here"] spNext) (f_l_part : Ca P w K mg base CX0 2 "_law_part" s_l_part [] ["_law_draws_here"] spPart) (f_l_plus : Ca P w K mg base CX0 2 "_law_plus" s_l_plus [] ["_law_one", "_law_two"] (spT2 fun a b => a + b)) : Ca P w K mg base CX0 3 "_law_moment" s_l_moment [] ["_law_draws_here"] spMom := by
  refine ca0 (k := 2) D c_l_moment (fun vs H Q E h => ?_) fun f cdv A outer s H vs Q E hr h => ?_
  · obtain ⟨l, n, rfl, _⟩ := h
    rfl
  · obtain ⟨l, n, rfl, d, hn, q⟩ := h
    refine ⟨_, (pss_cons (ps_set (i := 1) c_l_moment.nd rfl (.inl rfl) (pe_ca f_l_part b_l_part hr (by decide) pass0 rfl (pa_cons (pv 0) pa_nil)))
      (pss_cons (ps_set (i := 2) c_l_moment.nd rfl (.inl rfl) (pe_ca f_l_next b_l_next hr (by decide) pass0 rfl (pa_cons (pv 0) pa_nil)))
      (pss_cons (ps_set (i := 3) c_l_moment.nd rfl (.inl rfl) (pe_ix ix_list (pe_lst (pa_cons pe_int (pa_cons (pe_op op_mod (pe_op op_fdiv (pv 2) pe_int) pe_int) (pa_cons (pe_op op_add (pe_op op_pow pe_int pe_int) (pe_op op_fdiv (pv 2) pe_int)) (pa_cons (pe_op op_sub pe_int (pe_op op_mod (pe_op op_fdiv (pv 2) pe_int) (pe_op op_pow pe_int pe_int))) pa_nil))))) (pe_op op_mod (pv 2) pe_int) (fun _ _ => rfl)))
      (pss_one (ps_ret (pe_ca f_l_plus b_l_plus hr (by decide) pass0 rfl (pa_cons (pv 1) (pa_cons (pe_tup (pa_cons (pv 3) (pa_cons pe_int pa_nil))) pa_nil)))))))), ?_⟩
    refine ⟨_, rfl, l, n, rfl, d, by omega, fun a H1 x x0 x1 zx b1 d1 e1 => ?_⟩
    refine ⟨_, rfl, l, n + 2, rfl, d1, by omega, fun v H2 v0 v1 b2 d2 => ?_⟩
    refine ⟨_, rfl, _, _, rfl, rfl, ⟨by decide, by decide⟩, _, _, rfl, rfl, md, _, _, rfl, rfl, ⟨by decide, by decide, by decide⟩, _, rfl, _, _, rfl, rfl, ⟨by decide, by decide⟩, _, _, rfl, rfl, _, rfl, _, _, rfl, rfl, ⟨by decide, by decide⟩, _, _, rfl, rfl, ⟨by decide, by decide, by decide⟩, _, _, rfl, rfl, md, _, _, rfl, rfl, (by show 4 ≤ sizeLine; decide), fun p hp => ?_⟩
    have h1 := Int.emod_nonneg v (show (4 : Int) ≠ 0 by decide)
    have h2 := Int.emod_lt_of_pos v (show (0 : Int) < 4 by decide)
    obtain ⟨z, hz, i, rfl, zi⟩ := pick (P := fun x => ∃ i : Int, x = V.int i ∧ Sz 30 i) (xs := [.int 0, .int (v / 4 % 100), .int (10 ^ (6 : Int).toNat + v / 4), .int (0 - v / 4 % 10 ^ (5 : Int).toNat)]) h1 h2 (by
      have e5 : (10 : Int) ^ (5 : Int).toNat = 100000 := by decide
      have e6 : (10 : Int) ^ (6 : Int).toNat = 1000000 := by decide
      have e30 : (2 : Int) ^ 30 = 1073741824 := by decide
      intro x hx
      rcases List.mem_cons.mp hx with rfl | hx
      · exact ⟨_, rfl, Sz.of (by omega) (by omega)⟩
      rcases List.mem_cons.mp hx with rfl | hx
      · exact ⟨_, rfl, Sz.of (by omega) (by omega)⟩
      rcases List.mem_cons.mp hx with rfl | hx
      · exact ⟨_, rfl, Sz.of (by rw [e6, e30]; omega) (by rw [e6, e30]; omega)⟩
      rcases List.mem_cons.mp hx with rfl | hx
      · exact ⟨_, rfl, Sz.of (by rw [e5, e30]; omega) (by rw [e5, e30]; omega)⟩
      · cases hx)
    refine ⟨_, rfl, _, _, rfl, rfl, md, p, _, _, _, rfl, rfl, SqL.of upd_same, hz, ?_⟩
    refine ⟨_, rfl, _, rfl, (by show 2 ≤ sizeLine; decide), fun t ht => ?_⟩
    have ea : Tp _ a x := ((e1.but b2 d1).same (Same.new hp)).same (Same.new (o := .tup [.int i, .int 1]) ht)
    refine ⟨a, t, x, (i : Rat), rfl, ea.tq (zx.mono (by decide)), int_div i (zi.mono (by decide)) (by decide), fun r H3 nr s3 e3 => ?_⟩
    exact q r H3 _ (zx.add (Rz.int zi (by decide)) (by decide)) (((((b1.trans b2).upd hp).upd ht)).trans (But.same s3)) (((d2.new hp).new ht).same s3 (by omega)) e3
end
theorem Fo.but {l : Addr} {H H1 : Hp} {r : Addr} {n : Nat} {m y o k : Rat} (h : Fo H r m y o k) (b : But l H H1) (d : Dr H l n) : Fo H1 r m y o k := by
  obtain ⟨a, b', c, d', e, h1, h2, h3, h4⟩ := h
  exact ⟨a, b', c, d', b.tup d e, h1.but b d, h2.but b d, h3.but b d, h4.but b d⟩
/-- a month and a year of the law's -/
structure MY (m y : Rat) : Prop where
  fit : Fit m y
  zm : Rz 60 m
  zy : Rz 60 y
def qm1 : Rat := ⟨27759, 940, by decide, by decide⟩
def qy1 : Rat := ⟨1461, 4, by decide, by decide⟩
def qm2 : Rat := ⟨765433, 25920, by decide, by decide⟩
def qy2 : Rat := ⟨35975351, 98496, by decide, by decide⟩
def qm3 : Rat := ⟨59, 2, by decide, by decide⟩
def qy3 : Rat := ⟨365, 1, by decide, by decide⟩
def qm4 : Rat := ⟨30, 1, by decide, by decide⟩
def qy4 : Rat := ⟨366, 1, by decide, by decide⟩
theorem my1 : MY qm1 qy1 := ⟨⟨by decide +kernel, by decide +kernel, by decide +kernel⟩, ⟨szi _, szi _⟩, ⟨szi _, szi _⟩⟩
theorem my2 : MY qm2 qy2 := ⟨⟨by decide +kernel, by decide +kernel, by decide +kernel⟩, ⟨szi _, szi _⟩, ⟨szi _, szi _⟩⟩
theorem my3 : MY qm3 qy3 := ⟨⟨by decide +kernel, by decide +kernel, by decide +kernel⟩, ⟨szi _, szi _⟩, ⟨szi _, szi _⟩⟩
theorem my4 : MY qm4 qy4 := ⟨⟨by decide +kernel, by decide +kernel, by decide +kernel⟩, ⟨szi _, szi _⟩, ⟨szi _, szi _⟩⟩
section
variable {P : Program} {w : World} {K : PySem.W.Frag} {mg : Str → Option Value} {base : Heap}
theorem ok_lfour (D : Df K mg "_law_four" s_l_four []) (f_l_next : Ca P w K mg base CX0 1 "_law_next" s_l_next [] ["_law_draws_here"] spNext) (f_l_part : Ca P w K mg base CX0 2 "_law_part" s_l_part [] ["_law_draws_here"] spPart) (f_l_plus : Ca P w K mg base CX0 2 "_law_plus" s_l_plus [] ["_law_one", "_law_two"] (spT2 fun a b => a + b)) (f_l_by : Ca P w K mg base CX0 2 "_law_by" s_l_by [] ["_law_one", "_law_two"] (spT2 fun a b => a * b)) (f_l_moment : Ca P w K mg base CX0 3 "_law_moment" s_l_moment [] ["_law_draws_here"] spMom) : Ca P w K mg base CX0 4 "_law_four" s_l_four [] ["_law_draws_here"] spFour := by
  refine ca0 (k := 3) D c_l_four (fun vs H Q E h => ?_) fun f cdv A outer s H vs Q E hr h => ?_
  · obtain ⟨l, n, rfl, _⟩ := h
    rfl
  · obtain ⟨l, n, rfl, d, hn, q⟩ := h
    refine ⟨_, (pss_cons (ps_set (i := 1) c_l_four.nd rfl (.inl rfl) (pe_ca f_l_next b_l_next hr (by decide) pass0 rfl (pa_cons (pv 0) pa_nil)))
      (pss_cons (ps_if (pt_cmpR op_eq (pe_op op_mod (pv 1) pe_int) pe_int (nomark _)) (pss_cons (ps_set (i := 2) c_l_four.nd rfl (.inl rfl) (pe_lst (pa_cons (pe_tup (pa_cons (pe_tup (pa_cons pe_int (pa_cons pe_int pa_nil))) (pa_cons (pe_tup (pa_cons pe_int (pa_cons pe_int pa_nil))) pa_nil))) (pa_cons (pe_tup (pa_cons (pe_tup (pa_cons pe_int (pa_cons pe_int pa_nil))) (pa_cons (pe_tup (pa_cons pe_int (pa_cons pe_int pa_nil))) pa_nil))) pa_nil))))
      (pss_one (ps_asg (pe_ix ix_list (pe_op op_cat (pv 2) (pe_lst (pa_cons (pe_tup (pa_cons (pe_tup (pa_cons pe_int (pa_cons pe_int pa_nil))) (pa_cons (pe_tup (pa_cons pe_int (pa_cons pe_int pa_nil))) pa_nil))) (pa_cons (pe_tup (pa_cons (pe_tup (pa_cons pe_int (pa_cons pe_int pa_nil))) (pa_cons (pe_tup (pa_cons pe_int (pa_cons pe_int pa_nil))) pa_nil))) pa_nil)))) (pe_op op_mod (pe_op op_fdiv (pv 1) pe_int) pe_int) (fun _ _ => rfl)) (pg_tup rfl (pgs_cons (pg_name (i := 3) c_l_four.nd rfl (.inl rfl)) (pgs_cons (pg_name (i := 4) c_l_four.nd rfl (.inl rfl)) pgs_nil)))))) (pss_cons (ps_set (i := 5) c_l_four.nd rfl (.inl rfl) (pe_ix ix_list (pe_lst (pa_cons (pe_op op_add pe_int (pe_op op_mod (pe_op op_fdiv (pv 1) pe_int) pe_int)) (pa_cons (pe_op op_add pe_int (pe_op op_mod (pe_op op_fdiv (pv 1) pe_int) pe_int)) (pa_cons (pe_op op_add pe_int (pe_op op_mod (pe_op op_fdiv (pv 1) pe_int) pe_int)) (pa_cons pe_int (pa_cons pe_int pa_nil)))))) (pe_op op_mod (pe_op op_fdiv (pv 1) pe_int) pe_int) (fun _ _ => rfl)))
      (pss_cons (ps_set (i := 6) c_l_four.nd rfl (.inl rfl) (pe_ca f_l_part b_l_part hr (by decide) pass0 rfl (pa_cons (pv 0) pa_nil)))
      (pss_cons (ps_set (i := 7) c_l_four.nd rfl (.inl rfl) (pe_ca f_l_part b_l_part hr (by decide) pass0 rfl (pa_cons (pv 0) pa_nil)))
      (pss_cons (ps_set (i := 3) c_l_four.nd rfl (.inl rfl) (pe_ca f_l_by b_l_by hr (by decide) pass0 rfl (pa_cons (pe_ca f_l_plus b_l_plus hr (by decide) pass0 rfl (pa_cons (pe_tup (pa_cons (pe_op op_add (pe_op op_mul pe_int (pv 5)) pe_int) (pa_cons pe_int pa_nil))) (pa_cons (pe_ca f_l_by b_l_by hr (by decide) pass0 rfl (pa_cons (pv 6) (pa_cons (pe_tup (pa_cons (pe_op op_sub (pv 5) pe_int) (pa_cons pe_int pa_nil))) pa_nil))) pa_nil))) (pa_cons (pe_tup (pa_cons pe_int (pa_cons pe_int pa_nil))) pa_nil))))
      (pss_one (ps_set (i := 4) c_l_four.nd rfl (.inl rfl) (pe_ca f_l_plus b_l_plus hr (by decide) pass0 rfl (pa_cons (pe_tup (pa_cons (pe_op op_mul pe_int (pv 5)) (pa_cons pe_int pa_nil))) (pa_cons (pe_ca f_l_by b_l_by hr (by decide) pass0 rfl (pa_cons (pe_ca f_l_by b_l_by hr (by decide) pass0 rfl (pa_cons (pv 7) (pa_cons (pv 6) pa_nil))) (pa_cons (pe_tup (pa_cons (pe_op op_sub (pv 5) pe_int) (pa_cons pe_int pa_nil))) pa_nil))) pa_nil))))))))))
      (pss_one (ps_ret (pe_tup (pa_cons (pv 3) (pa_cons (pv 4) (pa_cons (pe_ca f_l_moment b_l_moment hr (by decide) pass0 rfl (pa_cons (pv 0) pa_nil)) (pa_cons (pe_ca f_l_moment b_l_moment hr (by decide) pass0 rfl (pa_cons (pv 0) pa_nil)) pa_nil))))))))), ?_⟩
    have fin : ∀ (x1 x2 x5 x6 x7 : Option V) (a b : Addr) (m y : Rat) (H1 : Hp), MY m y → But l H H1 → Dr H1 l (n + 5) → Tp H1 a m → Tp H1 b y →
        tRet (tTup (tCons (tVar 3) (tCons (tVar 4) (tCons (tCall spMom [] E0 (tCons (tVar 0) tNil)) (tCons (tCall spMom [] E0 (tCons (tVar 0) tNil)) tNil))))) { nx := fun _ H' => Q .non H', rt := Q } [some (.ref l), x1, x2, some (.ref a), some (.ref b), x5, x6, x7] H1 := by
      intro x1 x2 x5 x6 x7 a b m y H1 my b1 d1 ea eb
      refine ⟨_, rfl, _, rfl, _, rfl, l, n + 5, rfl, d1, by omega, fun c H2 o zo b2 d2 ec => ?_⟩
      refine ⟨_, rfl, l, n + 8, rfl, d2, by omega, fun e H3 k zk b3 d3 ee => ?_⟩
      refine ⟨(by show 4 ≤ sizeLine; decide), fun r hr' => ?_⟩
      have bb : But l H1 H3 := b2.trans b3
      refine q r _ m y o k ⟨my.fit, my.zm.mono (by decide), my.zy.mono (by decide), zo.mono (by decide), zk.mono (by decide)⟩ ((b1.trans bb).upd hr') ((d3.new hr').mono (by omega)) ?_
      exact ⟨a, b, c, e, upd_same, (ea.but bb d1).same (Same.new hr'), (eb.but bb d1).same (Same.new hr'), (ec.but b3 d2).same (Same.new hr'), ee.same (Same.new hr')⟩
    refine ⟨_, rfl, l, n, rfl, d, by omega, fun v H1 v0 v1 b1 d1 => ?_⟩
    refine ⟨_, rfl, _, _, rfl, rfl, md, rfl, _, rfl, ?_⟩
    refine ite2 (fun _ => ?_) (fun _ => ?_)
    · refine ⟨(by show 2 ≤ sizeLine; decide), fun a1 n1 => ⟨(by show 2 ≤ sizeLine; decide), fun c1 n2 => ⟨(by show 2 ≤ sizeLine; decide), fun r1 n3 => ⟨(by show 2 ≤ sizeLine; decide), fun a2 n4 => ⟨(by show 2 ≤ sizeLine; decide), fun c2 n5 => ⟨(by show 2 ≤ sizeLine; decide), fun r2 n6 => ⟨(by show 2 ≤ sizeLine; decide), fun l1 n7 => ?_⟩⟩⟩⟩⟩⟩⟩
      refine ⟨_, rfl, (by show 2 ≤ sizeLine; decide), fun a3 n8 => ⟨(by show 2 ≤ sizeLine; decide), fun c3 n9 => ⟨(by show 2 ≤ sizeLine; decide), fun r3 n10 => ⟨(by show 2 ≤ sizeLine; decide), fun a4 n11 => ⟨(by show 2 ≤ sizeLine; decide), fun c4 n12 => ⟨(by show 2 ≤ sizeLine; decide), fun r4 n13 => ⟨(by show 2 ≤ sizeLine; decide), fun l2 n14 => ?_⟩⟩⟩⟩⟩⟩⟩
      have s2 := Same.new (o := .tup [.int 1461, .int 4]) n2
      have s3 := Same.new (o := .tup [.ref a1, .ref c1]) n3
      have s4 := Same.new (o := .tup [.int 765433, .int 25920]) n4
      have s5 := Same.new (o := .tup [.int 35975351, .int 98496]) n5
      have s6 := Same.new (o := .tup [.ref a2, .ref c2]) n6
      have s7 := Same.new (o := .lst [.ref r1, .ref r2]) n7
      have s8 := Same.new (o := .tup [.int 59, .int 2]) n8
      have s9 := Same.new (o := .tup [.int 365, .int 1]) n9
      have s10 := Same.new (o := .tup [.ref a3, .ref c3]) n10
      have s11 := Same.new (o := .tup [.int 30, .int 1]) n11
      have s12 := Same.new (o := .tup [.int 366, .int 1]) n12
      have s13 := Same.new (o := .tup [.ref a4, .ref c4]) n13
      have s14 := Same.new (o := .lst [.ref r3, .ref r4]) n14
      have t13 := s14
      have t12 := s13.trans t13
      have t11 := s12.trans t12
      have t10 := s11.trans t11
      have t9 := s10.trans t10
      have t8 := s9.trans t9
      have t7 := s8.trans t8
      have t6 := s7.trans t7
      have t5 := s6.trans t6
      have t4 := s5.trans t5
      have t3 := s4.trans t4
      have t2 := s3.trans t3
      have t1 := s2.trans t2
      have t0 := (Same.new (o := .tup [.int 27759, .int 940]) n1).trans t1
      refine ⟨l1, l2, _, _, rfl, rfl, t7 _ _ upd_same, upd_same, (by show 4 ≤ sizeLine; decide), fun l3 n15 => ?_⟩
      have sz := Same.new (o := .lst ([.ref r1, .ref r2] ++ [.ref r3, .ref r4])) n15
      have h1 := Int.emod_nonneg (v / 8) (show (4 : Int) ≠ 0 by decide)
      have h2 := Int.emod_lt_of_pos (v / 8) (show (0 : Int) < 4 by decide)
      obtain ⟨x, hx, r, a, c, m, y, rfl, er, ea, ec, my⟩ := pick (P := fun x => ∃ (r a c : Addr) (m y : Rat), x = V.ref r ∧ (L2.upd _ l3 (.lst ([.ref r1, .ref r2] ++ [.ref r3, .ref r4]))) r = some (.tup [.ref a, .ref c]) ∧ Tp (L2.upd _ l3 (.lst ([.ref r1, .ref r2] ++ [.ref r3, .ref r4]))) a m ∧ Tp (L2.upd _ l3 (.lst ([.ref r1, .ref r2] ++ [.ref r3, .ref r4]))) c y ∧ MY m y) (xs := [.ref r1, .ref r2, .ref r3, .ref r4]) h1 h2 (by
        intro x hx
        rcases List.mem_cons.mp hx with rfl | hx
        · exact ⟨r1, a1, c1, qm1, qy1, rfl, sz _ _ (t3 _ _ upd_same), sz _ _ (t1 _ _ upd_same), sz _ _ (t2 _ _ upd_same), my1⟩
        rcases List.mem_cons.mp hx with rfl | hx
        · exact ⟨r2, a2, c2, qm2, qy2, rfl, sz _ _ (t6 _ _ upd_same), sz _ _ (t4 _ _ upd_same), sz _ _ (t5 _ _ upd_same), my2⟩
        rcases List.mem_cons.mp hx with rfl | hx
        · exact ⟨r3, a3, c3, qm3, qy3, rfl, sz _ _ (t10 _ _ upd_same), sz _ _ (t8 _ _ upd_same), sz _ _ (t9 _ _ upd_same), my3⟩
        rcases List.mem_cons.mp hx with rfl | hx
        · exact ⟨r4, a4, c4, qm4, qy4, rfl, sz _ _ (t13 _ _ upd_same), sz _ _ (t11 _ _ upd_same), sz _ _ (t12 _ _ upd_same), my4⟩
        · cases hx)
      refine ⟨_, rfl, _, _, rfl, rfl, ⟨by decide, by decide⟩, _, _, rfl, rfl, md, l3, _, _, _, rfl, rfl, SqL.of upd_same, hx, ?_⟩
      refine ⟨r, _, rfl, SqT.of er, rfl, _, _, rfl, _, _, rfl, rfl, ?_⟩
      exact fin _ _ _ _ _ a c m y _ my (b1.trans (But.same (t0.trans sz))) (d1.same (t0.trans sz) (by omega)) ea ec
    · refine ⟨_, rfl, _, _, rfl, rfl, ⟨by decide, by decide⟩, _, _, rfl, rfl, md, _, _, rfl, rfl, _, rfl, _, _, rfl, rfl, ⟨by decide, by decide⟩, _, _, rfl, rfl, md, _, _, rfl, rfl, _, rfl, _, _, rfl, rfl, ⟨by decide, by decide⟩, _, _, rfl, rfl, md, _, _, rfl, rfl, (by show 5 ≤ sizeLine; decide), fun p hp => ?_⟩
      have h1 := Int.emod_nonneg (v / 400) (show (5 : Int) ≠ 0 by decide)
      have h2 := Int.emod_lt_of_pos (v / 400) (show (0 : Int) < 5 by decide)
      obtain ⟨z, hz, i, rfl, i0, i1⟩ := pick (P := fun x => ∃ i : Int, x = V.int i ∧ 1 ≤ i ∧ i ≤ 32) (xs := [.int (1 + v / 8 % 4), .int (2 + v / 8 % 30), .int (28 + v / 8 % 5), .int 30, .int 30]) h1 h2 (by
        intro x hx
        rcases List.mem_cons.mp hx with rfl | hx
        · exact ⟨_, rfl, by omega, by omega⟩
        rcases List.mem_cons.mp hx with rfl | hx
        · exact ⟨_, rfl, by omega, by omega⟩
        rcases List.mem_cons.mp hx with rfl | hx
        · exact ⟨_, rfl, by omega, by omega⟩
        rcases List.mem_cons.mp hx with rfl | hx
        · exact ⟨_, rfl, by omega, by omega⟩
        rcases List.mem_cons.mp hx with rfl | hx
        · exact ⟨_, rfl, by omega, by omega⟩
        · cases hx)
      refine ⟨_, rfl, _, _, rfl, rfl, ⟨by decide, by decide⟩, _, _, rfl, rfl, md, p, _, _, _, rfl, rfl, SqL.of upd_same, hz, ?_⟩
      refine ⟨_, rfl, l, n + 1, rfl, d1.new hp, by omega, fun a2 H2 sq s0 s1 zs b2 d2 e2 => ?_⟩
      refine ⟨_, rfl, l, n + 3, rfl, d2, by omega, fun a3 H3 rq r0 r1 zr b3 d3 e3 => ?_⟩
      have b13 : But l H H3 := ((b1.upd hp).trans b2).trans b3
      have e2' : Tp H3 a2 sq := e2.but b3 d2
      have p6 : (2 : Int) ^ 6 = 64 := by decide
      have p10 : (2 : Int) ^ 10 = 1024 := by decide
      have z1 : Rz 6 ((i - 1 : Int) : Rat) := Rz.int (n := 6) (Sz.of (by omega) (by omega)) (by decide)
      have z12 : Rz 10 ((12 * i : Int) : Rat) := Rz.int (n := 10) (Sz.of (by omega) (by omega)) (by decide)
      have z121 : Rz 10 ((12 * i + 1 : Int) : Rat) := Rz.int (n := 10) (Sz.of (by omega) (by omega)) (by decide)
      have zsw : Rz 25 (sq * ((i - 1 : Int) : Rat)) := zs.mul z1 (by decide)
      have zp : Rz 36 (((12 * i + 1 : Int) : Rat) + sq * ((i - 1 : Int) : Rat)) := z121.add zsw (by decide)
      have z13 : Rz 4 (Rat.divInt 1 13) := Rz.divInt (szi 1) (szi 13) (by decide)
      have zm : Rz 60 ((((12 * i + 1 : Int) : Rat) + sq * ((i - 1 : Int) : Rat)) * Rat.divInt 1 13) := zp.mul z13 (by decide)
      have zrs : Rz 37 (rq * sq) := zr.mul zs (by decide)
      have zrw : Rz 44 (rq * sq * ((i - 1 : Int) : Rat)) := zrs.mul z1 (by decide)
      have zy : Rz 60 (((12 * i : Int) : Rat) + rq * sq * ((i - 1 : Int) : Rat)) := z12.add zrw (by decide)
      refine ⟨_, rfl, _, _, rfl, rfl, .inl ⟨by decide, by decide⟩, _, _, rfl, rfl, (by show 2 ≤ sizeLine; decide), fun t1 n1 => ?_⟩
      refine ⟨_, rfl, _, rfl, _, _, rfl, rfl, (by show 2 ≤ sizeLine; decide), fun t2 n2 => ?_⟩
      have u1 := Same.new (o := .tup [.int (12 * i + 1), .int 1]) n1
      have u2 := Same.new (o := .tup [.int (i - 1), .int 1]) n2
      refine ⟨a2, t2, sq, _, rfl, ((e2'.same u1).same u2).tq (zs.mono (by decide)), int_div (i - 1) (z1.1.mono (by decide)) (by decide), fun t3 H4 n3 u3 e4 => ?_⟩
      refine ⟨t1, t3, _, _, rfl, ((int_div (12 * i + 1) (z121.1.mono (by decide)) (by decide)).same u2).same u3, e4.tq (zsw.mono (by decide)), fun t4 H5 n4 u4 e5 => ?_⟩
      refine ⟨(by show 2 ≤ sizeLine; decide), fun t5 n5 => ?_⟩
      have u5 := Same.new (o := .tup [.int 1, .int 13]) n5
      refine ⟨t4, t5, _, Rat.divInt 1 13, rfl, (e5.same u5).tq (zp.mono (by decide)), ⟨1, 13, upd_same, by decide, rfl, szi 1 (Nat.one_lt_two_pow (by decide)), (szi (n := 4) 13).mono (by decide)⟩, fun t6 H6 n6 u6 e6 => ?_⟩
      have v16 : Same H3 H6 := u1.trans (u2.trans (u3.trans (u4.trans (u5.trans u6))))
      refine ⟨_, rfl, _, _, rfl, rfl, .inl ⟨by decide, by decide⟩, (by show 2 ≤ sizeLine; decide), fun t7 n7 => ?_⟩
      have u7 := Same.new (o := .tup [.int (12 * i), .int 1]) n7
      refine ⟨_, rfl, _, rfl, a3, a2, rq, sq, rfl, ((e3.same v16).same u7).tq (zr.mono (by decide)), ((e2'.same v16).same u7).tq (zs.mono (by decide)), fun t8 H8 n8 u8 e8 => ?_⟩
      refine ⟨_, rfl, _, _, rfl, rfl, (by show 2 ≤ sizeLine; decide), fun t9 n9 => ?_⟩
      have u9 := Same.new (o := .tup [.int (i - 1), .int 1]) n9
      refine ⟨t8, t9, _, _, rfl, (e8.same u9).tq (zrs.mono (by decide)), int_div (i - 1) (z1.1.mono (by decide)) (by decide), fun t10 H10 n10 u10 e10 => ?_⟩
      refine ⟨t7, t10, _, _, rfl, ((int_div (12 * i) (z12.1.mono (by decide)) (by decide)).same (u8.trans u9)).same u10, e10.tq (zrw.mono (by decide)), fun t11 H11 n11 u11 e11 => ?_⟩
      have v6 : Same H6 H11 := u7.trans (u8.trans (u9.trans (u10.trans u11)))
      exact fin _ _ _ _ _ t6 t11 _ _ H11 ⟨fit_drawn i0 s0 s1 r0 r1, zm, zy⟩ (b13.trans (But.same (v16.trans v6))) (d3.same (v16.trans v6) (by omega)) (e6.same v6) e11
end
/-! ### calendars made, the second way -/
def gC4 {α : Type} : List α → List α → List α → List α := fun us _ ws => us ++ (match ws with | [a, b, c, d] => [d, c, b, a] | _ => [])
def gC2 {α : Type} : List α → List α → List α → List α := fun us _ ws => us ++ ws
theorem gC4_rel {vs ds zs : List V} {us its ws : List Value} (h : Vals vs us) (_ : Vals ds its) (k : Vals zs ws) : Vals (gC4 vs ds zs) (gC4 us its ws) := by
  refine h.append ?_
  cases k with
  | nil => exact .nil
  | cons a k => cases k with
    | nil => exact .nil
    | cons b k => cases k with
      | nil => exact .nil
      | cons c k => cases k with
        | nil => exact .nil
        | cons d k => cases k with
          | nil => exact .cons d (.cons c (.cons b (.cons a .nil)))
          | cons e k => exact .nil
theorem gC2_rel {vs ds zs : List V} {us its ws : List Value} (h : Vals vs us) (_ : Vals ds its) (k : Vals zs ws) : Vals (gC2 vs ds zs) (gC2 us its ws) := h.append k
theorem kb_Calendar_0_mark_moon_year_month : Kd "Calendar.__init__" s_Calendar_init 2 1 ["mark", "moon", "year", "month"] ["self", "month", "year", "moon", "mark"] gC4 :=
  ⟨fun _ _ _ _ _ _ _ us its ws hu hi hw => match us, hu, its, hi, ws, hw with | [_], _, [_, _], _, [_, _, _, _], _ => ⟨_, rfl, rfl⟩, gC4_rel⟩
theorem kb_Calendar_2_moon_mark : Kd "Calendar.__init__" s_Calendar_init 2 3 ["moon", "mark"] ["self", "month", "year", "moon", "mark"] gC2 :=
  ⟨fun _ _ _ _ _ _ _ us its ws hu hi hw => match us, hu, its, hi, ws, hw with | [_, _, _], _, [_, _], _, [_, _], _ => ⟨_, rfl, rfl⟩, gC2_rel⟩
theorem bd_Calendar4 : Bd1 "__init__" "Calendar.__init__" s_Calendar_init ["self", "month", "year", "moon", "mark"] 5 2 2 := fun _ _ _ _ _ _ _ us its hu hi => match us, hu, its, hi with | [_, _, _, _, _], _, [_, _], _ => ⟨_, rfl, rfl⟩
theorem made_ca {C Cc : Addr} {H : Hp} {R : Addr → Hp → Prop} {E : XK} {v u x z : V} {m y o k : Rat} (hv : Rv C H v m) (hu : Rv C H u y) (hx : Mv C H x o) (hz : Mv C H z k) (g : Good m y o k) (h : ∀ p H', H p = none → Same H H' → Cl C Cc H' p m y o k → R p H') :
    ∀ a dx, H a = none → H dx = none → dx ≠ a → spCaI C Cc [.ref a, v, u, x, z] (L2.upd (L2.upd H dx (.own a)) a (.ins Cc dx [])) (fun r H2 => r = .non ∧ R a H2) E := by
  intro a dx ha hd ne
  have s0 : Same H (L2.upd (L2.upd H dx (.own a)) a (.ins Cc dx [])) := Same.upd (Same.new hd) (by rw [upd_ne ne.symm]; exact ha)
  refine ⟨a, dx, v, u, x, z, m, y, o, k, rfl, upd_same, hv.same s0, hu.same s0, hx.same s0, hz.same s0, g, fun H' b hc => ⟨rfl, ?_⟩⟩
  exact h a H' ha (fun c w e => b c w (ne_of_none e ha) (s0 c w e)) hc
def spMade (C Cc : Addr) : Sp := fun vs H Q _ => ∃ (r : Addr) (i : Int) (m y o k : Rat), vs = [.ref r, .int i] ∧ Fo H r m y o k ∧ Good m y o k ∧ ∀ p H', H p = none → Same H H' → Cl C Cc H' p m y o k → Q (.ref p) H'
theorem Sh.mv {C p : Addr} {H : Hp} {q : Rat} (h : Sh C H p q) : Mv C H (.ref p) q := .inr h.rv
/-- a comprehension's turn without a test -/
theorem yes {σ : L2.St} {H : Hp} {A B : Hp → Prop} (h : A H) : tYes σ H fun b H3 => if b = true then A H3 else B H3 := by
  show if true = true then A H else B H
  rw [if_pos rfl]
  exact h
/-- what the law's four hold, one by one -/
theorem four_at {H : Hp} {r a b c d : Addr} {m y o k : Rat} (g : Good m y o k) (h1 : Tp H a m) (h2 : Tp H b y) (h3 : Tp H c o) (h4 : Tp H d k) {i : Nat} {x : V} (hi : [V.ref a, V.ref b, V.ref c, V.ref d][i]? = some x) : ∃ (t : Addr) (q : Rat), x = V.ref t ∧ [m, y, o, k][i]? = some q ∧ Tp H t q ∧ Rz 70 q := by
  match i, hi with
  | 0, hi => cases hi; exact ⟨a, m, rfl, rfl, h1, g.zm⟩
  | 1, hi => cases hi; exact ⟨b, y, rfl, rfl, h2, g.zy⟩
  | 2, hi => cases hi; exact ⟨c, o, rfl, rfl, h3, g.zo⟩
  | 3, hi => cases hi; exact ⟨d, k, rfl, rfl, h4, g.zk⟩
  | j + 4, hi => simp at hi
section
variable {P : Program} {w : World} {K : PySem.W.Frag} {mg : Str → Option Value} {base : Heap} {C Cc : Addr}
abbrev TE_l_made1 (C : Addr) : TE := tMake C (spShI C) (([.int 1] : List V).drop 1) E0 (tCons (tVar 6) (tCons (tVar 7) tNil))
theorem ok_lmade2 (D : Df K mg "_law_made" s_l_made []) (f_Share : Ci P w K mg base CX0 2 "Share" C "Share.__init__" s_Share_init [.int 1] ["self", "top", "bottom"] (spShI C)) (f_Calendar : Ci P w K mg base CX0 8 "Calendar" Cc "Calendar.__init__" s_Calendar_init [.non, .non] ["self", "month", "year", "moon", "mark"] (spCaI C Cc)) : Ca P w K mg base CX0 10 "_law_made" s_l_made [] ["_law_four_here", "_law_way"] (spMade C Cc) := by
  refine ca0 (k := 9) D c_l_made (fun vs H Q E h => ?_) fun f cdv A outer s H vs Q E hr h => ?_
  · obtain ⟨r, i, m, y, o, k, rfl, _⟩ := h
    rfl
  · obtain ⟨r, i, m, y, o, k, rfl, fo, g, q⟩ := h
    obtain ⟨a, b, c, d, e, h1, h2, h3, h4⟩ := id fo
    refine ⟨_, (pss_cons (ps_asg (pe_lc (own := [("_law_top", 6), ("_law_bottom", 7)]) (g := gTup K 2 (gCons (gName 6) (gCons (gName 7) gNil))) (tt := tYes) (te := TE_l_made1 C) rfl c_l_made.nd (pi_tup (pv 0)) (blkOk_by (N := ["_law_four_here", "_law_way", "_law_lune", "_law_sun", "_law_come", "_law_begun", "_law_top", "_law_bottom"]) (sc := defScope s_l_made) (by decide +kernel)) (fun _ _ _ _ _ => (pg_tup rfl (pgs_cons (pg_name (i := 6) c_l_made.nd rfl (.inl rfl)) (pgs_cons (pg_name (i := 7) c_l_made.nd rfl (.inl rfl)) pgs_nil)))) (fun _ _ _ _ _ => by exact pts_nil) (fun _ _ _ _ _ => by exact (pe_ci f_Share bd_Share2 (by decide) rfl hr (by decide) pass0 rfl (pa_cons (pv 6) (pa_cons (pv 7) pa_nil))))) (pg_unl rfl (pgs_cons (pg_name (i := 2) c_l_made.nd rfl (.inl rfl)) (pgs_cons (pg_name (i := 3) c_l_made.nd rfl (.inl rfl)) (pgs_cons (pg_name (i := 4) c_l_made.nd rfl (.inl rfl)) (pgs_cons (pg_name (i := 5) c_l_made.nd rfl (.inl rfl)) pgs_nil))))))
      (pss_cons (ps_if (pt_cmpR op_eq (pe_op op_mod (pv 1) pe_int) pe_int (nomark _)) (pss_one (ps_ret (pe_ci f_Calendar bd_Calendar4 (by decide) rfl hr (by decide) pass0 rfl (pa_cons (pv 2) (pa_cons (pv 3) (pa_cons (pv 4) (pa_cons (pv 5) pa_nil))))))) pss_nil)
      (pss_cons (ps_if (pt_cmpR op_eq (pe_op op_mod (pv 1) pe_int) pe_int (nomark _)) (pss_one (ps_ret (pe_ciK f_Calendar kb_Calendar_2_moon_mark (by decide) hr (by decide) pass0 rfl (pa_cons (pv 2) (pa_cons (pv 3) pa_nil)) (pk_cons (pv 4) (pk_cons (pv 5) pk_nil))))) pss_nil)
      (pss_one (ps_ret (pe_ciK0 f_Calendar kb_Calendar_0_mark_moon_year_month (by decide) hr (by decide) pass0 rfl (pk_cons (pv 5) (pk_cons (pv 4) (pk_cons (pv 3) (pk_cons (pv 2) pk_nil)))))))))), ?_⟩
    refine ⟨_, rfl, r, rfl, ⟨_, SqT.of e⟩, fun D0 hD => ?_⟩
    refine lc_all (walk_tup (K := K) (a := r) (xs := [.ref a, .ref b, .ref c, .ref d])) yAt_same hD (by show 4 < sizeLine; decide) (fun j v H' => ∃ (p : Addr) (x : Rat), v = .ref p ∧ [m, y, o, k][j]? = some x ∧ Sh C H' p x)
      (fun j v H1 H2 s ⟨p, x, e1, e2, e3⟩ => ⟨p, x, e1, e2, e3.same s⟩) (fun j v H1 acc acc' hacc ⟨p, x, e1, e2, dx, e3⟩ => ⟨p, x, e1, e2, dx, ?_⟩) (fun H' s' => SqT.of (s' _ _ e)) ?_ ?_
    · rw [upd_ne (ne_of e3 hacc (by intro z; cases z))]
      exact e3
    · rintro i x H1 H2 R hi s1 ⟨rfl, hx⟩ k1
      obtain ⟨t, xq, rfl, hq, ht, zq⟩ := four_at (r := r) g (h1.same s1) (h2.same s1) (h3.same s1) (h4.same s1) hx
      refine ⟨t, _, rfl, SqT.of ht, rfl, _, _, rfl, _, _, rfl, rfl, rfl, ?_⟩
      refine ⟨_, rfl, _, rfl, ?_⟩
      refine made_sh (Int.ne_of_gt (den_pos xq)) (zq.1.mono (by decide)) (zq.2.mono (by decide)) fun p H3 np s3 h3' => ?_
      rw [Rat.num_divInt_den] at h3'
      exact k1 _ H3 s3 ⟨p, xq, rfl, hq, h3'⟩
    · intro us H' hl hD' hs hp
      match us, hl with
      | [u1, u2, u3, u4], _ =>
        obtain ⟨p1, x1, rfl, e1, g1⟩ := hp 0 _ rfl
        obtain ⟨p2, x2, rfl, e2, g2⟩ := hp 1 _ rfl
        obtain ⟨p3, x3, rfl, e3, g3⟩ := hp 2 _ rfl
        obtain ⟨p4, x4, rfl, e4, g4⟩ := hp 3 _ rfl
        cases e1
        cases e2
        cases e3
        cases e4
        refine ⟨D0, _, rfl, SqL.of hD', rfl, _, _, rfl, _, _, rfl, _, _, rfl, _, _, rfl, rfl, ?_⟩
        have fin : ∀ a dx, H' a = none → H' dx = none → dx ≠ a → spCaI C Cc [.ref a, .ref p1, .ref p2, .ref p3, .ref p4] (L2.upd (L2.upd H' dx (.own a)) a (.ins Cc dx [])) (fun r H2 => r = .non ∧ Q (.ref a) H2) E0 :=
          made_ca g1.rv g2.rv g3.mv g4.mv g fun p H2 np s2 hc => q p H2 (hs.free np) (hs.trans s2) hc
        refine ⟨_, rfl, _, _, rfl, rfl, md, rfl, _, rfl, ite2 (fun _ => ?_) (fun _ => ?_)⟩
        · exact ⟨_, rfl, _, rfl, _, rfl, _, rfl, fin⟩
        refine ⟨_, rfl, _, _, rfl, rfl, md, rfl, _, rfl, ite2 (fun _ => ?_) (fun _ => ?_)⟩
        · exact ⟨_, rfl, _, rfl, _, rfl, _, rfl, rfl, rfl, fin⟩
        · exact ⟨_, rfl, _, rfl, _, rfl, _, rfl, rfl, rfl, fin⟩
end
/-- the law's four and the calendar made of them, of these fractions -/
structure Pr (C Cc : Addr) (H : Hp) (r p : Addr) (m y o k : Rat) : Prop where
  fo : Fo H r m y o k
  cl : Cl C Cc H p m y o k
  g : Good m y o k
theorem Pr.same {C Cc : Addr} {H H1 : Hp} {r p : Addr} {m y o k : Rat} (h : Pr C Cc H r p m y o k) (s : Same H H1) : Pr C Cc H1 r p m y o k := ⟨h.fo.same s, h.cl.same s, h.g⟩
theorem Pr.but {C Cc l : Addr} {H H1 : Hp} {r p : Addr} {n : Nat} {m y o k : Rat} (h : Pr C Cc H r p m y o k) (b : But l H H1) (d : Dr H l n) : Pr C Cc H1 r p m y o k := by
  refine ⟨h.fo.but b d, ?_, h.g⟩
  obtain ⟨dx, a, b', c, d', e, ⟨x1, h1⟩, ⟨x2, h2⟩, ⟨x3, h3⟩, ⟨x4, h4⟩⟩ := h.cl
  exact ⟨dx, a, b', c, d', b.ins d e, ⟨x1, b.ins d h1⟩, ⟨x2, b.ins d h2⟩, ⟨x3, b.ins d h3⟩, ⟨x4, b.ins d h4⟩⟩
/-! ### the law -/
def spLaw (K : PySem.W.Frag) : Sp := fun vs H Q _ => ∃ (a : Addr) (ns : List Int), vs = [.ref a] ∧ SqL K H a (ns.map V.int) ∧ ns.length ≤ 63 ∧ ∀ H', Q (.bl true) H'
theorem cut_ints {ns : List Int} {lo hi : Option Int} {j : Nat} {x : V} (h : (cutV (ns.map V.int) lo hi ++ [V.int 0])[j]? = some x) : ∃ c : Int, x = .int c := by
  have hx : x ∈ cutV (ns.map V.int) lo hi ++ [V.int 0] := List.mem_of_getElem? h
  rcases List.mem_append.mp hx with hx | hx
  · have h1 := List.mem_of_mem_take hx
    have h2 := List.mem_of_mem_drop h1
    obtain ⟨c, _, e⟩ := List.mem_map.mp h2
    exact ⟨c, e.symm⟩
  · exact ⟨0, List.mem_singleton.mp hx⟩
theorem cut_len {ns : List Int} {lo hi : Option Int} (h : ns.length ≤ 63) : (cutV (ns.map V.int) lo hi).length + ([V.int 0] : List V).length ≤ sizeLine := by
  have h1 := cutV_length (ns.map V.int) lo hi
  rw [List.length_map] at h1
  have h2 : ([V.int 0] : List V).length = 1 := rfl
  exact Nat.le_trans (show _ ≤ 64 by omega) (by decide)
/-! ### what the law draws beside a calendar -/
theorem by12 (y : Rat) : y * Rat.divInt 1 12 = y / 12 := by
  rw [Rat.divInt_eq_div]
  grind
theorem by1b (t : Rat) (b : Int) : t * Rat.divInt 1 b = t * (1 / (b : Rat)) := by
  rw [Rat.divInt_eq_div]
  rfl
theorem tq_pair {H : Hp} {t : Addr} {n : Nat} (i b : Int) (hb : b ≠ 0) (hi : Sz n i) (zb : Sz n b) : Tq (L2.upd H t (.tup [.int i, .int b])) t n (Rat.divInt i b) := ⟨i, b, upd_same, hb, rfl, hi, zb⟩
theorem zconst {n : Nat} (i : Int) (h : i.natAbs < 2 ^ 5 := by decide) (hn : 5 ≤ n := by decide) : Sz n i := Nat.lt_of_lt_of_le h (Nat.pow_le_pow_right (by decide) hn)
def spDown : Sp := fun vs H Q _ => ∃ (a : Addr) (b : Int) (q : Rat), vs = [.ref a, .int b] ∧ Tp H a q ∧ 0 < b ∧ Rz 1500 q ∧ Sz 200 b ∧ ∀ r H', H r = none → Same H H' → Tp H' r (laF q b) → Q (.ref r) H'
def spWithin : Sp := fun vs H Q _ => ∃ (l a : Addr) (b : Int) (n : Nat) (q : Rat), vs = [.ref l, .ref a, .int b] ∧ Dr H l n ∧ n ≤ 1000 ∧ Tp H a q ∧ 0 < b ∧ Rz 100 q ∧ Sz 80 b ∧ ∀ r H' t, 0 ≤ t → t < 1 → Rz 20 t → But l H H' → Dr H' l (n + 2) → Tp H' r (laF q b + t * (1 / (b : Rat))) → Q (.ref r) H'
def spFits55 : Sp := fun vs H Q _ => ∃ (r : Addr) (m y o k : Rat), vs = [.ref r] ∧ Fo H r m y o k ∧ ∀ (b : Bool) H', Same H H' → (b = true → Rz 67 m ∧ Rz 67 y ∧ Rz 67 o ∧ Rz 67 k) → Q (.bl b) H'
abbrev TE_l_fits1 : TE := tCB (fun xs H Q => ∃ i j, xs = [.int i, .int j] ∧ Q (.int (if j > i then j else i)) H) (tCons (tCB (fun xs H Q => ∃ i, xs = [.int i] ∧ Q (.int (if i < 0 then -i else i)) H) (tCons (tVar 1) tNil)) (tCons (tVar 2) tNil))
theorem fo_at {H : Hp} {a b c d : Addr} {m y o k : Rat} (h1 : Tp H a m) (h2 : Tp H b y) (h3 : Tp H c o) (h4 : Tp H d k) {i : Nat} {x : V} (hi : [V.ref a, V.ref b, V.ref c, V.ref d][i]? = some x) : ∃ (t : Addr) (q : Rat), x = V.ref t ∧ [m, y, o, k][i]? = some q ∧ Tp H t q := by
  match i, hi with
  | 0, hi => cases hi; exact ⟨a, m, rfl, rfl, h1⟩
  | 1, hi => cases hi; exact ⟨b, y, rfl, rfl, h2⟩
  | 2, hi => cases hi; exact ⟨c, o, rfl, rfl, h3⟩
  | 3, hi => cases hi; exact ⟨d, k, rfl, rfl, h4⟩
  | j + 4, hi => simp at hi
theorem max_ex : ∀ ns : List Int, 0 < ns.length → ∃ m, m ∈ ns ∧ ∀ y ∈ ns, y ≤ m
  | [x], _ => ⟨x, List.mem_singleton.mpr rfl, fun y hy => by rw [List.mem_singleton.mp hy]; exact Int.le_refl _⟩
  | x :: z :: zs, _ => by
    obtain ⟨m, h1, h2⟩ := max_ex (z :: zs) (by simp)
    by_cases h : x ≤ m
    · exact ⟨m, List.mem_cons_of_mem _ h1, fun y hy => by
        rcases List.mem_cons.mp hy with rfl | hy
        · exact h
        · exact h2 y hy⟩
    · exact ⟨x, List.mem_cons_self, fun y hy => by
        rcases List.mem_cons.mp hy with rfl | hy
        · exact Int.le_refl _
        · have := h2 y hy
          omega⟩
section
variable {P : Program} {w : World} {K : PySem.W.Frag} {mg : Str → Option Value} {base : Heap}
theorem ok_ldown (D : Df K mg "_law_down" s_l_down []) (f_l_low : Ca P w K mg base CX0 1 "_law_low" s_l_low [] ["_law_top", "_law_bottom"] spLow) : Ca P w K mg base CX0 2 "_law_down" s_l_down [] ["_law_fraction", "_law_bottom"] spDown := by
  refine ca0 (k := 1) D c_l_down (fun vs H Q E h => ?_) fun f cdv A outer s H vs Q E hr h => ?_
  · obtain ⟨a, b, q, rfl, _⟩ := h
    rfl
  · obtain ⟨a, b, x, rfl, ha, hb, zx, zb, q⟩ := h
    refine ⟨_, (pss_one (ps_ret (pe_ca f_l_low b_l_low hr (by decide) pass0 rfl (pa_cons (pe_op op_fdivA (pe_op op_mulA (pe_ix ix_tup (pv 0) pe_int (fun _ _ => rfl)) (pv 1)) (pe_ix ix_tup (pv 0) pe_int (fun _ _ => rfl))) (pa_cons (pv 1) pa_nil))))), ?_⟩
    have ha' := SqT.of (K := K) ha
    have hd := den_pos x
    have e : (x.num * b).fdiv (x.den : Int) = x.num * b / x.den := Int.fdiv_eq_ediv_of_nonneg _ (by omega)
    have zt : Sz 1800 (x.num * b / (x.den : Int)) := by
      have := Int.natAbs_ediv_le_natAbs (x.num * b) (x.den : Int)
      exact Nat.lt_of_le_of_lt this ((zx.1.mul zb).mono (by decide))
    refine ⟨_, rfl, a, _, _, _, rfl, rfl, ha', rfl, _, rfl, _, _, rfl, rfl, ⟨zx.1.mono (by decide), zb.mono (by decide)⟩, _, rfl, a, _, _, _, rfl, rfl, ha', rfl, _, _, rfl, rfl, ⟨by omega, zx.2.mono (by decide)⟩, _, rfl, _, b, rfl, by omega, ?_, zb.mono (by decide), fun r hr' => ?_⟩
    · rw [e]
      exact zt.mono (by decide)
    · refine q r _ hr' (Same.new hr') ?_
      rw [e, la_low x hb]
      exact upd_same
theorem ok_lwithin (D : Df K mg "_law_within" s_l_within []) (f_l_plus : Ca P w K mg base CX0 2 "_law_plus" s_l_plus [] ["_law_one", "_law_two"] (spT2 fun a b => a + b)) (f_l_by : Ca P w K mg base CX0 2 "_law_by" s_l_by [] ["_law_one", "_law_two"] (spT2 fun a b => a * b)) (f_l_part : Ca P w K mg base CX0 2 "_law_part" s_l_part [] ["_law_draws_here"] spPart) (f_l_down : Ca P w K mg base CX0 2 "_law_down" s_l_down [] ["_law_fraction", "_law_bottom"] spDown) : Ca P w K mg base CX0 3 "_law_within" s_l_within [] ["_law_draws_here", "_law_fraction", "_law_bottom"] spWithin := by
  refine ca0 (k := 2) D c_l_within (fun vs H Q E h => ?_) fun f cdv A outer s H vs Q E hr h => ?_
  · obtain ⟨l, a, b, n, q, rfl, _⟩ := h
    rfl
  · obtain ⟨l, a, b, n, x, rfl, d, hn, ha, hb, zx, zb, q⟩ := h
    refine ⟨_, (pss_cons (ps_set (i := 3) c_l_within.nd rfl (.inl rfl) (pe_ca f_l_down b_l_down hr (by decide) pass0 rfl (pa_cons (pv 1) (pa_cons (pv 2) pa_nil))))
      (pss_cons (ps_set (i := 4) c_l_within.nd rfl (.inl rfl) (pe_ca f_l_part b_l_part hr (by decide) pass0 rfl (pa_cons (pv 0) pa_nil)))
      (C8.pss_cut (ps_if (pt_cmpR op_eq (pe_ix ix_tup (pv 4) pe_int (fun _ _ => rfl)) (pe_ix ix_tup (pv 4) pe_int (fun _ _ => rfl)) (nomark _)) (pss_one (ps_set (i := 4) c_l_within.nd rfl (.inl rfl) (pe_tup (pa_cons pe_int (pa_cons pe_int pa_nil))))) pss_nil)
      (pss_one (ps_ret (pe_ca f_l_plus b_l_plus hr (by decide) pass0 rfl (pa_cons (pv 3) (pa_cons (pe_ca f_l_by b_l_by hr (by decide) pass0 rfl (pa_cons (pv 4) (pa_cons (pe_tup (pa_cons pe_int (pa_cons (pv 2) pa_nil))) pa_nil))) pa_nil)))))))), ?_⟩
    refine ⟨_, rfl, _, rfl, a, b, x, rfl, ha, hb, zx.mono (by decide), zb.mono (by decide), fun t1 H1 nt1 s1 e1 => ?_⟩
    refine ⟨_, rfl, l, n, rfl, d.same s1 (Nat.le_refl _), by omega, fun t2 H2 u u0 u1 zu b2 d2 e2 => ?_⟩
    have e1' := e1.but b2 (d.same s1 (Nat.le_refl _))
    have b02 : But l H H2 := (But.same s1).trans b2
    have zla : Rz 300 (laF x b) := rz_la zx zb (by decide) hb (by decide)
    refine ⟨fun σ' H' => ∃ (t3 : Addr) (t : Rat), σ' = [some (.ref l), some (.ref a), some (.int b), some (.ref t1), some (.ref t3)] ∧ Tp H' t3 t ∧ 0 ≤ t ∧ t < 1 ∧ Rz 20 t ∧ Same H2 H', ?_, ?_⟩
    · refine ⟨_, rfl, t2, _, _, _, rfl, rfl, SqT.of e2, rfl, _, rfl, t2, _, _, _, rfl, rfl, SqT.of e2, rfl, rfl, _, rfl, ?_⟩
      by_cases hu : u.num = (u.den : Int)
      · rw [decide_eq_true (congrArg V.int hu)]
        refine iteT ⟨(by show 2 ≤ sizeLine; decide), fun t3 nt3 => ?_⟩
        exact ⟨t3, 0, rfl, upd_same, Rat.le_refl, by decide, ⟨zconst 0, zconst 1⟩, Same.new nt3⟩
      · rw [decide_eq_false (fun z => hu (V.int.inj z))]
        refine iteF ⟨t2, u, rfl, e2, u0, ?_, zu.mono (by decide), Same.refl _⟩
        refine Rat.not_le.mp fun z => hu ?_
        have : u = 1 := Rat.le_antisymm u1 z
        rw [this]
        rfl
    · rintro σ' H' ⟨t3, t, rfl, e3, t0, t1', zt, s3⟩
      refine ⟨_, rfl, _, rfl, _, rfl, (by show 2 ≤ sizeLine; decide), fun t4 nt4 => ?_⟩
      have s4 := Same.new (o := .tup [.int 1, .int b]) nt4
      have zb' : Rz 100 (Rat.divInt 1 b) := Rz.divInt (zconst 1) (zb.mono (by decide)) (by decide)
      have zp : Rz 150 (t * Rat.divInt 1 b) := Rz.mul zt zb' (by decide)
      refine ⟨t3, t4, t, _, rfl, (e3.same s4).tq (zt.mono (by decide)), tq_pair 1 b (by omega) (zconst 1) (zb.mono (by decide)), fun t5 H5 nt5 s5 e5 => ?_⟩
      have s35 := s3.trans (s4.trans s5)
      refine ⟨t1, t5, _, _, rfl, (e1'.same s35).tq (zla.mono (by decide)), e5.tq (zp.mono (by decide)), fun r H6 nr s6 e6 => ?_⟩
      have e6 : Tp H6 r (laF x b + t * Rat.divInt 1 b) := e6
      rw [by1b] at e6
      exact q r H6 t t0 t1' zt (b02.trans (But.same (s35.trans s6))) ((d2.same (s35.trans s6) (Nat.le_refl _)).mono (by omega)) e6
theorem ok_lfits (D : Df K mg "_law_fits" s_l_fits []) (g_max : mg "max" = none) (g_abs : mg "abs" = none) : Ca P w K mg base CX0 1 "_law_fits" s_l_fits [] ["_law_four_here"] spFits55 := by
  refine ca0 (k := 0) D c_l_fits (fun vs H Q E h => ?_) fun f cdv A outer s H vs Q E hr h => ?_
  · obtain ⟨r, m, y, o, k, rfl, _⟩ := h
    rfl
  · obtain ⟨r, m, y, o, k, rfl, fo, q⟩ := h
    obtain ⟨a, b, c, d, e, h1, h2, h3, h4⟩ := id fo
    refine ⟨_, (pss_one (ps_ret (pe_cmpR op_lt (pe_callB (cr_max rfl) rfl g_max (by decide +kernel) (pa_cons (pe_lc (own := [("_law_top", 1), ("_law_bottom", 2)]) (g := gTup K 2 (gCons (gName 1) (gCons (gName 2) gNil))) (tt := tYes) (te := TE_l_fits1 ) rfl c_l_fits.nd (pi_tup (pv 0)) (blkOk_by (N := ["_law_four_here", "_law_top", "_law_bottom"]) (sc := defScope s_l_fits) (by decide +kernel)) (fun _ _ _ _ _ => (pg_tup rfl (pgs_cons (pg_name (i := 1) c_l_fits.nd rfl (.inl rfl)) (pgs_cons (pg_name (i := 2) c_l_fits.nd rfl (.inl rfl)) pgs_nil)))) (fun _ _ _ _ _ => by exact pts_nil) (fun _ _ _ _ _ => by exact (pe_callB (call_max2 rfl) rfl g_max (by decide +kernel) (pa_cons (pe_callB call_abs rfl g_abs (by decide +kernel) (pa_cons (pv 1) pa_nil)) (pa_cons (pv 2) pa_nil))))) pa_nil)) (pe_op op_pow pe_int pe_int) (nomark _)))), ?_⟩
    refine ⟨_, rfl, r, rfl, ⟨_, SqT.of e⟩, fun D0 hD => ?_⟩
    refine lc_all (walk_tup (K := K) (a := r) (xs := [.ref a, .ref b, .ref c, .ref d])) yAt_same hD (by show 4 < sizeLine; decide) (fun j v _ => ∃ (i : Int) (x : Rat), v = .int i ∧ [m, y, o, k][j]? = some x ∧ (x.num.natAbs : Int) ≤ i ∧ (x.den : Int) ≤ i) (fun _ _ _ _ _ h => h) (fun _ _ _ _ _ _ h => h) (fun H' s' => SqT.of (s' _ _ e)) ?_ ?_
    · rintro i x H1 H2 R hi s1 ⟨rfl, hx⟩ k1
      obtain ⟨t, xq, rfl, hq, ht⟩ := fo_at (h1.same s1) (h2.same s1) (h3.same s1) (h4.same s1) hx
      refine ⟨t, _, rfl, SqT.of ht, rfl, _, _, rfl, _, _, rfl, rfl, rfl, ?_⟩
      refine ⟨_, rfl, _, rfl, _, rfl, _, _, rfl, k1 _ _ (Same.refl _) ⟨_, xq, rfl, hq, ?_, ?_⟩⟩
      · split <;> split <;> omega
      · split <;> split <;> omega
    · intro us H' hl eD s' hp
      obtain ⟨ns, rfl⟩ : ∃ ns : List Int, us = ns.map V.int := by
        refine ⟨us.map fun v => match v with | .int i => i | _ => 0, ?_⟩
        rw [List.map_map]
        refine (List.map_id us).symm.trans (List.map_congr_left fun v hv => ?_)
        obtain ⟨j, hj⟩ := List.getElem?_of_mem hv
        obtain ⟨i, _, rfl, _⟩ := hp j v hj
        rfl
      rw [List.length_map] at hl
      have hpos : 0 < ns.length := by
        rw [hl]
        show 0 < 4
        decide
      refine ⟨D0, ns, rfl, SqL.of eD, hpos, fun m' hm1 hm2 => ?_⟩
      refine ⟨_, _, rfl, rfl, ⟨by decide, by decide, by decide⟩, _, _, rfl, rfl, q _ H' s' fun hb => ?_⟩
      have hb := of_decide_eq_true hb
      have e20 : (10 : Int) ^ (20 : Int).toNat = 100000000000000000000 := by decide
      have e67 : (2 : Nat) ^ 67 = 147573952589676412928 := by decide
      have all : ∀ (j : Nat) (x : Rat), [m, y, o, k][j]? = some x → j < 4 → Rz 67 x := fun j x hx hj => by
        have hj' : j < ns.length := by
          rw [hl]
          exact hj
        obtain ⟨i, x', e1, e2, e3, e4⟩ := hp j (.int ns[j]) (by rw [List.getElem?_map, List.getElem?_eq_getElem hj']; rfl)
        rw [hx] at e2
        cases e2
        cases e1
        have := hm2 _ (List.getElem_mem hj')
        rw [e20] at hb
        unfold Rz Sz
        rw [e67]
        refine ⟨by omega, by omega⟩
      exact ⟨all 0 m rfl (by decide), all 1 y rfl (by decide), all 2 o rfl (by decide), all 3 k rfl (by decide)⟩
end
/-! ### a calendar alike, as the law draws it -/
def spShf55 : Sp := fun vs H Q _ => ∃ (l r : Addr) (n : Nat) (m y o k : Rat), vs = [.ref l, .ref r] ∧ Dr H l n ∧ n ≤ 500 ∧ Fo H r m y o k ∧ Good m y o k ∧ ∀ r' H' a o' k', Fo H' r' m y o' k' → Good m y o' k' → Mvd m y o k o' k' 0 a 0 → fmF m o' = fmF m o → mkF y k' = mkF y k → But l H H' → Dr H' l (n + 5) → Q (.ref r') H'
section
variable {P : Program} {w : World} {K : PySem.W.Frag} {mg : Str → Option Value} {base : Heap}
theorem ok_lshf (D : Df K mg "_law_shifted" s_l_shifted []) (f_l_plus : Ca P w K mg base CX0 2 "_law_plus" s_l_plus [] ["_law_one", "_law_two"] (spT2 fun a b => a + b)) (f_l_by : Ca P w K mg base CX0 2 "_law_by" s_l_by [] ["_law_one", "_law_two"] (spT2 fun a b => a * b)) (f_l_next : Ca P w K mg base CX0 1 "_law_next" s_l_next [] ["_law_draws_here"] spNext) (g_int : mg "int" = none) (f_l_within : Ca P w K mg base CX0 3 "_law_within" s_l_within [] ["_law_draws_here", "_law_fraction", "_law_bottom"] spWithin) (f_l_fits : Ca P w K mg base CX0 1 "_law_fits" s_l_fits [] ["_law_four_here"] spFits55) : Ca P w K mg base CX0 4 "_law_shifted" s_l_shifted [] ["_law_draws_here", "_law_four_here"] spShf55 := by
  refine ca0 (k := 3) D c_l_shifted (fun vs H Q E h => ?_) fun f cdv A outer s H vs Q E hr h => ?_
  · obtain ⟨l, r, n, m, y, o, k, rfl, _⟩ := h
    rfl
  · obtain ⟨l, r, n, m, y, o, k, rfl, d0, hn, fo, g, q⟩ := h
    obtain ⟨a, b, c, d, e, h1, h2, h3, h4⟩ := id fo
    refine ⟨_, (pss_cons (ps_asg (pv 1) (pg_tup rfl (pgs_cons (pg_name (i := 2) c_l_shifted.nd rfl (.inl rfl)) (pgs_cons (pg_name (i := 3) c_l_shifted.nd rfl (.inl rfl)) (pgs_cons (pg_name (i := 4) c_l_shifted.nd rfl (.inl rfl)) (pgs_cons (pg_name (i := 5) c_l_shifted.nd rfl (.inl rfl)) pgs_nil))))))
      (pss_cons (ps_set (i := 6) c_l_shifted.nd rfl (.inl rfl) (pe_ca f_l_plus b_l_plus hr (by decide) pass0 rfl (pa_cons (pe_ca f_l_within b_l_within hr (by decide) pass0 rfl (pa_cons (pv 0) (pa_cons (pv 4) (pa_cons (pe_ix ix_tup (pv 2) pe_int (fun _ _ => rfl)) pa_nil)))) (pa_cons (pe_ca f_l_by b_l_by hr (by decide) pass0 rfl (pa_cons (pv 2) (pa_cons (pe_tup (pa_cons (pe_op op_sub (pe_op op_mod (pe_ca f_l_next b_l_next hr (by decide) pass0 rfl (pa_cons (pv 0) pa_nil)) pe_int) pe_int) (pa_cons pe_int pa_nil))) pa_nil))) pa_nil))))
      (pss_cons (ps_set (i := 7) c_l_shifted.nd rfl (.inl rfl) (pe_tup (pa_cons (pv 2) (pa_cons (pv 3) (pa_cons (pv 6) (pa_cons (pe_ca f_l_within b_l_within hr (by decide) pass0 rfl (pa_cons (pv 0) (pa_cons (pv 5) (pa_cons (pe_ix ix_tup (pe_ca f_l_by b_l_by hr (by decide) pass0 rfl (pa_cons (pv 3) (pa_cons (pe_tup (pa_cons pe_int (pa_cons pe_int pa_nil))) pa_nil))) pe_int (fun _ _ => rfl)) pa_nil)))) pa_nil))))))
      (pss_one (ps_ret (pe_ix ix_list (pe_lst (pa_cons (pv 1) (pa_cons (pv 7) pa_nil))) (pe_callTy call_int1 rfl g_int (by decide +kernel) (pa_cons (pe_ca f_l_fits b_l_fits hr (by decide) pass0 rfl (pa_cons (pv 7) pa_nil)) pa_nil)) (fun _ _ => rfl))))))), ?_⟩
    refine ⟨_, rfl, r, _, rfl, SqT.of e, rfl, _, _, rfl, _, _, rfl, _, _, rfl, _, _, rfl, rfl, ?_⟩
    refine ⟨_, rfl, _, rfl, _, rfl, a, _, _, _, rfl, rfl, SqT.of h1, rfl, l, c, _, n, o, rfl, d0, by omega, h3, den_pos m, g.zo.mono (by decide), g.zm.2.mono (by decide), fun t1 H1 t t0 tl zt b1 d1 e1 => ?_⟩
    have zw : Rz 320 (laF o (m.den : Int) + t * (1 / ((m.den : Int) : Rat))) := by
      have z1 : Rz 150 (laF o (m.den : Int)) := rz_la g.zo g.zm.2 (by decide) (den_pos m) (by decide)
      have z2 : Rz 75 (1 / ((m.den : Int) : Rat)) := by
        rw [show (1 : Rat) / ((m.den : Int) : Rat) = Rat.divInt 1 (m.den : Int) by rw [Rat.divInt_eq_div]; rfl]
        exact Rz.divInt (zconst 1) (g.zm.2.mono (by decide)) (by decide)
      have z3 : Rz 100 (t * (1 / ((m.den : Int) : Rat))) := Rz.mul zt z2 (by decide)
      exact Rz.add z1 z3 (by decide)
    have h1b := h1.but b1 d0
    refine ⟨_, rfl, _, rfl, l, _, rfl, d1, by omega, fun v H2 v0 v1 b2 d2 => ⟨_, _, rfl, rfl, md, _, _, rfl, rfl, (by show 2 ≤ sizeLine; decide), fun t3 nt3 => ?_⟩⟩
    have s3 := Same.new (o := .tup [.int (v % 41 - 20), .int 1]) nt3
    have d3 := d2.new (o := .tup [.int (v % 41 - 20), .int 1]) nt3
    have zj : Sz 8 (v % 41 - 20) := by
      have := Int.emod_nonneg v (show (41 : Int) ≠ 0 by decide)
      have := Int.emod_lt_of_pos v (show (0 : Int) < 41 by decide)
      exact Sz.of (by omega) (by omega)
    have zmj : Rz 80 (m * ((v % 41 - 20 : Int) : Rat)) := Rz.mul g.zm (Rz.int zj (by decide)) (by decide)
    have h1c := (h1b.but b2 d1).same s3
    have e1c := (e1.but b2 d1).same s3
    refine ⟨a, t3, m, _, rfl, h1c.tq (g.zm.mono (by decide)), int_div _ (zj.mono (by decide)) (by decide), fun t4 H4 nt4 s4 e4 => ?_⟩
    refine ⟨t1, t4, _, _, rfl, (e1c.same s4).tq (zw.mono (by decide)), e4.tq (zmj.mono (by decide)), fun t5 H5 nt5 s5 e5 => ?_⟩
    have e5 : Tp H5 t5 ((laF o (m.den : Int) + t * (1 / ((m.den : Int) : Rat))) + m * ((v % 41 - 20 : Int) : Rat)) := e5
    have zo' : Rz 450 ((laF o (m.den : Int) + t * (1 / ((m.den : Int) : Rat))) + m * ((v % 41 - 20 : Int) : Rat)) := Rz.add zw zmj (by decide)
    have efm : fmF m ((laF o (m.den : Int) + t * (1 / ((m.den : Int) : Rat))) + m * ((v % 41 - 20 : Int) : Rat)) = fmF m o := fm_near t0 tl
    have h55 : ∀ u : Rat, 0 ≤ u → u < 1 → Mvd m y o k ((laF o (m.den : Int) + t * (1 / ((m.den : Int) : Rat))) + m * ((v % 41 - 20 : Int) : Rat)) (laF k ((y / 12).den : Int) + u * (1 / (((y / 12).den : Int) : Rat))) 0 (v % 41 - 20) 0 := fun u u0 u1 => mvd_alike t0 tl u0 u1
    generalize (laF o (m.den : Int) + t * (1 / ((m.den : Int) : Rat))) + m * ((v % 41 - 20 : Int) : Rat) = o' at *
    have s35 := s3.trans (s4.trans s5)
    have b05 : But l H H5 := (b1.trans b2).trans (But.same s35)
    have d5 := d2.same s35 (Nat.le_refl _)
    have keep : ∀ {p : Addr} {x : Rat}, Tp H p x → Tp H5 p x := fun h => h.but b05 d0
    refine ⟨_, rfl, _, rfl, _, rfl, _, rfl, _, rfl, _, rfl, (by show 2 ≤ sizeLine; decide), fun t6 nt6 => ?_⟩
    have s6 := Same.new (o := .tup [.int 1, .int 12]) nt6
    refine ⟨b, t6, y, _, rfl, ((keep h2).same s6).tq (g.zy.mono (by decide)), tq_pair 1 12 (by decide) (zconst 1) (zconst 12), fun t7 H7 nt7 s7 e7 => ?_⟩
    have e7 : Tp H7 t7 (y * Rat.divInt 1 12) := e7
    rw [by12] at e7
    have s67 := s6.trans s7
    have d7 := d5.same s67 (Nat.le_refl _)
    refine ⟨t7, _, _, _, rfl, rfl, SqT.of e7, rfl, l, d, _, _, k, rfl, d7, by omega, (keep h4).same s67, den_pos (y / 12), g.zk.mono (by decide), g.ztw.2.mono (by decide), fun t8 H8 u u0 u1 zu b8 d8 e8 => ?_⟩
    have emk : mkF y (laF k ((y / 12).den : Int) + u * (1 / (((y / 12).den : Int) : Rat))) = mkF y k := la_near (den_ne (y / 12)) u0 u1
    have h55k := h55 u u0 u1
    have zk' : Rz 450 (laF k ((y / 12).den : Int) + u * (1 / (((y / 12).den : Int) : Rat))) := by
      have z1 : Rz 170 (laF k ((y / 12).den : Int)) := rz_la g.zk g.ztw.2 (by decide) (den_pos (y / 12)) (by decide)
      have z2 : Rz 85 (1 / (((y / 12).den : Int) : Rat)) := by
        rw [show (1 : Rat) / (((y / 12).den : Int) : Rat) = Rat.divInt 1 ((y / 12).den : Int) by rw [Rat.divInt_eq_div]; rfl]
        exact Rz.divInt (zconst 1) (g.ztw.2.mono (by decide)) (by decide)
      have z3 : Rz 120 (u * (1 / (((y / 12).den : Int) : Rat))) := Rz.mul zu z2 (by decide)
      exact Rz.add z1 z3 (by decide)
    generalize laF k ((y / 12).den : Int) + u * (1 / (((y / 12).den : Int) : Rat)) = k' at *
    refine ⟨(by show 4 ≤ sizeLine; decide), fun r9 nr9 => ?_⟩
    have s9 := Same.new (o := .tup [.ref a, .ref b, .ref t5, .ref t8]) nr9
    have keep8 : ∀ {p : Addr} {x : Rat}, Tp H5 p x → Tp H8 p x := fun h => (h.same s67).but b8 d7
    have fo9 : Fo (L2.upd H8 r9 (.tup [.ref a, .ref b, .ref t5, .ref t8])) r9 m y o' k' := ⟨a, b, t5, t8, upd_same, (keep8 (keep h1)).same s9, (keep8 (keep h2)).same s9, (keep8 e5).same s9, e8.same s9⟩
    have fo0 : Fo (L2.upd H8 r9 (.tup [.ref a, .ref b, .ref t5, .ref t8])) r m y o k := (((fo.but b05 d0).same s67).but b8 d7).same s9
    have b09 : But l H (L2.upd H8 r9 (.tup [.ref a, .ref b, .ref t5, .ref t8])) := ((b05.trans (But.same s67)).trans b8).trans (But.same s9)
    have d9 := d8.same s9 (Nat.le_refl _)
    generalize L2.upd H8 r9 _ = H9 at *
    refine ⟨_, rfl, _, rfl, (by show 2 ≤ sizeLine; decide), fun pl npl => ?_⟩
    have s10 := Same.new (o := .lst [.ref r, .ref r9]) npl
    refine ⟨_, rfl, r9, m, y, o', k', rfl, fo9.same s10, fun fb H11 s11 hfb => .inr ⟨fb, rfl, ?_⟩⟩
    have s911 := s10.trans s11
    have hpl := s11 _ _ (upd_same (H := H9) (a := pl) (o := .lst [.ref r, .ref r9]))
    cases fb with
    | true =>
      obtain ⟨_, _, zo2, zk2⟩ := hfb rfl
      exact ⟨pl, _, _, _, rfl, rfl, SqL.of hpl, rfl, q r9 H11 _ o' k' (fo9.same s911) ⟨g.fit, g.zm, g.zy, zo2.mono (by decide), zk2.mono (by decide)⟩ h55k efm emk (b09.trans (But.same s911)) ((d9.same s911 (Nat.le_refl _)).mono (by omega))⟩
    | false => exact ⟨pl, _, _, _, rfl, rfl, SqL.of hpl, rfl, q r H11 _ o k (fo0.same s911) g (mvd_self m y o k) rfl rfl (b09.trans (But.same s911)) ((d9.same s911 (Nat.le_refl _)).mono (by omega))⟩
end
/-! ### years of calendars that tell alike -/
theorem yr_first {m y o k : Rat} (f : Fit m y) (n : Int) : dtY m y o k (fdF m y o k n) = n := by
  have hi : mwF m y o k (12 * n) = maF m o (fdF m y o k n) := (ma_st' (o := o) f.one (mwF m y o k (12 * n))).symm
  unfold dtY
  rw [(nm_with f hi).1]
  omega
theorem bg_first {m y o k : Rat} (f : Fit m y) (n : Int) : bgF m y o k (fdF m y o k n) = true := by
  unfold bgF
  rw [yr_first f]
  exact decide_eq_true rfl
section
variable {m y o k o' k' : Rat} {n : Int}
theorem Mvd.mw (M : Mvd m y o k o' k' 0 n 0) (f : Fit m y) (j : Int) : mwF m y o' k' j = mwF m y o k j - n := by
  unfold mwF
  rw [M.md, M.ma f.pos, Int.add_zero]
theorem Mvd.fd (M : Mvd m y o k o' k' 0 n 0) (f : Fit m y) (a : Int) : fdF m y o' k' a = fdF m y o k a := by
  have h := M.mw f (12 * a)
  unfold mwF at h
  unfold fdF
  rw [h, M.st, Int.add_zero]
  congr 1
  omega
theorem Mvd.yn (M : Mvd m y o k o' k' 0 n 0) (f : Fit m y) (a : Int) : yN m y o' k' a = yN m y o k a := by
  unfold yN
  rw [M.mw f, M.mw f]
  congr 1
  omega
theorem Mvd.yl (M : Mvd m y o k o' k' 0 n 0) (f : Fit m y) (a : Int) : ynL m y o' k' a = ynL m y o k a := by
  unfold ynL
  rw [M.yn f]
  refine List.map_congr_left fun j _ => ?_
  unfold nm2
  rw [M.nmJ f, M.nmO f, M.mw f, Int.sub_zero, show mwF m y o k (12 * a) - n + (j : Nat) + n = mwF m y o k (12 * a) + (j : Nat) by omega]
theorem Mvd.yls (M : Mvd m y o k o' k' 0 n 0) (f : Fit m y) (a : Int) : ylL m y o' k' a = ylL m y o k a := by
  unfold ylL
  rw [M.yn f]
  unfold stp
  refine List.map_congr_left fun j _ => ?_
  rw [M.mw f]
  dsimp only
  rw [M.st, M.st, show mwF m y o k (12 * a) - n + ((j + 1 : Nat) : Int) + n = mwF m y o k (12 * a) + ((j + 1 : Nat) : Int) by omega, show mwF m y o k (12 * a) - n + ((j : Nat) : Int) + n = mwF m y o k (12 * a) + ((j : Nat) : Int) by omega, Int.add_zero, Int.add_zero]
theorem Mvd.oy (M : Mvd m y o k o' k' 0 n 0) (f : Fit m y) (a : Int) (c : Nat) : oyL m y o' k' a c = oyL m y o k a c := by
  unfold oyL
  congr 1
  refine List.filter_congr fun j _ => ?_
  rw [M.yn f]
theorem Mvd.fdd (M : Mvd m y o k o' k' 0 n 0) (d i : Int) : MM.fdd m o' d (i - n) = MM.fdd m o d i := by
  unfold MM.fdd
  rw [M.held, M.st, Int.add_zero, show i - n + n = i by omega]
theorem Mvd.fml (M : Mvd m y o k o' k' 0 n 0) (f : Fit m y) (a b d : Int) (w : Str) : (fmL m y o' k' a b w).map (MM.fdd m o' d) = (fmL m y o k a b w).map (MM.fdd m o d) := by
  unfold fmL
  rw [M.pm f, M.miy f]
  have hh := M.hasM f (pmF m y o k a b - n + 1)
  rw [show pmF m y o k a b - n + 1 + n = pmF m y o k a b + 1 by omega] at hh
  have e1 : pmF m y o k a b - n + 1 = pmF m y o k a b + 1 - n := by omega
  by_cases h1 : isW w "both" = true
  · rw [if_pos h1, if_pos h1]
    by_cases h2 : MM.hasM m y o k (pmF m y o k a b + 1)
    · rw [if_pos h2, if_pos (hh.mpr h2)]
      simp only [List.map_cons, List.map_nil, M.fdd]
    · rw [if_neg h2, if_neg fun z => h2 (hh.mp z)]
      simp only [List.map_cons, List.map_nil, e1, M.fdd]
  · rw [if_neg h1, if_neg h1]
    simp only [List.map_cons, List.map_nil, M.fdd]
theorem Mvd.stl (M : Mvd m y o k o' k' 0 n 0) (f : Fit m y) (a : Int) (c : Nat) : stL m y o k m y o' k' a c = (List.range c).map fun j => fdF m y o k (a + (j : Nat)) := by
  unfold stL
  rw [List.filter_eq_self.mpr]
  intro j _
  have h := bg_first (o := o') (k := k') f (a + (j : Nat))
  rw [M.fd f] at h
  exact h
end
/-! ### years that begin together, as the law asks -/
/-- what a year has -/
structure YrD (Cy : Addr) (H : Hp) (p D1 D2 : Addr) (us : List V) (m y o k : Rat) (a : Int) : Prop where
  yr : Yr Cy H p a (fdF m y o k a) D1 D2 (odV (ynL m y o k a))
  e1 : H D1 = some (.lst us)
  nm : NmB H us (ynL m y o k a)
  e2 : H D2 = some (.lst ((ylL m y o k a).map V.int))
theorem YrD.same {Cy : Addr} {H H1 : Hp} {p D1 D2 : Addr} {us : List V} {m y o k : Rat} {a : Int} (h : YrD Cy H p D1 D2 us m y o k a) (s : Same H H1) : YrD Cy H1 p D1 D2 us m y o k a := by
  obtain ⟨⟨dx, e⟩, h1, h2, h3⟩ := h
  exact ⟨⟨dx, s _ _ e⟩, s _ _ h1, h2.same fun r xs e => s _ _ e, s _ _ h3⟩
theorem made_yr {C Cc Cy : Addr} {H : Hp} {R : Addr → Hp → Prop} {E : XK} {c : Addr} {a : Int} {m y o k : Rat} (hc : Cl C Cc H c m y o k) (g : Good m y o k) (za : Sz 560 a) (h : ∀ p D1 D2 us H', H p = none → Same H H' → D1 ≠ D2 → H D1 = none → H D2 = none → YrD Cy H' p D1 D2 us m y o k a → R p H') :
    ∀ p dx, H p = none → H dx = none → dx ≠ p → spYrI C Cc Cy [.ref p, .ref c, .int a] (L2.upd (L2.upd H dx (.own p)) p (.ins Cy dx [])) (fun r H2 => r = .non ∧ R p H2) E := by
  intro p dx hp hd ne
  have s0 : Same H (L2.upd (L2.upd H dx (.own p)) p (.ins Cy dx [])) := Same.upd (Same.new hd) (by rw [upd_ne ne.symm]; exact hp)
  refine ⟨p, dx, c, a, m, y, o, k, rfl, upd_same, hc.same s0, g, za, fun H' D1 D2 us b hy n1 n2 ne12 e1 nm e2 => ⟨rfl, ?_⟩⟩
  exact h p D1 D2 us H' hp (fun x w e => b x w (ne_of_none e hp) (s0 x w e)) ne12 (s0.free n1) (s0.free n2) ⟨hy, e1, nm, e2⟩
/-! ### Shifted -/
structure SfT (K : PySem.W.Frag) (Cs : Addr) : Prop where
  cl : Cls K Cs
  n1 : NoAttr K Cs "calendar"
  n2 : NoAttr K Cs "rules"
def sfs (p l : Addr) : List (Str × V) := putF "rules" (.ref l) (putF "calendar" (.ref p) [])
theorem nrc : ¬ (("calendar" : Str) = "rules") := by decide +kernel
theorem sf_cal (p l : Addr) : (sfs p l).lookup ("calendar" : Str) = some (.ref p) := by
  unfold sfs
  rw [lookup_putF, if_neg nrc, lookup_putF, if_pos rfl]
theorem sf_rules (p l : Addr) : (sfs p l).lookup ("rules" : Str) = some (.ref l) := by
  unfold sfs
  rw [lookup_putF, if_pos rfl]
theorem sf_no (p l : Addr) {x : Str} (h1 : ¬ (x = ("rules" : Str))) (h2 : ¬ (x = ("calendar" : Str))) : (sfs p l).lookup x = none := by
  unfold sfs
  rw [lookup_putF, if_neg h1, lookup_putF, if_neg h2]
  rfl
/-- f is called with a day d and tells g d, now and later -/
def Rl (P : Program) (w : World) (K : PySem.W.Frag) (mg : Str → Option Value) (base : Heap) (k : Nat) (H : Hp) (f : Addr) (g : Int → Int) : Prop := ∀ H1, Same H H1 → ∀ (d : Int) (Q : VK), Q (.int (g d)) H1 → Doe P w K mg base k f [.int d] H1 Q
theorem Rl.same {P : Program} {w : World} {K : PySem.W.Frag} {mg : Str → Option Value} {base : Heap} {k : Nat} {H H1 : Hp} {f : Addr} {g : Int → Int} (h : Rl P w K mg base k H f g) (s : Same H H1) : Rl P w K mg base k H1 f g := fun H2 s2 => h H2 (s.trans s2)
/-- put off by one rule behind the other -/
def putG (gs : List (Int → Int)) (d : Int) : Int := gs.foldl (fun e g => e + g e) d
theorem putG_snoc (gs : List (Int → Int)) (g : Int → Int) (d : Int) : putG (gs ++ [g]) d = putG gs d + g (putG gs d) := by
  unfold putG
  rw [List.foldl_append]
  rfl
/-- at q a Shifted of the calendar at p with such rules -/
structure Sf (P : Program) (w : World) (K : PySem.W.Frag) (mg : Str → Option Value) (base : Heap) (kk : Nat) (C Cc Cs : Addr) (H : Hp) (q p : Addr) (m y o k : Rat) (fs : List Addr) (gs : List (Int → Int)) : Prop where
  ob : ∃ dx l, H q = some (.ins Cs dx (sfs p l)) ∧ H l = some (.lst (fs.map V.ref))
  c : Cl C Cc H p m y o k
  g : Good m y o k
  n : fs.length = gs.length
  z : gs.length ≤ 60
  r : ∀ (j : Nat) f g, fs[j]? = some f → gs[j]? = some g → Rl P w K mg base kk H f g
theorem Sf.same {P : Program} {w : World} {K : PySem.W.Frag} {mg : Str → Option Value} {base : Heap} {kk : Nat} {C Cc Cs : Addr} {H H1 : Hp} {q p : Addr} {m y o k : Rat} {fs : List Addr} {gs : List (Int → Int)} (h : Sf P w K mg base kk C Cc Cs H q p m y o k fs gs) (s : Same H H1) : Sf P w K mg base kk C Cc Cs H1 q p m y o k fs gs :=
  ⟨let ⟨dx, l, e1, e2⟩ := h.ob
   ⟨dx, l, s _ _ e1, s _ _ e2⟩, h.c.same s, h.g, h.n, h.z, fun j f g a b => (h.r j f g a b).same s⟩
def spNy55 (P : Program) (w : World) (K : PySem.W.Frag) (mg : Str → Option Value) (base : Heap) (kk : Nat) (C Cc Cs : Addr) : Sp := fun vs H Q _ => ∃ (q p : Addr) (a : Int) (m y o k : Rat) (fs : List Addr) (gs : List (Int → Int)), vs = [.ref q, .int a] ∧ Sf P w K mg base kk C Cc Cs H q p m y o k fs gs ∧ Sz 560 a ∧ ∀ H', Same H H' → Q (.int (putG gs (fdF m y o k a))) H'
section
variable {P : Program} {w : World} {K : PySem.W.Frag} {mg : Str → Option Value} {base : Heap} {C Cc Cs : Addr} {kk : Nat}
theorem ok_ny55 (D : Dm K Cs "new_year" "Shifted.new_year" s_Shifted_new_year) (T : SfT K Cs) (f_first_day : Ca P w K mg base CX0 10 "first_day" s_first_day [] ["calendar", "year"] (spFd C Cc)) (hkk : kk ≤ 10) :
    Cm P w K mg base CX0 11 Cs "new_year" "Shifted.new_year" s_Shifted_new_year ["self", "year"] (spNy55 P w K mg base kk C Cc Cs) := by
  refine cm0 (k := 10) D c_Shifted_new_year (fun vs H Q E h => ?_) fun f cdv A outer s H vs Q E hr h => ?_
  · obtain ⟨q, p, a, m, y, o, k, fs, gs, rfl, _⟩ := h
    rfl
  · obtain ⟨q, p, a, m, y, o, k, fs, gs, rfl, hs, za, qq⟩ := h
    obtain ⟨dx, l, eq, el⟩ := hs.ob
    refine ⟨_, (pss_cons (ps_set (i := 2) c_Shifted_new_year.nd rfl (.inl rfl) (pe_ca f_first_day b_first_day hr (by decide) pass0 rfl (pa_cons (pe_fld (pv 0) rfl) (pa_cons (pv 1) pa_nil))))
      (pss_cons (ps_for PassesOwn.never rfl (pi_list (pe_fld (pv 0) rfl)) (pg_name (i := 3) c_Shifted_new_year.nd rfl (.inl rfl)) (pss_one (ps_set (i := 2) c_Shifted_new_year.nd rfl (.inl rfl) (pe_op op_add (pv 2) (pe_doe (i := 3) (k := kk) hr hkk rfl (.inl rfl) (pa_cons (pv 2) pa_nil))))))
      (pss_one (ps_ret (pv 2))))), ?_⟩
    refine ⟨_, rfl, q, Cs, dx, _, _, rfl, eq, T.cl, T.n1, sf_cal _ _, _, rfl, p, a, m, y, o, k, rfl, hs.c, hs.g, za, fun H1 s1 => ?_⟩
    have hs1 := hs.same s1
    refine ⟨_, rfl, q, Cs, dx, _, _, rfl, s1 _ _ eq, T.cl, T.n2, sf_rules _ _, l, rfl, ⟨_, SqL.of (s1 _ _ el)⟩, for_list (K := K) (a := l) (xs := fs.map V.ref) (fun i σ H' => ∃ v3 : Option V, σ = [some (.ref q), some (.int a), some (.int (putG (gs.take i) (fdF m y o k a))), v3] ∧ Same H1 H') ⟨_, rfl, Same.refl _⟩ (fun i σ H' _ ⟨_, _, s2⟩ => SqL.of (s2 _ _ (s1 _ _ el))) ?_ ?_⟩
    · rintro i v σ H2 hv ⟨v3, rfl, s2⟩
      rw [List.getElem?_map] at hv
      cases hf : fs[i]? with
      | none => rw [hf] at hv; cases hv
      | some f =>
        rw [hf] at hv
        cases hv
        have hi : i < gs.length := by
          rw [← hs.n]
          exact (List.getElem?_eq_some_iff.mp hf).1
        have hg := List.getElem?_eq_getElem hi
        have rl := (hs1.same s2).r i f _ hf hg H2 (Same.refl _)
        refine ⟨_, rfl, f, rfl, ?_, _, rfl, ?_⟩
        · exact (rl 0 (fun _ _ => True) trivial).1
        refine rl _ _ ?_
        refine ⟨_, _, rfl, rfl, some (.ref f), ?_, s2⟩
        rw [List.take_succ, hg]
        show _ = [_, _, some (V.int (putG (gs.take i ++ [gs[i]]) _)), _]
        rw [putG_snoc]
        rfl
    · rintro σ H2 ⟨v3, rfl, s2⟩
      refine ⟨_, rfl, ?_⟩
      have e : (fs.map V.ref).length = gs.length := by rw [List.length_map, hs.n]
      rw [e, List.take_length]
      exact qq H2 (s1.trans s2)
end
/-! ### Shifted made; how long its years are -/
def spSfI (Cs : Addr) : Sp := fun vs H Q _ => ∃ (q dx p l : Addr) (fs : List Addr), vs = [.ref q, .ref p, .ref l] ∧ H q = some (.ins Cs dx []) ∧ H l = some (.lst (fs.map V.ref)) ∧ fs.length ≤ 60 ∧
  ∀ l' H', But q H H' → H l' = none → H' q = some (.ins Cs dx (sfs p l')) → H' l' = some (.lst (fs.map V.ref)) → Q .non H'
section
variable {P : Program} {w : World} {K : PySem.W.Frag} {mg : Str → Option Value} {base : Heap} {C Cc Cs : Addr} {kk : Nat}
theorem ok_sfI (D : Di K mg "Shifted" Cs "Shifted.__init__" s_Shifted_init []) (T : SfT K Cs) (g_list : mg "list" = none) : Ci P w K mg base CX0 3 "Shifted" Cs "Shifted.__init__" s_Shifted_init [] ["self", "calendar", "rules"] (spSfI Cs) := by
  refine ci0 (k := 2) D c_Shifted_init (fun vs H Q E h => ?_) fun f cdv A outer s H vs Q E hr h => ?_
  · obtain ⟨q, dx, p, l, fs, rfl, _⟩ := h
    rfl
  · obtain ⟨q, dx, p, l, fs, rfl, hq, hl, hn, qq⟩ := h
    refine ⟨_, (pss_cons (ps_fld (pv 0) (pv 1) rfl)
      (pss_one (ps_fld (pv 0) (pe_callTy call_list_of rfl g_list (by decide +kernel) (pa_cons (pv 2) pa_nil)) rfl))), ?_⟩
    refine ⟨_, rfl, _, rfl, q, Cs, dx, _, rfl, hq, T.cl, T.n1, (by show 0 < 1000; decide), ?_⟩
    have nlq : l ≠ q := ne_of hl hq (by intro z; cases z)
    refine ⟨_, rfl, l, _, rfl, .inl (SqL.of (by rw [upd_ne nlq]; exact hl)), fun l' nl' => ?_⟩
    have nlq' : q ≠ l' := fun z => by rw [← z, upd_same] at nl'; cases nl'
    have nl0 : H l' = none := by
      rw [upd_ne nlq'.symm] at nl'
      exact nl'
    refine ⟨_, rfl, q, Cs, dx, _, rfl, (by rw [upd_ne nlq']; exact upd_same), T.cl, T.n2, (by show 1 < 1000; decide), ?_⟩
    refine qq l' _ (fun b o hb e => ?_) nl0 upd_same ?_
    · rw [upd_ne hb, upd_ne (ne_of_none e nl0), upd_ne hb]
      exact e
    · rw [upd_ne nlq'.symm]
      exact upd_same
end
/-! ### the law's lambda, and a Shifted made with it -/
def lmX55 : Option (Arguments × Expr × Scope) := match defBody s_l_years_right with
  | [_, .Assign _ (.ListComp (.Call _ [_, .List [.Lambda a e s _] _] _ _) _ _ _) _, _, _, _] => some (a, e, s)
  | _ => none
def lmA55 : Arguments := match lmX55 with
  | some (a, _, _) => a
  | none => defArgs s_l_years_right
def lmE55 : Expr := match lmX55 with
  | some (_, e, _) => e
  | none => .Constant .none 0 ⟨0, 0, 0, 0⟩
def lmS55 : Scope := match lmX55 with
  | some (_, _, s) => s
  | none => defScope s_l_years_right
def spLm55 : Sp := fun vs H Q _ => ∃ d : Int, vs = [.int d] ∧ Q (.int (d % 4)) H
theorem lmS55_ok : NdefX.NScope ["_law_at"] ["_law_at"] [] lmS55 := NdefX.nscope_by (by decide +kernel)
theorem kb_Feast_3_when : Kd "Feast.__init__" s_Feast_init 1 4 ["when"] ["self", "name", "number", "day", "when"] gOd :=
  ⟨fun _ _ _ _ _ _ _ us its ws hu hi hw => match us, hu, its, hi, ws, hw with | [_, _, _, _], _, [_], _, [_], _ => ⟨_, rfl, rfl⟩, gOd_rel⟩
/-- the lambda, known -/
def Lm55 (H : Hp) (f : Addr) : Prop := ∃ c', H f = some (LmO f (lmF (lamQ "_law_years_right") lmA55 lmS55 [] c') lmE55) ∧ H c' = some (LamX.CodeO c' (lamQ "_law_years_right"))
theorem Lm55.keep {H H1 : Hp} {f : Addr} (h : Lm55 H f) (b : ∀ {c : Addr} {φ : Heap → Prop}, H c = some (.ext φ) → H1 c = some (.ext φ)) : Lm55 H1 f := by
  obtain ⟨c', h1, h2⟩ := h
  exact ⟨c', b h1, b h2⟩
section
variable {P : Program} {w : World} {K : PySem.W.Frag} {mg : Str → Option Value} {base : Heap} {c' : Addr}
theorem ok_lm55 : LOk0 P w K mg base CX0 2 (lmF (lamQ "_law_years_right") lmA55 lmS55 [] c') lmE55 ["_law_at"] spLm55 := by
  refine lok0_of (k := 1) (N := ["_law_at"]) lmS55_ok rfl (fun pm ctv us hu => match us, hu with | [_], _ => rfl) fun f A outer s H E vs Q hr hl h => ?_
  obtain ⟨d, rfl, q⟩ := h
  exact ⟨_, (pe_op op_mod (pv 0) pe_int), _, rfl, _, _, rfl, rfl, md, q⟩
theorem rl_lm55 {H : Hp} {f : Addr} (h : Lm55 H f) : Rl P w K mg base 2 H f (fun d => d % 4) := fun H1 s1 d Q q => by
  obtain ⟨c', hf, hc⟩ := h
  exact doe_lam0 (ok_lm55 (P := P) (w := w) (K := K) (mg := mg) (base := base) (c' := c')) (s1 _ _ hf) (s1 _ _ hc) rfl ⟨d, rfl, q⟩
end
/-- at q a Shifted of the calendar at p with the lambda -/
def Sm55 (Cs : Addr) (H : Hp) (q p D : Addr) : Prop := ∃ dx l f, l ≠ D ∧ H q = some (.ins Cs dx (sfs p l)) ∧ H l = some (.lst [.ref f]) ∧ Lm55 H f
/-! ### years, told alike -/
def spYr55 (T : List (Addr × Str)) (C Cc : Addr) : Sp := fun vs H Q _ => ∃ (p p2 : Addr) (a n : Int) (m y o k o' k' : Rat), vs = [.ref p, .ref p2, .int a] ∧ Cl C Cc H p m y o k ∧ Good m y o k ∧ Cl C Cc H p2 m y o' k' ∧ Good m y o' k' ∧ Mvd m y o k o' k' 0 n 0 ∧ Sz 77 a ∧ LamX.Tabs T H ∧ ∀ H', LamX.ExtN H H' → LamX.Tabs T H' → Q (.bl true) H'
theorem Cl.extN {C Cc p : Addr} {H H1 : Hp} {m y o k : Rat} (h : Cl C Cc H p m y o k) (s : LamX.ExtN H H1) : Cl C Cc H1 p m y o k := by
  obtain ⟨dx, a, b, c, d, e, ⟨x1, h1⟩, ⟨x2, h2⟩, ⟨x3, h3⟩, ⟨x4, h4⟩⟩ := h
  have kp : ∀ {a c dx : Addr} {fs : List (Str × V)}, H a = some (.ins c dx fs) → H1 a = some (.ins c dx fs) := fun e => s _ _ e (by intro ps z; cases z)
  exact ⟨dx, a, b, c, d, kp e, ⟨x1, kp h1⟩, ⟨x2, kp h2⟩, ⟨x3, kp h3⟩, ⟨x4, kp h4⟩⟩
theorem Fe.extN {Cf p : Addr} {H H1 : Hp} {a w : Str} {n d : Int} (h : Fe Cf H p a n d w) (s : LamX.ExtN H H1) : Fe Cf H1 p a n d w := by
  obtain ⟨dx, e⟩ := h
  exact ⟨dx, s _ _ e (by intro ps z; cases z)⟩
theorem Lm55.extN {H H1 : Hp} {f : Addr} (h : Lm55 H f) (s : LamX.ExtN H H1) : Lm55 H1 f := by
  obtain ⟨c', h1, h2⟩ := h
  exact ⟨c', s _ _ h1 (by intro ps z; unfold LmO at z; cases z), s _ _ h2 (by intro ps z; unfold LamX.CodeO at z; cases z)⟩
theorem Sm55.extN {Cs q p D : Addr} {H H1 : Hp} (h : Sm55 Cs H q p D) (s : LamX.ExtN H H1) : Sm55 Cs H1 q p D := by
  obtain ⟨dx, l, f, h0, h1, h2, h3⟩ := h
  exact ⟨dx, l, f, h0, s _ _ h1 (by intro ps z; cases z), s _ _ h2 (by intro ps z; cases z), h3.extN s⟩
theorem Sm55.put {Cs q p D : Addr} {H : Hp} {xs : List V} {u : HO} (h : Sm55 Cs H q p D) (e : H D = some (.lst xs)) : Sm55 Cs (L2.upd H D u) q p D := by
  obtain ⟨dx, l, f, h0, h1, h2, c', h3, h4⟩ := h
  exact ⟨dx, l, f, h0, (upd_ne (ne_of h1 e (by intro z; cases z))).trans h1, (upd_ne h0).trans h2, c', (upd_ne (ne_of h3 e (by intro z; unfold LmO at z; cases z))).trans h3, (upd_ne (ne_of h4 e (by intro z; unfold LamX.CodeO at z; cases z))).trans h4⟩
theorem Sm55.same {Cs q p D : Addr} {H H1 : Hp} (h : Sm55 Cs H q p D) (s : Same H H1) : Sm55 Cs H1 q p D := h.extN (extN_same s)
theorem yl_sz {m y o k : Rat} (g : Good m y o k) (a : Int) : ∀ i ∈ ylL m y o k a, Sz 200 i := by
  intro i hi
  unfold ylL stp at hi
  obtain ⟨j, hj, rfl⟩ := List.mem_map.mp hi
  obtain ⟨h1, h2, h3⟩ := st_len (o := o) g.fit.one (mwF m y o k (12 * a) + (j : Nat))
  have e : mwF m y o k (12 * a) + ((j + 1 : Nat) : Int) = mwF m y o k (12 * a) + (j : Int) + 1 := by omega
  have zf : Sz 70 m.floor := Sz.floor g.zm
  have z1 : Sz 71 (m.floor + 1) := Sz.add (n := 70) zf (szi 1 (Nat.one_lt_two_pow (by decide))) (by decide)
  dsimp only
  rw [e]
  refine Sz.mono (n := 71) ?_ (by decide)
  generalize stF m o (mwF m y o k (12 * a) + (j : Int) + 1) - stF m o (mwF m y o k (12 * a) + (j : Int)) = d at *
  unfold Sz at *
  omega
abbrev TE_l_years_right1 (_K : PySem.W.Frag) (_C _Cc _Cy Cs : Addr) (T : List (Addr × Str)) : TE := tMake Cs (spSfI Cs) [] E0 (tCons (tVar 6) (tCons (tLst (tCons (tLm0 T (lamQ "_law_years_right") lmA55 lmE55 lmS55) tNil)) tNil))
abbrev TE_l_years_right2 (K : PySem.W.Frag) (C Cc Cy _Cs : Addr) (_T : List (Addr × Str)) : TE := tFld K (tMake Cy (spYrI C Cc Cy) [] E0 (tCons (tVar 0) (tCons (tOp (rI0 fun i j => .int (i + j)) (tVar 2) (tVar 7)) tNil))) "first"
theorem lm_fr : ∀ y ∈ lmS55.names, y.2 ≠ .free := by decide +kernel
section
variable {P : Program} {w : World} {K : PySem.W.Frag} {mg : Str → Option Value} {base : Heap} {C Cc Cy Cf Cs : Addr}
theorem sf55 {H : Hp} {q p D : Addr} {m y o k : Rat} (h : Sm55 Cs H q p D) (hc : Cl C Cc H p m y o k) (g : Good m y o k) : ∃ (dx l f : Addr), H q = some (.ins Cs dx (sfs p l)) ∧ Sf P w K mg base 2 C Cc Cs H q p m y o k [f] [fun d => d % 4] := by
  obtain ⟨dx, l, f, _, h1, h2, h3⟩ := h
  refine ⟨dx, l, f, h1, ⟨dx, l, h1, h2⟩, hc, g, rfl, (by show 1 ≤ 60; decide), fun j f' g' a b => ?_⟩
  match j, a, b with
  | 0, a, b =>
    cases a
    cases b
    exact rl_lm55 h3
  | j + 1, a, b => simp at a
set_option maxHeartbeats 16000000 in
theorem ok_lyr55 {c1 Pt : Addr} {T : List (Addr × Str)} (D : DfC K mg "_law_years_right" s_l_years_right c1) (TB : LamX.TabB base mg c1 Pt) (hmT : (Pt, lamQ "_law_years_right") ∈ T) (huT : ∀ p ∈ T, p.1 = Pt → p.2 = lamQ "_law_years_right") (Ty : YrT K C Cc Cy) (NT : NeT K Cy)
    (tyY : ∀ (H : Hp) (a dx : Addr) (fs : List (Str × V)), H a = some (.ins Cy dx fs) → TyX K H (.ref a) (.ref Cy)) (g_range : mg "range" = none) (g_str : mg "str" = none)
    (f_Year : Ci P w K mg base CX0 11 "Year" Cy "Year.__init__" s_Year_init [] ["self", "calendar", "number"] (spYrI C Cc Cy)) (f_Year_eq : Cm P w K mg base CX0 1 Cy "__eq__" "Year.__eq__" s_Year_eq ["self", "other"] (spYrE Cy)) (f_Year_str : Cm P w K mg base CX0 2 Cy "__str__" "Year.__str__" s_Year_str ["self"] (spYs Cy))
    (f_Feast : Ci P w K mg base CX0 1 "Feast" Cf "Feast.__init__" s_Feast_init [.str "plain"] ["self", "name", "number", "day", "when"] (spFeI Cf)) (f_feast_days : Ca P w K mg base CX0 13 "feast_days" s_feast_days [] ["calendar", "feast", "year"] (spFds C Cc Cf))
    (f_Shifted : Ci P w K mg base CX0 3 "Shifted" Cs "Shifted.__init__" s_Shifted_init [] ["self", "calendar", "rules"] (spSfI Cs)) (f_new_year : Cm P w K mg base CX0 11 Cs "new_year" "Shifted.new_year" s_Shifted_new_year ["self", "year"] (spNy55 P w K mg base 2 C Cc Cs))
    (f_odd_years : Ca P w K mg base CX0 11 "odd_years" s_odd_years [] ["calendar", "first", "many"] (spOy C Cc)) (f_starts_together : Ca P w K mg base CX0 11 "starts_together" s_starts_together [] ["one", "two", "first", "many"] (spStt C Cc)) :
    Ca P w K mg base CX0 14 "_law_years_right" s_l_years_right [] ["_law_one", "_law_two", "_law_number"] (spYr55 T C Cc) := by
  refine ca0C (k := 13) D c_l_years_right (fun vs H Q E h => ?_) fun f A outer s H vs Q E hr h => ?_
  · obtain ⟨p, p2, a, n, m, y, o, k, o', k', rfl, _⟩ := h
    rfl
  · obtain ⟨p, p2, a, n, m, y, o, k, o', k', rfl, hc, g, hc', g', M, za, tb, q⟩ := h
    refine ⟨_, (pss_cons (ps_set (i := 3) c_l_years_right.nd rfl (.inl rfl) (pe_ciK f_Feast kb_Feast_3_when (by decide) hr (by decide) pass0 rfl (pa_cons pe_str (pa_cons (pe_op op_add pe_int (pe_op op_mod (pv 2) pe_int)) (pa_cons (pe_op op_add pe_int (pe_op op_mod (pv 2) pe_int)) pa_nil))) (pk_cons (pe_ix ix_list (pe_lst (pa_cons pe_str (pa_cons pe_str (pa_cons pe_str pa_nil)))) (pe_op op_mod (pv 2) pe_int) (fun _ _ => rfl)) pk_nil)))
      (pss_cons (ps_setLc (i := 4) (own := [("_law_made_here", 6)]) (g := gName 6) (tt := tYes) (te := TE_l_years_right1 K C Cc Cy Cs T) rfl c_l_years_right.nd rfl rfl (sw_true rfl rfl rfl (by decide +kernel)) (pi_list (pe_lst (pa_cons (pv 0) (pa_cons (pv 1) pa_nil)))) (blkOk_by (N := ["_law_one", "_law_two", "_law_number", "_law_feast", "_law_shifts", "_law_near", "_law_made_here", "_law_k"]) (sc := defScope s_l_years_right) (by decide +kernel)) (fun _ _ _ _ _ => (pg_name (i := 6) c_l_years_right.nd rfl (.inl rfl))) (fun _ _ _ _ _ => by exact pts_nil) (fun _ _ _ _ _ => by exact (pe_ciN f_Shifted b_Shifted_init hr (by decide) pass0 rfl (pa_cons (pv 6) (pa_cons (pe_lst (pa_cons (pe_lm0 TB rfl rfl hmT huT rfl lm_fr) pa_nil)) pa_nil)))))
      (pss_cons (ps_for PassesOwn.never rfl (pi_rangeA rfl g_range (pa_cons (pv 2) (pa_cons (pe_op op_add (pv 2) pe_int) pa_nil))) (pg_name (i := 5) c_l_years_right.nd rfl (.inl rfl)) (pss_cons (ps_if (PW.pt (pw_or (pt_cmpR (op_neC NT f_Year_eq b_Year_eq pass0 hr (by decide)) (pe_ciN f_Year b_Year_init hr (by decide) pass0 rfl (pa_cons (pv 0) (pa_cons (pv 5) pa_nil))) (pe_ciN f_Year b_Year_init hr (by decide) pass0 rfl (pa_cons (pv 1) (pa_cons (pv 5) pa_nil))) (nomark _)) (pw_or1 (pt_cmpR op_ne (pe_callTy (call_str_SA f_Year_str b_Year_str (hr.mono (by decide)) pass0) rfl g_str (by decide +kernel) (pa_cons (pe_ciN f_Year b_Year_init hr (by decide) pass0 rfl (pa_cons (pv 0) (pa_cons (pv 5) pa_nil))) pa_nil)) (pe_callTy (call_str_SA f_Year_str b_Year_str (hr.mono (by decide)) pass0) rfl g_str (by decide +kernel) (pa_cons (pe_ciN f_Year b_Year_init hr (by decide) pass0 rfl (pa_cons (pv 1) (pa_cons (pv 5) pa_nil))) pa_nil)) (nomark _))))) (pss_one (ps_ret pe_bl)) pss_nil)
      (pss_cons (ps_if (pt_cmpR (op_neD hr.units) (pe_ca f_feast_days b_feast_days hr (by decide) pass0 rfl (pa_cons (pv 0) (pa_cons (pv 3) (pa_cons (pv 5) pa_nil)))) (pe_ca f_feast_days b_feast_days hr (by decide) pass0 rfl (pa_cons (pv 1) (pa_cons (pv 3) (pa_cons (pv 5) pa_nil)))) (nomark _)) (pss_one (ps_ret pe_bl)) pss_nil)
      (pss_one (ps_if (pt_cmpR op_ne (pe_cm f_new_year b_Shifted_new_year hr (by decide) pass0 (pe_ix ix_list (pv 4) pe_int (fun _ _ => rfl)) (pa_cons (pv 5) pa_nil)) (pe_cm f_new_year b_Shifted_new_year hr (by decide) pass0 (pe_ix ix_list (pv 4) pe_int (fun _ _ => rfl)) (pa_cons (pv 5) pa_nil)) (nomark _)) (pss_one (ps_ret pe_bl)) pss_nil)))))
      (pss_cons (ps_if (pt_cmpR (op_neD hr.units) (pe_ca f_odd_years b_odd_years hr (by decide) pass0 rfl (pa_cons (pv 0) (pa_cons (pv 2) (pa_cons pe_int pa_nil)))) (pe_ca f_odd_years b_odd_years hr (by decide) pass0 rfl (pa_cons (pv 1) (pa_cons (pv 2) (pa_cons pe_int pa_nil)))) (nomark _)) (pss_one (ps_ret pe_bl)) pss_nil)
      (pss_one (ps_ret (pe_cmpR (op_eqD hr.units) (pe_ca f_starts_together b_starts_together hr (by decide) pass0 rfl (pa_cons (pv 0) (pa_cons (pv 1) (pa_cons (pv 2) (pa_cons pe_int pa_nil))))) (pe_lc (own := [("_law_k", 7)]) (g := gName 7) (tt := tYes) (te := TE_l_years_right2 K C Cc Cy Cs T) rfl c_l_years_right.nd (pi_range1 rfl g_range (pa_cons pe_int pa_nil)) (blkOk_by (N := ["_law_one", "_law_two", "_law_number", "_law_feast", "_law_shifts", "_law_near", "_law_made_here", "_law_k"]) (sc := defScope s_l_years_right) (by decide +kernel)) (fun _ _ _ _ _ => (pg_name (i := 7) c_l_years_right.nd rfl (.inl rfl))) (fun _ _ _ _ _ => by exact pts_nil) (fun _ _ _ _ _ => by exact (pe_fld (pe_ciN f_Year b_Year_init hr (by decide) pass0 rfl (pa_cons (pv 0) (pa_cons (pe_op op_add (pv 2) (pv 7)) pa_nil))) rfl))) (nomark _)))))))), ?_⟩
    have F := g.fit
    refine ⟨_, rfl, _, _, rfl, rfl, md, _, _, rfl, rfl, _, rfl, _, _, rfl, rfl, md, _, _, rfl, rfl, (by show 3 ≤ sizeLine; decide), fun pw npw => ?_⟩
    obtain ⟨w', hw'⟩ : ∃ w' : Str, atI [V.str "plain", V.str "odd", V.str "both"] (a % 3) = some (.str w') := by
      have h0 := Int.emod_nonneg a (show (3 : Int) ≠ 0 by decide)
      have h1 := Int.emod_lt_of_pos a (show (0 : Int) < 3 by decide)
      have h : a % 3 = 0 ∨ a % 3 = 1 ∨ a % 3 = 2 := by omega
      rcases h with e | e | e <;> rw [e] <;> exact ⟨_, rfl⟩
    refine ⟨_, rfl, _, _, rfl, rfl, md, pw, _, _, .str w', rfl, rfl, SqL.of upd_same, hw', rfl, rfl, made_fe fun pf dxf H1 npf s1 ef => ?_⟩
    have sw := Same.new (o := .lst [V.str "plain", V.str "odd", V.str "both"]) npw
    have s01 := sw.trans s1
    have tb1 := tb.ext s01
    have hf1 : Fe Cf H1 pf "a" (1 + a % 12) (1 + a % 40) w' := ⟨dxf, ef⟩
    have hc1 := hc.same s01
    have hc1' := hc'.same s01
    clear ef npf dxf
    refine ⟨_, rfl, _, rfl, (by show 2 ≤ sizeLine; decide), fun pl npl => ?_⟩
    have s2 := Same.new (o := .lst [V.ref p, V.ref p2]) npl
    have tb2 := tb1.ext s2
    have epl := upd_same (H := H1) (a := pl) (o := .lst [V.ref p, V.ref p2])
    have hf2 := hf1.same s2
    have hc2 := hc1.same s2
    have hc2' := hc1'.same s2
    have s02 := s01.trans s2
    generalize L2.upd H1 pl (.lst [V.ref p, V.ref p2]) = H2 at *
    refine ⟨pl, rfl, ⟨_, SqL.of epl⟩, fun D0 nD => ?_⟩
    refine lc_allX (T := T) (walk_list (K := K) (a := pl) (xs := [V.ref p, V.ref p2])) yAt_same nD tb2 (by show 2 < sizeLine; decide) (fun j v Hx => ∃ q0 : Addr, v = .ref q0 ∧ Sm55 Cs Hx q0 (if j = 0 then p else p2) D0) (fun j v Ha Hb s ⟨q0, e1, h1⟩ => ⟨q0, e1, h1.extN s⟩) ?_ (fun H' s' => SqL.of (s' _ _ epl (by intro ps z; cases z))) ?_ ?_
    · rintro j v Ha acc acc' hacc _ _ ⟨q0, e1, h1⟩
      exact ⟨q0, e1, h1.put hacc⟩
    · rintro i x Ha Hb R hi sa tbb ⟨acc0, eacc⟩ ⟨rfl, hx⟩ k1
      obtain rfl : x = .ref (if i = 0 then p else p2) := by
        match i, hx with
        | 0, hx => cases hx; rfl
        | 1, hx => cases hx; rfl
        | j + 2, hx => simp at hx
      refine ⟨rfl, ?_⟩
      refine ⟨_, rfl, tbb, fun f' c' H4 eN nN T4 nf hf hcd => ?_⟩
      refine ⟨(by show 1 ≤ sizeLine; decide), fun l nl q0 dq nq0 ndq ne => ?_⟩
      have s4 := Same.new (o := .lst [V.ref f']) nl
      have e4l := upd_same (H := H4) (a := l) (o := .lst [V.ref f'])
      have hm4 : Lm55 (L2.upd H4 l (.lst [V.ref f'])) f' := ⟨c', s4 _ _ hf, s4 _ _ hcd⟩
      have eaccl : (L2.upd H4 l (.lst [V.ref f'])) D0 = some (.lst acc0) := s4 _ _ (eN _ _ eacc (by intro ps z; cases z))
      have T4l := T4.ext s4
      have eN4 := extN_trans eN (extN_same s4)
      generalize L2.upd H4 l (.lst [V.ref f']) = H5 at *
      have s5 : Same H5 (L2.upd (L2.upd H5 dq (.own q0)) q0 (.ins Cs dq [])) := Same.upd (Same.new ndq) (by rw [upd_ne ne.symm]; exact nq0)
      refine ⟨q0, dq, _, l, [f'], rfl, upd_same, s5 _ _ e4l, (by show 1 ≤ 60; decide), fun l' H6 b6 nl' e6 el' => ⟨rfl, ?_⟩⟩
      have s6 : Same H5 H6 := fun c o e => b6 c o (ne_of_none e nq0) (s5 c o e)
      have nlD : l' ≠ D0 := fun z => by
        rw [z, s5 _ _ eaccl] at nl'
        cases nl'
      refine k1 _ H6 (extN_trans eN4 (extN_same s6)) (T4l.ext s6) fun acc e acc' => ⟨q0, rfl, Sm55.put ⟨dq, l', f', nlD, e6, el', hm4.extN (extN_same s6)⟩ e⟩
    · intro us H3 hl e3 eN3 tb3 hps
      obtain ⟨u1, u2, rfl⟩ : ∃ u1 u2, us = [u1, u2] := by
        match us, hl with
        | [u1, u2], _ => exact ⟨u1, u2, rfl⟩
      obtain ⟨q1, rfl, hq1⟩ := hps 0 u1 rfl
      obtain ⟨q2, rfl, hq2⟩ := hps 1 u2 rfl
      have hq1 : Sm55 Cs H3 q1 p D0 := hq1
      have hq2 : Sm55 Cs H3 q2 p2 D0 := hq2
      have hc3 := hc2.extN eN3
      have hc3' := hc2'.extN eN3
      have hf3 := hf2.extN eN3
      have eN03 := extN_trans (extN_same s02) eN3
      clear hps eN3 hc2 hc2' hf2 epl nD tb2 tb1 hc1 hc1' hf1
      refine ⟨_, rfl, _, rfl, _, _, rfl, rfl, _, _, rfl, ?_⟩
      have en : (a + 6 - a).toNat = 6 := by omega
      rw [en]
      refine for_range (n := 6) (fun i σ Hx => (∃ v5 v6 v7 : Option V, σ = [some (.ref p), some (.ref p2), some (.int a), some (.ref pf), some (.ref D0), v5, v6, v7]) ∧ Same H3 Hx) ⟨⟨_, _, _, rfl⟩, Same.refl _⟩ ?_ ?_
      · rintro j σ Hx hj ⟨⟨v5, v6, v7, rfl⟩, sx⟩
        have zb : Sz 78 (a + (j : Int)) := Sz.add (n := 77) za (znat j (by omega) (by decide)) (by decide)
        generalize a + (j : Int) = b at *
        have zb5 : Sz 560 b := zb.mono (by decide)
        refine ⟨_, rfl, _, rfl, made_yr (hc3.same sx) g zb5 fun y1 D1 D2 us1 Ha n1 sa _ _ _ yd1 => ?_⟩
        have sxa := sx.trans sa
        refine ⟨_, rfl, _, rfl, made_yr (hc3'.same sxa) g' zb5 fun y2 E1 E2 us2 Hb n2 sb _ _ _ yd2 => ?_⟩
        have sxb := sxa.trans sb
        have yd1 := yd1.same sb
        obtain ⟨⟨dy1, ey1⟩, e11, nm1, e12⟩ := yd1
        obtain ⟨⟨dy2, ey2⟩, e21, nm2, e22⟩ := yd2
        rw [M.yl F] at nm2
        rw [M.yls F] at e22
        refine ⟨y1, dy1, _, _, rfl, ey1, tyY _ _ _ _ ey2, nf_self, y1, y2, _, _, D1, D2, _, us1, _, _, _, _, E1, E2, _, us2, _, _, rfl, ⟨dy1, ey1⟩, e11, nm1, e12, ⟨dy2, ey2⟩, e21, nm2, e22, _, rfl, _, rfl, no' (by simp) ?_⟩
        have ll : (ylL m y o k b).length = (ynL m y o k b).length := by rw [ylL_len, ynL_len]
        have l13 : (ylL m y o k b).length ≤ 13 := by
          rw [ylL_len]
          exact (yN_fact g b).2
        clear ey1 ey2 e11 e12 e21 e22 nm1 nm2
        refine ⟨_, rfl, _, rfl, made_yr (hc3.same sxb) g zb5 fun y3 D3 D4 us3 Hc n3 sc _ _ _ yd3 => ?_⟩
        obtain ⟨⟨dy3, ey3⟩, e31, nm3, e32⟩ := yd3
        have sxc := sxb.trans sc
        refine sa_own ey3 ⟨y3, _, _, D3, D4, _, us3, _, _, rfl, ⟨dy3, ey3⟩, e31, nm3, e32, ll, l13, yl_sz g b, fun Hd sd => ⟨_, rfl, ?_⟩⟩
        have sxd := sxc.trans sd
        refine ⟨_, rfl, _, rfl, made_yr (hc3'.same sxd) g' zb5 fun y4 E3 E4 us4 He n4 se _ _ _ yd4 => ?_⟩
        obtain ⟨⟨dy4, ey4⟩, e41, nm4, e42⟩ := yd4
        rw [M.yl F] at nm4
        rw [M.yls F] at e42
        have sxe := sxd.trans se
        refine sa_own ey4 ⟨y4, _, _, E3, E4, _, us4, _, _, rfl, ⟨dy4, ey4⟩, e41, nm4, e42, ll, l13, yl_sz g b, fun Hf sf => ⟨_, rfl, rfl, _, rfl, no' (by simp) ?_⟩⟩
        have sxf := sxe.trans sf
        refine ⟨_, rfl, _, rfl, _, rfl, p, pf, _, w', b, _, _, m, y, o, k, rfl, hc3.same sxf, g, hf3.same sxf, zb.mono (by decide), ?_, fun r1 Hg nr1 sg er1 => ?_⟩
        · exact (Sz.of (n := 5) (by omega) (by omega)).mono (by decide)
        have sxg := sxf.trans sg
        refine ⟨_, rfl, _, rfl, _, rfl, p2, pf, _, w', b, _, _, m, y, o', k', rfl, hc3'.same sxg, g', hf3.same sxg, zb.mono (by decide), ?_, fun r2 Hh nr2 sh er2 => ?_⟩
        · exact (Sz.of (n := 5) (by omega) (by omega)).mono (by decide)
        rw [M.fml F] at er2
        have sxh := sxg.trans sh
        refine ⟨_, _, dp_ints (sh _ _ er1), dp_ints er2, sh_ints _, sh_ints _, _, rfl, no' (by rw [eqv_intL]; rfl) ?_⟩
        obtain ⟨ds1, ls1, fs1, es1, sf1⟩ := sf55 (P := P) (w := w) (K := K) (mg := mg) (base := base) (hq1.same sxh) (hc3.same sxh) g
        refine ⟨_, rfl, D0, _, _, _, rfl, rfl, SqL.of (sxh _ _ e3), rfl, q1, ds1, _, rfl, es1, sf_no _ _ (by decide +kernel) (by decide +kernel), _, rfl, q1, p, b, m, y, o, k, [fs1], _, rfl, sf1, zb5, fun Hi si => ?_⟩
        have sxi := sxh.trans si
        obtain ⟨ds2, ls2, fs2, es2, sf2⟩ := sf55 (P := P) (w := w) (K := K) (mg := mg) (base := base) (hq2.same sxi) (hc3'.same sxi) g'
        refine ⟨_, rfl, D0, _, _, _, rfl, rfl, SqL.of (sxi _ _ e3), rfl, q2, ds2, _, rfl, es2, sf_no _ _ (by decide +kernel) (by decide +kernel), _, rfl, q2, p2, b, m, y, o', k', [fs2], _, rfl, sf2, zb5, fun Hj sj => ?_⟩
        rw [M.fd F]
        refine ⟨rfl, _, rfl, no' (by simp) ?_⟩
        exact ⟨⟨_, _, _, rfl⟩, sxi.trans sj⟩
      · rintro σ Hx ⟨⟨v5, v6, v7, rfl⟩, sx⟩
        refine ⟨_, rfl, _, rfl, p, a, 30, m, y, o, k, rfl, hc3.same sx, g, za.mono (by decide), by decide, fun r1 Ha nr1 sa er1 => ?_⟩
        have sxa := sx.trans sa
        refine ⟨_, rfl, _, rfl, p2, a, 30, m, y, o', k', rfl, hc3'.same sxa, g', za.mono (by decide), by decide, fun r2 Hb nr2 sb er2 => ?_⟩
        have sxb := sxa.trans sb
        rw [M.oy F] at er2
        refine ⟨_, _, dp_ints (sb _ _ er1), dp_ints er2, sh_ints _, sh_ints _, _, rfl, no' (by rw [eqv_intL]; rfl) ?_⟩
        refine ⟨_, rfl, _, rfl, _, rfl, p, p2, a, 9, m, y, o, k, m, y, o', k', rfl, hc3.same sxb, g, hc3'.same sxb, g', za, by decide, fun t Hc nt sc et => ?_⟩
        rw [M.stl F] at et
        have sxc := sxb.trans sc
        refine ⟨(9 : Int), rfl, by decide, by decide, fun D7 hD7 => ?_⟩
        have en9 : (9 : Int).toNat = 9 := rfl
        rw [en9]
        have zj : ∀ j : Nat, j < 9 → Sz 78 (a + (j : Nat)) := fun j hj => Sz.add (n := 77) za (znat j (by omega) (by decide)) (by decide : 77 < 78)
        refine lc_ints (walk_range (lo := 0) (n := 9)) yFn_same hD7 (by show 9 < 2 ^ 24; omega) (fun j => fdF m y o k (a + (j : Nat))) (fun _ _ => trivial) ?_ ?_
        · rintro j x H2 H3 R hj s2 ⟨rfl, rfl⟩ k1
          refine ⟨rfl, ?_⟩
          have zj1 : Sz 560 (a + (0 + (j : Int))) := by
            rw [Int.zero_add]
            exact (zj j hj).mono (by decide)
          refine ⟨_, rfl, _, rfl, _, rfl, _, _, rfl, rfl, made_yr (hc3.same (sxc.trans s2)) g zj1 fun p' D1 D2 us H4 n4 s4 ne f1 f2 yd => ?_⟩
          obtain ⟨dx, e⟩ := yd.yr
          refine ⟨p', Cy, dx, _, _, rfl, e, Ty.cl, Ty.n2, yf_first _ _ _ _ _, ?_⟩
          have k2 := k1 H4 s4
          rw [Int.zero_add]
          exact k2
        · intro H5 e5 s15
          refine ⟨_, _, dp_ints (s15 _ _ et), dp_ints e5, sh_ints _, sh_ints _, ?_⟩
          rw [eqv_intL]
          have sA := sxc.trans s15
          exact q H5 (extN_trans eN03 (extN_same sA)) (tb3.ext sA)
end
/-! ### Calendars beside one another -/
def alk (m y o k m' y' o' k' : Rat) : Bool := decide (m = m') && (decide (y = y') && (decide (fmF m o = fmF m' o') && decide (mkF y k = mkF y' k')))
def spCaG (K : PySem.W.Frag) (C Cc : Addr) : Sp := fun vs H Q _ => ∃ (p : Addr) (x : V) (m y o k : Rat), vs = [.ref p, x] ∧ Cl C Cc H p m y o k ∧ GoodW m y o k ∧
  ((∃ (r : Addr) (m' y' o' k' : Rat), x = .ref r ∧ Cl C Cc H r m' y' o' k' ∧ GoodW m' y' o' k' ∧ ∀ H', Same H H' → Q (.bl (alk m y o k m' y' o' k')) H') ∨ (∃ t, TyX K H x t ∧ PySem.W.kitOne K t (.ref Cc) = some false ∧ Q (.bl false) H))
structure CaX (K : PySem.W.Frag) (C Cc : Addr) : Prop extends CaT K C Cc where
  ty : ∀ (H : Hp) (a dx : Addr) (fs : List (Str × V)), H a = some (.ins Cc dx fs) → TyX K H (.ref a) (.ref Cc)
section
variable {P : Program} {w : World} {K : PySem.W.Frag} {mg : Str → Option Value} {base : Heap} {C Cc : Addr}
theorem op_eqSh {X : Cx} {C : Addr} {j : Nat} {qual : Str} {st : Stmt} {ps : List Str} (c : Cm X.prog X.w X.K X.mg X.base CX0 1 C "__eq__" qual st ps (spShG X.K C)) (hr : Room j X.A) (hk : 2 ≤ j) (b : Bd "__eq__" qual st ps := by exact b_Share_eq) : OpR X (compareOp .Eq) (rEqTB X.K (DOwn X.K C (spShG X.K C) E0)) := by
  obtain ⟨f, fd, F, M, hc, G⟩ := c.ex
  exact op_eqTB (eqB_own G M.1 M.2 (F.bindsN b) pass0) (hr.mono hk)
theorem own_sh {H : Hp} {p r : Addr} {q q' : Rat} (T : ShX K C) (h : Sh C H p q) (h' : Sh C H r q') : DOwn K C (spShG K C) E0 (.ref p) (.ref r) H (decide (q = q')) := by
  obtain ⟨dx, e⟩ := h
  obtain ⟨dy, e'⟩ := h'
  refine .inl ⟨p, dx, _, rfl, e, ?_⟩
  by_cases z : r = p
  · subst z
    refine .inl ⟨rfl, ?_⟩
    rw [e] at e'
    injection e' with z1
    injection z1 with z2 z3 z4
    have : q = q' := by
      rw [sf_eq, sf_eq] at z4
      injection z4 with a1 a2
      injection a1 with a3 a4
      injection a2 with b1 b2
      injection b1 with b3 b4
      exact Rat.ext (V.int.inj a4) (by have := V.int.inj b4; omega)
    exact decide_eq_true this
  · exact .inr ⟨fun w => z (V.ref.inj w), .ref C, T.ty _ _ _ _ e', nf_self, p, .ref r, q, rfl, ⟨dx, e⟩, .inl ⟨r, q', rfl, ⟨dy, e'⟩, rfl, Ext.rfl'⟩⟩
theorem ok_caG (D : Dm K Cc "__eq__" "Calendar.__eq__" s_Calendar_eq) (S : ShX K C) (T : CaX K C Cc) (g_isinstance : mg "isinstance" = none) (h_Calendar : mg "Calendar" = some (.ref Cc)) (f_Share_eq : Cm P w K mg base CX0 1 C "__eq__" "Share.__eq__" s_Share_eq ["self", "other"] (spShG K C))
    (f_kept_form : Ca P w K mg base CX0 7 "kept_form" s_kept_form [] ["calendar"] (spKf C Cc)) : Cm P w K mg base CX0 8 Cc "__eq__" "Calendar.__eq__" s_Calendar_eq ["self", "other"] (spCaG K C Cc) := by
  refine cm0 (k := 7) D c_Calendar_eq (fun vs H Q E h => ?_) fun f cdv A outer s H vs Q E hr h => ?_
  · obtain ⟨p, x, m, y, o, k, rfl, _⟩ := h
    rfl
  · obtain ⟨p, x, m, y, o, k, rfl, hp, g, hh⟩ := h
    refine ⟨_, (pss_one (ps_ret (pe_and (pe_callB call_isi rfl g_isinstance (by decide +kernel) (pa_cons (pv 1) (pa_cons (pe_glob (v := .ref Cc) rfl h_Calendar rfl) pa_nil))) (pe_one (pe_cmpR (op_eqSh f_Share_eq hr (by decide)) (pe_ca f_kept_form b_kept_form hr (by decide) pass0 rfl (pa_cons (pv 0) pa_nil)) (pe_ca f_kept_form b_kept_form hr (by decide) pass0 rfl (pa_cons (pv 1) pa_nil)) (nomark _)))))), ?_⟩
    rcases hh with ⟨r, m', y', o', k', rfl, hr', g', q⟩ | ⟨t, ty, kt, q⟩
    · obtain ⟨dx, _, _, _, _, er, _⟩ := id hr'
      refine ⟨_, rfl, _, _, _, _, _, rfl, .own Cc, T.ty _ _ _ _ er, kit_self, _, rfl, iteT ?_⟩
      refine ⟨_, rfl, p, m, y, o, k, rfl, hp, g, fun t1 H1 n1 s1 k1 => ?_⟩
      refine ⟨_, rfl, r, m', y', o', k', rfl, hr'.same s1, g', fun t2 H2 n2 s2 k2 => ?_⟩
      obtain ⟨a1, b1, c1, d1, e1, x1, x2, x3, x4⟩ := k1.same s2
      obtain ⟨a2, b2, c2, d2, e2, z1, z2, z3, z4⟩ := k2
      refine ⟨t1, t2, _, _, fun i => if i = 0 then decide (m = m') else if i = 1 then decide (y = y') else if i = 2 then decide (fmF m o = fmF m' o') else decide (mkF y k = mkF y' k'), rfl, rfl, SqT.of e1, SqT.of e2, rfl, ?_, fun H3 s3 => ?_⟩
      · intro i pp qq hi hj H3 s3
        match i, hi, hj with
        | 0, hi, hj => cases hi; cases hj; exact own_sh S (x1.same s3) (z1.same s3)
        | 1, hi, hj => cases hi; cases hj; exact own_sh S (x2.same s3) (z2.same s3)
        | 2, hi, hj => cases hi; cases hj; exact own_sh S (x3.same s3) (z3.same s3)
        | 3, hi, hj => cases hi; cases hj; exact own_sh S (x4.same s3) (z4.same s3)
        | j + 4, hi, hj => simp at hi
      · have ea : (List.range ([V.ref a1, V.ref b1, V.ref c1, V.ref d1] : List V).length).all (fun i => if i = 0 then decide (m = m') else if i = 1 then decide (y = y') else if i = 2 then decide (fmF m o = fmF m' o') else decide (mkF y k = mkF y' k')) = alk m y o k m' y' o' k' := by
          have e2 : List.range ([V.ref a1, V.ref b1, V.ref c1, V.ref d1] : List V).length = [0, 1, 2, 3] := rfl
          rw [e2]
          unfold alk
          simp only [List.all_cons, List.all_nil, Bool.and_true]
          rfl
        rw [ea]
        exact q H3 (s1.trans (s2.trans s3))
    · exact ⟨_, rfl, _, _, _, _, _, rfl, .own Cc, ty, kt, _, rfl, iteF q⟩
end
/-! ### near rounds side by side -/
theorem op_neNr {X : Cx} {C : Addr} {j : Nat} {qual : Str} {st : Stmt} {ps : List Str} (c : Cm X.prog X.w X.K X.mg X.base CX0 1 C "__eq__" qual st ps (spShG X.K C)) (hty : ∀ (H : Hp) (a dx : Addr) (fs : List (Str × V)), H a = some (.ins C dx fs) → TyX X.K H (.ref a) (.ref C)) (hr : Room j X.A) (hk : 3 ≤ j) (b : Bd "__eq__" qual st ps := by exact b_Share_eq) : OpR X (compareOp .NotEq) (rNeG (DList (DTup X.K (fun x y H => DFlat x y H ∨ DSh C x y H)))) := by
  refine op_neLG (n := 2) (mon_tup (Mon.or mon_flat mon_sh)) (eqG_tup (n := 1) (Mon.or mon_flat mon_sh) (EqG.or (eqG_flat.mono (Nat.zero_le _)) (eqG_own (E := E0) c b pass0 ?_))) (hr.mono hk)
  rintro x y H ⟨p, r, q, rfl, rfl, ⟨dx, e⟩, ⟨dy, e'⟩⟩
  refine .inl ⟨p, dx, _, rfl, e, ?_⟩
  by_cases h : r = p
  · subst h
    exact .inl ⟨rfl, rfl⟩
  · refine .inr ⟨fun z => h (V.ref.inj z), .ref C, hty _ _ _ _ e', nf_self, p, .ref r, q, rfl, ⟨dx, e⟩, .inl ⟨r, q, rfl, ⟨dy, e'⟩, ?_⟩⟩
    rw [decide_eq_true rfl]
    exact ⟨rfl, Ext.rfl'⟩
theorem prs_rows {K : PySem.W.Frag} {C : Addr} {m y : Rat} {H : Hp} {us us2 : List V} {L : List (Int × Int)} (h : RowsR (RowS C m y) H us L) (h2 : RowsR (RowS C m y) H us2 L) : Prs (DTup K (fun x y H => DFlat x y H ∨ DSh C x y H)) us us2 H := ⟨h.1.trans h2.1.symm, fun i x y' hx hy => by
  obtain ⟨z, ez, q, s, rfl, eq, hs⟩ := h.2 i x hx
  obtain ⟨z2, ez2, q2, s2, rfl, eq2, hs2⟩ := h2.2 i y' hy
  rw [ez] at ez2
  cases ez2
  have fl : ∀ i : Int, DFlat (.int i) (.int i) H := fun i => ⟨rfl, rfl, by simp [eqV]⟩
  exact ⟨q, q2, _, _, rfl, rfl, SqT.of eq, SqT.of eq2, Prs.cons (.inl (fl _)) (Prs.cons (.inl (fl _)) (Prs.cons (.inr ⟨s, s2, _, rfl, rfl, hs, hs2⟩) Prs.nil))⟩⟩
theorem RowsR.sameS {C : Addr} {m y : Rat} {H H1 : Hp} {us : List V} {L : List (Int × Int)} (h : RowsR (RowS C m y) H us L) (s : Same H H1) : RowsR (RowS C m y) H1 us L := ⟨h.1, fun j u hu => by
  obtain ⟨z, ez, q, t, e1, e2, e3⟩ := h.2 j u hu
  exact ⟨z, ez, q, t, e1, s _ _ e2, e3.same s⟩⟩
theorem perm_sorted : ∀ {u v : List Int}, u.Perm v → u.Pairwise (· ≤ ·) → v.Pairwise (· ≤ ·) → u = v
  | [], v, h, _, _ => (List.nil_perm.mp h).symm
  | x :: u, [], h, _, _ => by have := h.length_eq; simp at this
  | x :: u, y :: v, h, hu, hv => by
    obtain ⟨u1, u2⟩ := List.pairwise_cons.mp hu
    obtain ⟨v1, v2⟩ := List.pairwise_cons.mp hv
    have e : x = y := by
      have a : y ≤ x := by
        rcases List.mem_cons.mp (h.mem_iff.mp (List.mem_cons_self (a := x) (l := u))) with e | hx
        · omega
        · exact v1 x hx
      have b : x ≤ y := by
        rcases List.mem_cons.mp (h.mem_iff.mpr (List.mem_cons_self (a := y) (l := v))) with e | hx
        · omega
        · exact u1 y hx
      omega
    subst e
    rw [perm_sorted ((List.perm_cons x).mp h) u2 v2]
theorem eqv_rows (zs : List (List Int)) : PyData.eqv (.list (zs.map tupD)) (.list (zs.map tupD)) = true := SeqAt.eqv_refl _ (by simp only [PyData.canLay0]; exact lay_tups zs)
theorem alk_self {m y o k o' k' : Rat} (h1 : fmF m o' = fmF m o) (h2 : mkF y k' = mkF y k) : alk m y o k m y o' k' = true := by
  unfold alk
  rw [h1, h2]
  simp
/-! ### all but the draws, and the tables, stay -/
theorem tabs_but {T : List (Addr × Str)} {l : Addr} {n : Nat} {H H1 : Hp} (h : LamX.Tabs T H) (b : But l H H1) (d : Dr H l n) : LamX.Tabs T H1 := fun p hp => by
  obtain ⟨ps, e1, e2, e3⟩ := h p hp
  obtain ⟨_, _, _, el, _⟩ := id d
  refine ⟨ps, b _ _ (ne_of e1 el (by intro z; cases z)) e1, e2, fun pos cv e => ?_⟩
  obtain ⟨c, e4, e5⟩ := e3 pos cv e
  exact ⟨c, e4, b _ _ (ne_of e5 el (by intro z; unfold LamX.CodeO at z; cases z)) e5⟩
theorem Cl.but {C Cc l p : Addr} {H H1 : Hp} {n : Nat} {m y o k : Rat} (h : Cl C Cc H p m y o k) (b : But l H H1) (d : Dr H l n) : Cl C Cc H1 p m y o k := by
  obtain ⟨dx, a, b', c, d', e, ⟨x1, h1⟩, ⟨x2, h2⟩, ⟨x3, h3⟩, ⟨x4, h4⟩⟩ := h
  exact ⟨dx, a, b', c, d', b.ins d e, ⟨x1, b.ins d h1⟩, ⟨x2, b.ins d h2⟩, ⟨x3, b.ins d h3⟩, ⟨x4, b.ins d h4⟩⟩
/-! ### the law -/
def spLaw55 (K : PySem.W.Frag) (T : List (Addr × Str)) : Sp := fun vs H Q _ => ∃ (a : Addr) (ns : List Int), vs = [.ref a] ∧ SqL K H a (ns.map V.int) ∧ ns.length ≤ 63 ∧ LamX.Tabs T H ∧ ∀ H', Q (.bl true) H'
section
variable {P : Program} {w : World} {K : PySem.W.Frag} {mg : Str → Option Value} {base : Heap} {C Cc Cd : Addr}
set_option maxHeartbeats 16000000 in
theorem ok_law (D : Df K mg "law" s_law []) {T : List (Addr × Str)} (Td : DaT K Cd) (hT : ∀ (H : Hp) (a dx : Addr) (fs : List (Str × V)), H a = some (.ins C dx fs) → TyX K H (.ref a) (.ref C)) (tyC : ∀ (H : Hp) (a dx : Addr) (fs : List (Str × V)), H a = some (.ins Cc dx fs) → TyX K H (.ref a) (.ref Cc)) (NT : NeT K Cc) (f_l_draws : Ca P w K mg base CX0 1 "_law_draws" s_l_draws [] ["_law_cell"] spDraws) (f_l_next : Ca P w K mg base CX0 1 "_law_next" s_l_next [] ["_law_draws_here"] spNext) (f_l_four : Ca P w K mg base CX0 4 "_law_four" s_l_four [] ["_law_draws_here"] spFour) (f_l_made : Ca P w K mg base CX0 10 "_law_made" s_l_made [] ["_law_four_here", "_law_way"] (spMade C Cc)) (f_l_day : Ca P w K mg base CX0 2 "_law_day" s_l_day [] ["_law_draws_here"] spDay) (g_range : mg "range" = none) (f_date_of : Ca P w K mg base CX0 10 "date_of" s_date_of [] ["calendar", "day"] (spDateOf C Cc Cd)) (f_stretches : Ca P w K mg base CX0 3 "stretches" s_stretches [] ["calendar", "many"] (spStr' C Cc)) (f_near_rounds : Ca P w K mg base CX0 7 "near_rounds" s_near_rounds [] ["calendar", "most"] (spNrs C Cc))
    (f_Share_eq : Cm P w K mg base CX0 1 C "__eq__" "Share.__eq__" s_Share_eq ["self", "other"] (spShG K C)) (f_Calendar_eq : Cm P w K mg base CX0 8 Cc "__eq__" "Calendar.__eq__" s_Calendar_eq ["self", "other"] (spCaG K C Cc)) (f_whole_round : Ca P w K mg base CX0 3 "whole_round" s_whole_round [] ["calendar"] (spWr C Cc))
    (f_l_shifted : Ca P w K mg base CX0 4 "_law_shifted" s_l_shifted [] ["_law_draws_here", "_law_four_here"] spShf55) (f_l_days_right : Ca P w K mg base CX0 14 "_law_days_right" s_l_days_right [] ["_law_one", "_law_two", "_law_at", "_law_more"] (spDr55 C Cc)) (f_l_years_right : Ca P w K mg base CX0 14 "_law_years_right" s_l_years_right [] ["_law_one", "_law_two", "_law_number"] (spYr55 T C Cc)) :
    Ca P w K mg base CX0 15 "law" s_law [] ["_law_script"] (spLaw55 K T) := by
  refine ca0 (k := 14) D c_law (fun vs H Q E h => ?_) fun f cdv A outer s H vs Q E hr h => ?_
  · obtain ⟨a, ns, rfl, _⟩ := h
    rfl
  · obtain ⟨a, ns, rfl, hS, hlen, tb, q⟩ := h
    refine ⟨_, (pss_cons (ps_for PassesOwn.never rfl (pi_list (pe_op op_cat (pe_slice sl_list (pv 0) po_none (po_some pe_int)) (pe_lst (pa_cons pe_int pa_nil)))) (pg_name (i := 1) c_law.nd rfl (.inl rfl)) (pss_cons (ps_set (i := 2) c_law.nd rfl (.inl rfl) (pe_ca f_l_draws b_l_draws hr (by decide) pass0 rfl (pa_cons (pv 1) pa_nil)))
      (pss_cons (ps_set (i := 3) c_law.nd rfl (.inl rfl) (pe_ca f_l_four b_l_four hr (by decide) pass0 rfl (pa_cons (pv 2) pa_nil)))
      (pss_cons (ps_set (i := 4) c_law.nd rfl (.inl rfl) (pe_ca f_l_made b_l_made hr (by decide) pass0 rfl (pa_cons (pv 3) (pa_cons (pe_ca f_l_next b_l_next hr (by decide) pass0 rfl (pa_cons (pv 2) pa_nil)) pa_nil))))
      (pss_cons (ps_set (i := 5) c_law.nd rfl (.inl rfl) (pe_ca f_l_made b_l_made hr (by decide) pass0 rfl (pa_cons (pe_ca f_l_shifted b_l_shifted hr (by decide) pass0 rfl (pa_cons (pv 2) (pa_cons (pv 3) pa_nil))) (pa_cons (pe_ca f_l_next b_l_next hr (by decide) pass0 rfl (pa_cons (pv 2) pa_nil)) pa_nil))))
      (pss_cons (ps_if (PW.pt (pw_or (pt_cmpR (op_neC NT f_Calendar_eq b_Calendar_eq pass0 hr (by decide)) (pv 4) (pv 5) (nomark _)) (pw_or (pt_cmpR (op_neD hr.units) (pe_ca f_stretches b_stretches hr (by decide) pass0 rfl (pa_cons (pv 4) (pa_cons pe_int pa_nil))) (pe_ca f_stretches b_stretches hr (by decide) pass0 rfl (pa_cons (pv 5) (pa_cons pe_int pa_nil))) (nomark _)) (pw_or1 (pt_cmpR (op_neD hr.units) (pe_ca f_whole_round b_whole_round hr (by decide) pass0 rfl (pa_cons (pv 4) pa_nil)) (pe_ca f_whole_round b_whole_round hr (by decide) pass0 rfl (pa_cons (pv 5) pa_nil)) (nomark _)))))) (pss_one (ps_ret pe_bl)) pss_nil)
      (pss_cons (ps_if (pt_cmpR (op_neNr f_Share_eq hT hr (by decide)) (pe_ca f_near_rounds b_near_rounds hr (by decide) pass0 rfl (pa_cons (pv 4) (pa_cons (pe_op op_pow pe_int pe_int) pa_nil))) (pe_ca f_near_rounds b_near_rounds hr (by decide) pass0 rfl (pa_cons (pv 5) (pa_cons (pe_op op_pow pe_int pe_int) pa_nil))) (nomark _)) (pss_one (ps_ret pe_bl)) pss_nil)
      (pss_cons (ps_for PassesOwn.never rfl (pi_range1 rfl g_range (pa_cons pe_int pa_nil)) (pg_name (i := 6) c_law.nd rfl (.inl rfl)) (pss_one (ps_if (pt_not (pt_val (pe_ca f_l_days_right b_l_days_right hr (by decide) pass0 rfl (pa_cons (pv 4) (pa_cons (pv 5) (pa_cons (pe_ca f_l_day b_l_day hr (by decide) pass0 rfl (pa_cons (pv 2) pa_nil)) (pa_cons (pe_op op_sub (pe_op op_mod (pe_ca f_l_next b_l_next hr (by decide) pass0 rfl (pa_cons (pv 2) pa_nil)) pe_int) pe_int) pa_nil))))))) (pss_one (ps_ret pe_bl)) pss_nil)))
      (pss_one (ps_if (pt_not (pt_val (pe_ca f_l_years_right b_l_years_right hr (by decide) pass0 rfl (pa_cons (pv 4) (pa_cons (pv 5) (pa_cons (pe_fld (pe_ca f_date_of b_date_of hr (by decide) pass0 rfl (pa_cons (pv 4) (pa_cons (pe_ca f_l_day b_l_day hr (by decide) pass0 rfl (pa_cons (pv 2) pa_nil)) pa_nil))) rfl) pa_nil)))))) (pss_one (ps_ret pe_bl)) pss_nil))))))))))
      (pss_one (ps_ret pe_bl))), ?_⟩
    refine ⟨_, rfl, _, rfl, a, _, rfl, hS, fun p1 n1 => ?_⟩
    have s1 := Same.new (o := .lst (cutV (ns.map V.int) none (some 4))) n1
    refine ⟨(by show 1 ≤ sizeLine; decide), fun p2 n2 => ?_⟩
    have s2 := s1.trans (Same.new (o := .lst [.int 0]) n2)
    have ne12 : p1 ≠ p2 := ne_of_none upd_same n2
    refine ⟨p1, p2, _, _, rfl, rfl, (by rw [upd_ne ne12]; exact upd_same), upd_same, cut_len hlen, fun l3 n3 => ?_⟩
    have s3 := s2.trans (Same.new (o := .lst (cutV (ns.map V.int) none (some 4) ++ [V.int 0])) n3)
    have tb0 := tb.ext s3
    generalize hH0 : L2.upd _ l3 (.lst (cutV (ns.map V.int) none (some 4) ++ [V.int 0])) = H0 at *
    have hl3 : H0 l3 = some (.lst (cutV (ns.map V.int) none (some 4) ++ [V.int 0])) := by rw [← hH0]; exact upd_same
    refine ⟨l3, rfl, ⟨_, SqL.of hl3⟩, for_list (K := K) (a := l3) (xs := cutV (ns.map V.int) none (some 4) ++ [V.int 0]) (fun i σ H' => ∃ v1 v2 v3 v4 v5 v6 : Option V, σ = [some (.ref a), v1, v2, v3, v4, v5, v6] ∧ H' l3 = some (.lst (cutV (ns.map V.int) none (some 4) ++ [V.int 0])) ∧ LamX.Tabs T H')
      ⟨_, _, _, _, _, _, rfl, hl3, tb0⟩ (fun i σ H' _ ⟨_, _, _, _, _, _, _, e, _⟩ => SqL.of e) ?_ (fun σ H' ⟨_, _, _, _, _, _, e, _⟩ => by subst e; exact q H')⟩
    rintro i x σ H1 hi ⟨v1, v2, v3, v4, v5, v6, rfl, e3, tb1⟩
    obtain ⟨c, rfl⟩ := cut_ints hi
    refine ⟨_, rfl, c, rfl, fun l H2 nl s2 d2 => ?_⟩
    have nel : l3 ≠ l := ne_of_none e3 nl
    refine ⟨_, rfl, l, 0, rfl, d2, by decide, fun r H3 m y o k g b3 d3 fo => ?_⟩
    have e33 := b3 _ _ nel (s2 _ _ e3)
    have tb3 := tabs_but (tb1.ext s2) b3 d2
    refine ⟨_, rfl, _, rfl, l, _, rfl, d3, by decide, fun u4 H4 u40 u41 b4 d4 => ?_⟩
    refine ⟨r, u4, m, y, o, k, rfl, fo.but b4 d3, g, fun p H5 np s5 cl5 => ?_⟩
    have d5 := d4.same s5 (Nat.le_refl _)
    have fo5 := (fo.but b4 d3).same s5
    have e35 := s5 _ _ (b4 _ _ nel e33)
    have tb5 := (tabs_but tb3 b4 d3).ext s5
    refine ⟨_, rfl, _, rfl, l, r, _, m, y, o, k, rfl, d5, by decide, fo5, g, fun r2 H6 n' o' k' fo6 g' M efm emk b6 d6 => ?_⟩
    have cl6 := cl5.but b6 d5
    have e36 := b6 _ _ nel e35
    have tb6 := tabs_but tb5 b6 d5
    refine ⟨_, rfl, l, _, rfl, d6, by decide, fun u7 H7 u70 u71 b7 d7 => ?_⟩
    refine ⟨r2, u7, m, y, o', k', rfl, fo6.but b7 d6, g', fun p2 H8 np2 s8 cl8' => ?_⟩
    have d8 := d7.same s8 (Nat.le_refl _)
    have cl8 := (cl6.but b7 d6).same s8
    have e38 := s8 _ _ (b7 _ _ nel e36)
    have tb8 := (tabs_but tb6 b7 d6).ext s8
    obtain ⟨dxp, _, _, _, _, ep, _⟩ := id cl8
    obtain ⟨dxp', _, _, _, _, ep', _⟩ := id cl8'
    refine ⟨_, rfl, _, rfl, p, dxp, _, _, rfl, ep, tyC _ _ _ _ ep', nf_self, p, .ref p2, m, y, o, k, rfl, cl8, g.w, .inl ⟨p2, m, y, o', k', rfl, cl8', g'.w, fun H9 s9 => ⟨_, rfl, _, rfl, no' (by rw [alk_self efm emk]; rfl) ?_⟩⟩⟩
    refine ⟨_, rfl, p, 14, m, y, o, k, rfl, cl8.same s9, g, by decide, fun t1 H10 us1 ts1 nt1 s10 et1 pm1 so1 ro1 => ?_⟩
    have s8a := s9.trans s10
    refine ⟨_, rfl, p2, 14, m, y, o', k', rfl, cl8'.same s8a, g', by decide, fun t2 H11 us2 ts2 nt2 s11 et2 pm2 so2 ro2 => ?_⟩
    have s8b := s8a.trans s11
    obtain rfl : ts1 = ts2 := perm_sorted (pm1.trans pm2.symm) so1 so2
    refine ⟨_, _, (ro1.same s11).dp (s11 _ _ et1), ro2.dp et2, sh_tups _, sh_tups _, _, rfl, no' (by rw [eqv_rows]; rfl) ?_⟩
    refine ⟨_, rfl, p, m, y, o, k, rfl, cl8.same s8b, g, fun w1 H12 nw1 s12 ew1 => ?_⟩
    have s8c := s8b.trans s12
    refine ⟨_, rfl, p2, m, y, o', k', rfl, cl8'.same s8c, g', fun w2 H13 nw2 s13 ew2 => ?_⟩
    have s8d := s8c.trans s13
    refine ⟨_, _, dp_tup (ns := [wrD m y, wrM m y, wrY m y]) (s13 _ _ ew1), dp_tup (ns := [wrD m y, wrM m y, wrY m y]) ew2, sh_tup _, sh_tup _, _, rfl, no' (by rw [eqv_tup]; rfl) ?_⟩
    clear pm1 so1 ro1 pm2 so2 ro2 et1 et2 ew1 ew2
    refine ⟨_, rfl, _, _, rfl, rfl, ⟨by decide, by decide, by decide⟩, p, _, m, y, o, k, rfl, cl8.same s8d, g, by decide, by unfold Sz; decide, fun D1 us1 H14 nD1 s14 eD1 ro1 => ?_⟩
    have s8e := s8d.trans s14
    refine ⟨_, rfl, _, _, rfl, rfl, ⟨by decide, by decide, by decide⟩, p2, _, m, y, o', k', rfl, cl8'.same s8e, g', by decide, by unfold Sz; decide, fun D2 us2 H15 nD2 s15 eD2 ro2 => ?_⟩
    have s8f := s8e.trans s15
    refine ⟨⟨D1, D2, us1, us2, rfl, rfl, s15 _ _ eD1, eD2, prs_rows (ro1.sameS s15) ro2⟩, fun H16 s16 => ⟨_, rfl, no' rfl ?_⟩⟩
    have s8g := s8f.trans s16
    have clX := cl8.same s8g
    have clX' := cl8'.same s8g
    have dX := d8.same s8g (Nat.le_refl _)
    have eX := s8g _ _ e38
    have tbX := tb8.ext s8g
    clear cl8 cl8' d8 e38 tb8 eD1 eD2 ro1 ro2
    refine ⟨4, rfl, by decide, by decide, ?_⟩
    refine for_range (n := 4) (fun i σ H' => (∃ v6 : Option V, σ = [some (.ref a), some (.int c), some (.ref l), some (.ref r), some (.ref p), some (.ref p2), v6]) ∧ Cl C Cc H' p m y o k ∧ Cl C Cc H' p2 m y o' k' ∧ Dr H' l (200 + 2 * i) ∧ H' l3 = some (.lst (cutV (ns.map V.int) none (some 4) ++ [V.int 0])) ∧ LamX.Tabs T H') ⟨⟨_, rfl⟩, clX, clX', dX.mono (by omega), eX, tbX⟩ ?_ ?_
    · rintro j σ HA hj ⟨⟨w6, rfl⟩, clA, clA', dA, eA, tbA⟩
      refine ⟨_, rfl, _, rfl, _, rfl, l, _, rfl, dA, by omega, fun dv HB zd bB dB => ?_⟩
      refine ⟨_, rfl, l, _, rfl, dB, by omega, fun nv HC nv0 nv1 bC dC => ?_⟩
      have w1 := Int.emod_nonneg nv (show (2001 : Int) ≠ 0 by decide)
      have w2 := Int.emod_lt_of_pos nv (show (0 : Int) < 2001 by decide)
      have clC := (clA.but bB dA).but bC dB
      have clC' := (clA'.but bB dA).but bC dB
      have tbC := tabs_but (tabs_but tbA bB dA) bC dB
      refine ⟨_, _, rfl, rfl, md, _, _, rfl, rfl, p, p2, dv, nv % 2001 - 1000, _, m, y, o, k, o', k', rfl, clC, g, clC', g', M, zd.mono (by decide), (Sz.of (n := 15) (by omega) (by omega)).mono (by decide), fun HD sD => ⟨_, rfl, no' rfl ?_⟩⟩
      exact ⟨⟨_, rfl⟩, clC.same sD, clC'.same sD, (dC.same sD (Nat.le_refl _)).mono (by omega), sD _ _ (bC _ _ nel (bB _ _ nel eA)), tbC.ext sD⟩
    · rintro σ HA ⟨⟨w6, rfl⟩, clA, clA', dA, eA, tbA⟩
      refine ⟨_, rfl, _, rfl, _, rfl, _, rfl, l, _, rfl, dA, by omega, fun dv HB zd bB dB => ?_⟩
      have clB := clA.but bB dA
      have clB' := clA'.but bB dA
      have tbB := tabs_but tbA bB dA
      refine ⟨p, dv, m, y, o, k, rfl, clB, g, zd.mono (by decide), fun t HC nt sC ht => ?_⟩
      obtain ⟨dx, et⟩ := id ht
      have zy : Sz 77 (dtY m y o k dv) := g.zdY (zd.mono (by decide)) (by decide)
      refine ⟨t, Cd, dx, _, _, rfl, et, Td.cl, Td.n1, df_year _ _ _ _, ?_⟩
      refine ⟨p, p2, _, _, m, y, o, k, o', k', rfl, clB.same sC, g, clB'.same sC, g', M, zy, tbB.ext sC, fun HE sE tE => ⟨_, rfl, no' rfl ?_⟩⟩
      exact ⟨_, _, _, _, _, _, rfl, sE _ _ (sC _ _ (bB _ _ nel eA)) (by intro ps z; cases z), tE⟩
end
theorem df_mkD {K : PySem.W.Frag} {h : Heap} {mg : Str → Option Value} {x : Str} {st : Stmt} {f T : Addr} {oc kV doc pm cdv ct : Value} {od an : Option Addr} {osl : Array (Option Value)} {nT : Nat} {its : List Value} {dvs : List V} (X : K.In h) (G : h.Ns mainGlobals mg) (a : PySem.W.nsIn K mainGlobals x = some (some (.ref f)))
    (l : K.lookup f = some ⟨oc, od, .func (PySem.W.fnOf x x (defArgs st) (defBody st) (defScope st) (.ref T) kV doc pm an cdv ct), osl⟩) (c : PySem.W.codeIn K cdv x = true) (k : PySem.W.keepIn K (.ref f) = true) {oT : Obj} (lT : K.lookup T = some oT) (eT : oT.data = .seq its.toArray nT) (r : Vals dvs its) (ne : dvs ≠ []) : Df K mg x st dvs :=
  ⟨f, _, ⟨⟨oc, od, .ref T, kV, doc, pm, an, cdv, ct, osl, rfl, l, c, .inr ⟨ne, T, _, its, nT, rfl, lT, eT, r⟩, .inl rfl⟩, k⟩, PySem.W.mg_of X G a⟩
theorem net_mk {K : PySem.W.Frag} {C : Addr} {nm q N bs hd sn sub ab col dd k0 k1 k2 k3 k5 nw} (ne : PySem.W.findIn K (.ref C) "__ne__" = some (some (.builtin "object.__ne__"))) (l : K.lookup C = some (excClassObj nm q C N bs [.type "object"] hd sn sub ab col dd k0 k1 k2 k3 k5 nw)) : NeT K C := ⟨ne, ⟨_, _, _, _, _, _, _, _, _, _, _, _, _, _, _, _, l⟩⟩
/-! ### the end with tables -/
def spLawC (K : PySem.W.Frag) (cs : List (Addr × Addr)) : Sp := fun vs H Q _ => ∃ (a : Addr) (ns : List Int), vs = [.ref a] ∧ SqL K H a (ns.map V.int) ∧ ns.length ≤ 63 ∧ (∀ p ∈ cs, H p.2 = some (.tbl #[])) ∧ ∀ H', Q (.bl true) H'
theorem ca_sub {P : Program} {w : World} {K : PySem.W.Frag} {mg : Str → Option Value} {base : Heap} {CX : CXT} {k : Nat} {x : Str} {st : Stmt} {dvs : List V} {ps : List Str} {sp sp' : Sp} (c : Ca P w K mg base CX k x st dvs ps sp) (h : ∀ vs H Q E, sp' vs H Q E → sp vs H Q E) : Ca P w K mg base CX k x st dvs ps sp' := by
  obtain ⟨f, fd, F, hm, G⟩ := c.ex
  exact ⟨f, fd, F, hm, ⟨fun vs H Q E z => G.len vs H Q E (h _ _ _ _ z), fun A outer s H args us vs Q E hr e0 hb r hsp => G.run A outer s H args us vs Q E hr e0 hb r (h _ _ _ _ hsp)⟩⟩
theorem tab_mk {K : PySem.W.Frag} {x : Str} {f c P : Addr} {o1 o4 : Value} {od od' : Option Addr} {fd : FuncData} {osl osl' : Array (Option Value)} {vs : Array Value} (a : PySem.W.nsIn K mainGlobals x = some (some (.ref f))) (l : K.lookup f = some ⟨o1, od, .func fd, osl⟩) (e : fd.code = .ref c)
    (lc : K.lookup c = some ⟨o4, od', .fields vs, osl'⟩) (v : vs[11]? = some (.ref P)) : PySem.W.tabIn K x = some (c, P) := by
  unfold PySem.W.tabIn
  simp only [a, l, e, lc, v]
theorem walkT {l : PySem.W.OpenLaw} {q : Program} {loose : List Str} {XP : (Str → Option Value) → Heap → Prop} {YP : World → Heap → Prop} {d : DefRec} {K : Params → PySem.W.Frag} (xs : List Str) (hn : l.most = some 63) (hdf : d.params.defaults = [])
    (hfd : ∀ y ∈ xs, ((recsOf q).find? fun e => e.name == y).isSome = true)
    (hY : ∀ (w : World) (h : Heap), YP w h → (K w.params).In h)
    (F : ∀ (w : World) (mg : Str → Option Value) (fa : Addr) (h : Heap), (K w.params).In h → h.Ns mainGlobals mg → mg d.name = some (.ref fa) →
      ∃ (cs : List (Addr × Addr)) (fd : FuncData), (∀ p ∈ cs, (∃ y ∈ xs, PySem.W.tabIn (K w.params) y = some p) ∧ (K w.params).lookup p.2 = none) ∧ (∀ (s : Shared) (u : Value), BindsTo s fd ⟨[u], []⟩ [("_law_script", u)]) ∧
        ∀ base : Heap, (K w.params).In base → base.Ns mainGlobals mg → (∀ p ∈ cs, LamX.TabB base mg p.1 p.2) → FnOk l.prog w (K w.params) mg base CX0 15 fa fd ["_law_script"] (spLawC (K w.params) cs)) :
    PySem.W.WalkO q loose XP YP l.row.toRowW d [] (fun f vs => PySem.call f vs) :=
  walk_T (sp := fun w cs => spLawC (K w.params) cs) xs hn hdf ⟨rfl, by decide, by decide⟩ hfd hY F fun _ _ _ a ns hl ht hS => ⟨a, ns, rfl, hS, hl, ht, fun _ => rfl⟩
theorem lk_none {K : PySem.W.Frag} (as : List Addr) {P : Addr} (e : K.map (fun x => x.1) = as) (h : as.contains P = false) : K.lookup P = none := by
  subst e
  induction K with
  | nil => rfl
  | cons x K ih =>
    rw [List.map_cons, List.contains_cons, Bool.or_eq_false_iff] at h
    rw [List.lookup_cons]
    rw [h.1]
    exact ih h.2
/-! ### what the top has written -/
theorem fin {P : Program} {w : World} {K : PySem.W.Frag} {mg : Str → Option Value} {fa C Cc Cd Cy Cf Cs c1 P1 : Addr} (hfa : mg "law" = some (.ref fa))
    (cl : Cls K C) (nT : PySem.W.findIn K (.ref C) "top" = some none) (nB : PySem.W.findIn K (.ref C) "bottom" = some none) (ha : PySem.W.findIn K (.ref C) "__class__" = some (some (.builtin "object.__class__")))
    (hn : PySem.W.specialIn K (.builtin "object.__class__") "__get__" = some (some (.builtin "getset_descriptor.__get__"))) (htk : PySem.W.takesIn K (.builtin "object.__class__") = some true) (hm : PySem.W.mroIn K C (.type "object") = some true)
    (iC : PySem.W.isClsIn K C = true) (tC : PySem.W.typeIn K (.ref C) = some (.type "type")) (sI : PySem.W.subIn K (.type "int") (.ref C) = some false) (hC : mg "Share" = some (.ref C))
    (dShare : Di K mg "Share" C "Share.__init__" s_Share_init [.int 1])
    (clc : Cls K Cc) (n1 : PySem.W.findIn K (.ref Cc) "month" = some none) (n2 : PySem.W.findIn K (.ref Cc) "year" = some none) (n3 : PySem.W.findIn K (.ref Cc) "moon" = some none) (n4 : PySem.W.findIn K (.ref Cc) "mark" = some none) (ne : Cc ≠ C) {uM : Value} (aM : mg "MARKS" = some uM) (rM : RelV (.int 12) uM)
    (dCal : Di K mg "Calendar" Cc "Calendar.__init__" s_Calendar_init [.non, .non])
    (cld : Cls K Cd) (e1 : PySem.W.findIn K (.ref Cd) "year" = some none) (e2 : PySem.W.findIn K (.ref Cd) "number" = some none) (e3 : PySem.W.findIn K (.ref Cd) "day" = some none) (e4 : PySem.W.findIn K (.ref Cd) "odd" = some none)
    (had : PySem.W.findIn K (.ref Cd) "__class__" = some (some (.builtin "object.__class__"))) (hmd : PySem.W.mroIn K Cd (.type "object") = some true) (hDate : mg "Date" = some (.ref Cd))
    (dDate : Di K mg "Date" Cd "Date.__init__" s_Date_init [.bl false]) (dDateEq : Dm K Cd "__eq__" "Date.__eq__" s_Date_eq)
    (cly : Cls K Cy) (y1 : PySem.W.findIn K (.ref Cy) "number" = some none) (y2 : PySem.W.findIn K (.ref Cy) "first" = some none) (y3 : PySem.W.findIn K (.ref Cy) "names" = some none) (y4 : PySem.W.findIn K (.ref Cy) "lengths" = some none) (y5 : PySem.W.findIn K (.ref Cy) "odd" = some none) (ey1 : Cy ≠ C) (ey2 : Cy ≠ Cc)
    (dYear : Di K mg "Year" Cy "Year.__init__" s_Year_init [])
    (clf : Cls K Cf) (fe1 : PySem.W.findIn K (.ref Cf) "name" = some none) (fe2 : PySem.W.findIn K (.ref Cf) "number" = some none) (fe3 : PySem.W.findIn K (.ref Cf) "day" = some none) (fe4 : PySem.W.findIn K (.ref Cf) "when" = some none)
    (dFeast : Di K mg "Feast" Cf "Feast.__init__" s_Feast_init [.str "plain"])
    (cls : Cls K Cs) (sh1 : PySem.W.findIn K (.ref Cs) "calendar" = some none) (sh2 : PySem.W.findIn K (.ref Cs) "rules" = some none)
    (dShifted : Di K mg "Shifted" Cs "Shifted.__init__" s_Shifted_init [])
    (d_start : Dm K Cc "start" "Calendar.start" s_Calendar_start)
    (d_month_at : Dm K Cc "month_at" "Calendar.month_at" s_Calendar_month_at)
    (d_mark_day : Dm K Cc "mark_day" "Calendar.mark_day" s_Calendar_mark_day)
    (d_month_with : Dm K Cc "month_with" "Calendar.month_with" s_Calendar_month_with)
    (d_mark_in : Dm K Cc "mark_in" "Calendar.mark_in" s_Calendar_mark_in)
    (d_name_of : Dm K Cc "name_of" "Calendar.name_of" s_Calendar_name_of)
    (dEq : Dm K C "__eq__" "Share.__eq__" s_Share_eq)
    (dcEq : Dm K Cc "__eq__" "Calendar.__eq__" s_Calendar_eq)
    (dyEq : Dm K Cy "__eq__" "Year.__eq__" s_Year_eq)
    (dyStr : Dm K Cy "__str__" "Year.__str__" s_Year_str)
    (dsNew : Dm K Cs "new_year" "Shifted.new_year" s_Shifted_new_year)
    (NT : NeT K Cd)
    (NTc : NeT K Cc)
    (NTy : NeT K Cy)
    (hac : PySem.W.findIn K (.ref Cc) "__class__" = some (some (.builtin "object.__class__"))) (hmc : PySem.W.mroIn K Cc (.type "object") = some true) (hCal : mg "Calendar" = some (.ref Cc))
    (hay : PySem.W.findIn K (.ref Cy) "__class__" = some (some (.builtin "object.__class__"))) (hmy : PySem.W.mroIn K Cy (.type "object") = some true) (hYe : mg "Year" = some (.ref Cy))
    {uF : Value} (aF : mg "FIGURES" = some uF) (rF : RelV (.str FIG) uF)
    (t1 : PySem.W.tabIn K "_law_years_right" = some (c1, P1)) (u1 : K.lookup P1 = none) (mk1 : DfC K mg "_law_years_right" s_l_years_right c1)
    (g_abs : mg "abs" = none) (g_range : mg "range" = none) (g_isinstance : mg "isinstance" = none) (g_str : mg "str" = none) (g_int : mg "int" = none) (g_zip : mg "zip" = none) (g_sorted : mg "sorted" = none) (g_tuple : mg "tuple" = none) (g_min : mg "min" = none) (g_max : mg "max" = none) (g_list : mg "list" = none) (g_reversed : mg "reversed" = none)
    (d_numeral : Df K mg "numeral" s_numeral [.int 10])
    (d_later : Df K mg "later" s_later [.int 0, .int 0, .int 0])
    (d_common_divisor : Df K mg "common_divisor" s_common_divisor []) (d_as_share : Df K mg "as_share" s_as_share []) (d_plus : Df K mg "plus" s_plus []) (d_minus : Df K mg "minus" s_minus []) (d_times : Df K mg "times" s_times []) (d_over : Df K mg "over" s_over []) (d_before : Df K mg "before" s_before []) (d_whole : Df K mg "whole" s_whole []) (d_rounded_up : Df K mg "rounded_up" s_rounded_up []) (d_refuse_unfit : Df K mg "refuse_unfit" s_refuse_unfit []) (d_moment_or_nought : Df K mg "moment_or_nought" s_moment_or_nought []) (d_twelfth : Df K mg "twelfth" s_twelfth []) (d_nth_day : Df K mg "nth_day" s_nth_day []) (d_first_from : Df K mg "first_from" s_first_from []) (d_kept_form : Df K mg "kept_form" s_kept_form []) (d_least_alike : Df K mg "least_alike" s_least_alike []) (d_lengths_from : Df K mg "lengths_from" s_lengths_from []) (d_days_of : Df K mg "days_of" s_days_of []) (d_steps : Df K mg "steps" s_steps []) (d_stretches : Df K mg "stretches" s_stretches []) (d_stretch_at : Df K mg "stretch_at" s_stretch_at []) (d_plain_month : Df K mg "plain_month" s_plain_month []) (d_odd_month : Df K mg "odd_month" s_odd_month []) (d_month_of : Df K mg "month_of" s_month_of []) (d_date_of : Df K mg "date_of" s_date_of []) (d_day_of : Df K mg "day_of" s_day_of []) (d_day_in : Df K mg "day_in" s_day_in []) (d_month_in_year : Df K mg "month_in_year" s_month_in_year []) (d_held_in : Df K mg "held_in" s_held_in []) (d_carried : Df K mg "carried" s_carried []) (d_first_day : Df K mg "first_day" s_first_day []) (d_year_with : Df K mg "year_with" s_year_with []) (d_months_in : Df K mg "months_in" s_months_in []) (d_odd_number : Df K mg "odd_number" s_odd_number []) (d_odd_years : Df K mg "odd_years" s_odd_years []) (d_starts_together : Df K mg "starts_together" s_starts_together []) (d_common_multiple : Df K mg "common_multiple" s_common_multiple []) (d_whole_round : Df K mg "whole_round" s_whole_round []) (d_near_rounds : Df K mg "near_rounds" s_near_rounds []) (d_lack : Df K mg "lack" s_lack []) (d_nearest_months : Df K mg "nearest_months" s_nearest_months []) (d_odd_sign : Df K mg "odd_sign" s_odd_sign []) (d_feast_months : Df K mg "feast_months" s_feast_months []) (d_feast_days : Df K mg "feast_days" s_feast_days []) (d_l_draws : Df K mg "_law_draws" s_l_draws []) (d_l_next : Df K mg "_law_next" s_l_next []) (d_l_low : Df K mg "_law_low" s_l_low []) (d_l_plus : Df K mg "_law_plus" s_l_plus []) (d_l_by : Df K mg "_law_by" s_l_by []) (d_l_part : Df K mg "_law_part" s_l_part []) (d_l_moment : Df K mg "_law_moment" s_l_moment []) (d_l_four : Df K mg "_law_four" s_l_four []) (d_l_day : Df K mg "_law_day" s_l_day []) (d_l_made : Df K mg "_law_made" s_l_made []) (d_l_down : Df K mg "_law_down" s_l_down []) (d_l_within : Df K mg "_law_within" s_l_within []) (d_l_fits : Df K mg "_law_fits" s_l_fits []) (d_l_shifted : Df K mg "_law_shifted" s_l_shifted []) (d_l_days_right : Df K mg "_law_days_right" s_l_days_right []) (d_law : Df K mg "law" s_law []) :
    ∃ (cs : List (Addr × Addr)) (fd : FuncData), (∀ p ∈ cs, (∃ y ∈ (["_law_years_right"] : List Str), PySem.W.tabIn K y = some p) ∧ K.lookup p.2 = none) ∧ (∀ (s : Shared) (u : Value), BindsTo s fd ⟨[u], []⟩ [("_law_script", u)]) ∧
      ∀ base : Heap, K.In base → base.Ns mainGlobals mg → (∀ p ∈ cs, LamX.TabB base mg p.1 p.2) → FnOk P w K mg base CX0 15 fa fd ["_law_script"] (spLawC K cs) := by
  have main : ∀ base : Heap, (∀ p ∈ [(c1, P1)], LamX.TabB base mg p.1 p.2) → Ca P w K mg base CX0 15 "law" s_law [] ["_law_script"] (spLawC K [(c1, P1)]) := fun base tb => ?_
  · obtain ⟨fd, hb, hF⟩ := fin_ofT hfa d_law b_law main
    refine ⟨_, fd, fun p hp => ?_, hb, hF⟩
    simp only [List.mem_cons, List.not_mem_nil, or_false] at hp
    rw [hp]
    exact ⟨⟨_, List.mem_singleton.mpr rfl, t1⟩, u1⟩
  have T : ShX K C := ⟨⟨cl, nT, nB⟩, fun H a dx fs e => .base (.ins e cl ha hn htk hm), kit_no iC tC rfl sI⟩
  have marks : ∃ t, mg "MARKS" = some (.int 12 t) := by
    obtain ⟨t, e⟩ := rM
    exact ⟨t, by rw [aM, e]⟩
  have Tc : CaT K C Cc := ⟨clc, n1, n2, n3, n4, ne⟩
  have f1 := ok_gcd (P := P) (w := w) (base := base) d_common_divisor g_abs
  have f2 := ok_shI dShare T.toShT f1
  have f3 := ok_as d_as_share T g_isinstance hC f2
  have F : ShF P w K mg base C := { T := T, mkS := f2, asS := f3, plus := ok_plus d_plus T f3 f2, minus := ok_minus d_minus T f3 f2, times := ok_times d_times T f3 f2, over := ok_over d_over T f3 f2, before := ok_before d_before T f3, whole := ok_whole d_whole T f3, up := ok_rounded d_rounded_up T f3, marks := marks }
  have tw := ok_tw d_twelfth F
  have nth := ok_nth d_nth_day F
  have cal := ok_caI dCal Tc F (ok_unfit d_refuse_unfit F tw) (ok_moment d_moment_or_nought F)
  obtain ⟨tkM, hMk⟩ := id marks
  have lo := ok_low (P := P) (w := w) (base := base) d_l_low g_abs
  have nx := ok_next (P := P) (w := w) (base := base) d_l_next
  have dr := ok_draws (P := P) (w := w) (base := base) d_l_draws g_range
  have pl := ok_lplus d_l_plus lo
  have by' := ok_lby d_l_by lo
  have pt := ok_lpart d_l_part nx lo
  have mo := ok_lmom d_l_moment nx pt pl
  have fo := ok_lfour d_l_four nx pt pl by' mo
  have fr := ok_from d_first_from F
  have m1 := ok_start d_start Tc nth
  have m2 := ok_month_at d_month_at Tc fr
  have m3 := ok_mark_day d_mark_day Tc nth tw
  obtain ⟨tF, eF⟩ := rF
  have hF : mg "FIGURES" = some (.str FIG tF) := by rw [aF, eF]
  have nu := ok_num (P := P) (w := w) (base := base) d_numeral hF g_abs g_reversed
  have m4 := ok_month_with d_month_with Tc m2 m3
  have m5 := ok_mark_in d_mark_in Tc fr tw m1 m3
  have m6 := ok_name d_name_of m5 hMk
  have tyC : ∀ (H : Hp) (a dx : Addr) (fs : List (Str × V)), H a = some (.ins Cc dx fs) → TyX K H (.ref a) (.ref Cc) := fun H a dx fs e => .base (.ins e clc hac hn htk hmc)
  have tyY : ∀ (H : Hp) (a dx : Addr) (fs : List (Str × V)), H a = some (.ins Cy dx fs) → TyX K H (.ref a) (.ref Cy) := fun H a dx fs e => .base (.ins e cly hay hn htk hmy)
  have TX : CaX K C Cc := ⟨Tc, tyC⟩
  have Td : DaT K Cd := ⟨cld, e1, e2, e3, e4, fun H a dx fs e => .base (.ins e cld had hn htk hmd)⟩
  have dI := ok_daI (P := P) (w := w) (base := base) dDate Td
  have dE := ok_daE (P := P) (w := w) (base := base) dDateEq Td g_isinstance hDate
  have dof := ok_date_of d_date_of m2 m6 m1 dI
  have pm := ok_plain d_plain_month m4 hMk
  have om := ok_oddm d_odd_month pm m5
  have di := ok_dayin d_day_in m1
  have das := ok_daysof d_days_of m1
  have mof := ok_monthof d_month_of Td pm om hMk
  have dyo := ok_dayof d_day_of Td mof das di
  have miy := ok_miy d_month_in_year pm om
  have hel := ok_held d_held_in das g_min
  have lat := ok_later d_later Td dyo miy hel di dof
  have st := ok_steps (P := P) (w := w) (base := base) d_steps g_zip
  have lf := ok_len d_lengths_from st m1 g_range
  have sat := ok_sat d_stretch_at T.toShT st g_range g_tuple
  have srt := ok_stretches d_stretches T.toShT Tc sat g_range g_min g_sorted
  have YT : YrT K C Cc Cy := ⟨cly, y1, y2, y3, y4, y5, ey1, ey2⟩
  have fd := ok_fd d_first_day m1 pm
  have mi := ok_min d_months_in pm
  have on := ok_oddn (P := P) (w := w) (base := base) d_odd_number
  have os := ok_oddS (P := P) (w := w) (base := base) d_odd_sign
  have yI := ok_yrI dYear YT g_range m6 pm lf mi fd on
  have yE := ok_yrE (P := P) (w := w) (base := base) dyEq YT tyY g_isinstance hYe
  have yS := ok_yrS dyStr YT g_zip nu os
  have yw := ok_yw d_year_with m2 m6
  have stt := ok_stt d_starts_together g_range fd yw
  have car := ok_carN d_carried dyo dof
  have oy := ok_oy d_odd_years g_range hMk mi
  have sE := ok_shG (P := P) (w := w) (base := base) dEq T g_isinstance hC
  have lal := ok_la d_least_alike F
  have kf := ok_kf d_kept_form F Tc tw lal
  have cE := ok_caG dcEq T TX g_isinstance hCal sE kf
  have cmu := ok_cm d_common_multiple f1
  have wr := ok_wr d_whole_round T Tc cmu
  have nm := ok_nm (P := P) (w := w) (base := base) d_nearest_months T
  have lk := ok_lack d_lack Tc F.times F.minus
  have nr := ok_nrs d_near_rounds Tc F.over lk nm
  have Tf : FeT K Cf := ⟨clf, fe1, fe2, fe3, fe4⟩
  have feI := ok_feI (P := P) (w := w) (base := base) dFeast Tf
  have fmo := ok_fm d_feast_months Tf pm om miy
  have fds := ok_fds d_feast_days Tf di hel fmo
  have TS : SfT K Cs := ⟨cls, sh1, sh2⟩
  have tb1 : LamX.TabB base mg c1 P1 := tb (c1, P1) (List.mem_singleton.mpr rfl)
  have sI := ok_sfI (P := P) (w := w) (base := base) dShifted TS g_list
  have nY := ok_ny55 (kk := 2) dsNew TS fd (by decide)
  have ma := ok_lmade2 d_l_made f2 cal
  have dy := ok_lday d_l_day nx
  have dn := ok_ldown d_l_down lo
  have wi := ok_lwithin d_l_within pl by' pt dn
  have ft := ok_lfits (P := P) (w := w) (base := base) d_l_fits g_max g_abs
  have shf := ok_lshf d_l_shifted pl by' nx g_int wi ft
  have ldr := ok_ldr55 d_l_days_right Td NT m2 m4 m3 m6 m1 dof dE car lat
  have lyr := ok_lyr55 (T := [(P1, lamQ "_law_years_right")]) mk1 tb1 (List.mem_singleton.mpr rfl) (fun p hp _ => by rw [List.mem_singleton.mp hp]) YT NTy tyY g_range g_str yI yE yS feI fds sI nY oy stt
  refine ca_sub (ok_law d_law Td (fun H a dx fs e => T.ty H a dx fs e) tyC NTc dr nx fo ma dy g_range dof srt nr sE cE wr shf ldr lyr) fun vs H Q E hh => ?_
  obtain ⟨a, ns, e1, e2, e3, e4, e5⟩ := hh
  exact ⟨a, ns, e1, e2, e3, (fun p hp => by rw [List.mem_singleton.mp hp]; exact tabs_nil (e4 (c1, P1) (List.mem_singleton.mpr rfl))), e5⟩
end MM
open PySem PySem.W PyProof.Rows in
set_option maxRecDepth 100000 in
set_option maxHeartbeats 0 in
theorem PySem.Challenge.cw_meanmoon_k55_whole_alike_calendars_tell_holds : PySem.Challenge.rw_meanmoon_k55_whole_alike_calendars_tell.Holds := by
  w_on; o_law; k_head; (case hw => w_witness2)
  k_fill
  refine MM.walkT (l := PySem.Challenge.rw_meanmoon_k55_whole_alike_calendars_tell) ["_law_years_right"] rfl rfl ?hfd (fun w h Y => PySem.W.km_in_of Y) ?F
  case hfd => decide +kernel
  case F =>
    intro w mg fa h KX G hmg
    refine' MM.fin hmg
      ⟨?pg, ?hd, ?po, ?sa⟩ ?nT ?nB ?ha ?hn ?htk ?hm ?iC ?tC ?sI (PySem.W.mg_of KX G ?aC)
      (MM.di_mk (its := [_]) (PySem.W.mg_of KX G ?aC) ?s1 ?s2 ?s3 ?s4 ?s5 ?s6 ?s7 ?s8 ?s9 ?s0 (by decide))
      ⟨?pgc, ?hdc, ?poc, ?sac⟩ ?n1 ?n2 ?n3 ?n4 ?ne (PySem.W.mg_of KX G ?aM) ?rM
      (MM.di_mk (its := [_, _]) (PySem.W.mg_of KX G ?aD) ?c1 ?c2 ?c3 ?c4 ?c5 ?c6 ?c7 ?c8 ?c9 (.cons rfl (.cons rfl .nil)) (by decide))
      ⟨?pgd, ?hdd, ?pod, ?sad⟩ ?dy1 ?dy2 ?dy3 ?dy4 ?had ?hmd (PySem.W.mg_of KX G ?aE)
      (MM.di_mk (its := [_]) (PySem.W.mg_of KX G ?aE) ?t1 ?t2 ?t3 ?t4 ?t5 ?t6 ?t7 ?t8 ?t9 (.cons rfl .nil) (by decide))
      (MM.dm_mk ⟨?pgd, ?hdd, ?pod, ?sad⟩ ?aq ?iq ?lq ?cq ?kq)
      ⟨?pgy, ?hdy, ?poy, ?say⟩ ?yy1 ?yy2 ?yy3 ?yy4 ?yy5 ?ey1 ?ey2
      (MM.di_mk0 (PySem.W.mg_of KX G ?aY) ?w1 ?w2 ?w3 ?w4 ?w5 ?w6 ?w7)
      ⟨?pgf, ?hdf, ?pof, ?saf⟩ ?fy1 ?fy2 ?fy3 ?fy4
      (MM.di_mk (its := [_]) (PySem.W.mg_of KX G ?aFe) ?ft1 ?ft2 ?ft3 ?ft4 ?ft5 ?ft6 ?ft7 ?ft8 ?ft9 ?ft0 (by decide))
      ⟨?pgs, ?hds, ?pos, ?sas⟩ ?sh1 ?sh2
      (MM.di_mk0 (PySem.W.mg_of KX G ?aS) ?v1 ?v2 ?v3 ?v4 ?v5 ?v6 ?v7)
      (MM.dm_mk ⟨?pgc, ?hdc, ?poc, ?sac⟩ ?md_starta ?md_starti ?md_startl ?md_startc ?md_startk)
      (MM.dm_mk ⟨?pgc, ?hdc, ?poc, ?sac⟩ ?md_month_ata ?md_month_ati ?md_month_atl ?md_month_atc ?md_month_atk)
      (MM.dm_mk ⟨?pgc, ?hdc, ?poc, ?sac⟩ ?md_mark_daya ?md_mark_dayi ?md_mark_dayl ?md_mark_dayc ?md_mark_dayk)
      (MM.dm_mk ⟨?pgc, ?hdc, ?poc, ?sac⟩ ?md_month_witha ?md_month_withi ?md_month_withl ?md_month_withc ?md_month_withk)
      (MM.dm_mk ⟨?pgc, ?hdc, ?poc, ?sac⟩ ?md_mark_ina ?md_mark_ini ?md_mark_inl ?md_mark_inc ?md_mark_ink)
      (MM.dm_mk ⟨?pgc, ?hdc, ?poc, ?sac⟩ ?md_name_ofa ?md_name_ofi ?md_name_ofl ?md_name_ofc ?md_name_ofk)
      (MM.dm_mk ⟨?pg, ?hd, ?po, ?sa⟩ ?mdEqa ?mdEqi ?mdEql ?mdEqc ?mdEqk)
      (MM.dm_mk ⟨?pgc, ?hdc, ?poc, ?sac⟩ ?mdcEqa ?mdcEqi ?mdcEql ?mdcEqc ?mdcEqk)
      (MM.dm_mk ⟨?pgy, ?hdy, ?poy, ?say⟩ ?mdyEqa ?mdyEqi ?mdyEql ?mdyEqc ?mdyEqk)
      (MM.dm_mk ⟨?pgy, ?hdy, ?poy, ?say⟩ ?mdyStra ?mdyStri ?mdyStrl ?mdyStrc ?mdyStrk)
      (MM.dm_mk ⟨?pgs, ?hds, ?pos, ?sas⟩ ?mdsNewa ?mdsNewi ?mdsNewl ?mdsNewc ?mdsNewk)
      (MM.net_mk ?NT1 ?NT2)
      (MM.net_mk ?NTc1 ?NTc2)
      (MM.net_mk ?NTy1 ?NTy2)
      ?hac ?hmc (PySem.W.mg_of KX G ?aD)
      ?hay ?hmy (PySem.W.mg_of KX G ?aY)
      (PySem.W.mg_of KX G ?gl_FIGURES) ?gr_FIGURES
      (MM.tab_mk ?ma1 ?ml1 rfl ?mc1 ?mv1) ?mu1 (MM.df_mkC KX G ?ma1 ?ml1 ?mi1 ?mp1)
      (PySem.W.mg_none_of KX G ?z0)
      (PySem.W.mg_none_of KX G ?z1)
      (PySem.W.mg_none_of KX G ?z2)
      (PySem.W.mg_none_of KX G ?z3)
      (PySem.W.mg_none_of KX G ?z4)
      (PySem.W.mg_none_of KX G ?z5)
      (PySem.W.mg_none_of KX G ?z6)
      (PySem.W.mg_none_of KX G ?z7)
      (PySem.W.mg_none_of KX G ?z8)
      (PySem.W.mg_none_of KX G ?z9)
      (PySem.W.mg_none_of KX G ?z10)
      (PySem.W.mg_none_of KX G ?z11)
      (MM.df_mkD (its := [_]) KX G ?q1_numeral ?q2_numeral ?q3_numeral ?q4_numeral ?q5_numeral ?q6_numeral ?q7_numeral (by decide))
      (MM.df_mkD (its := [_, _, _]) KX G ?q1_later ?q2_later ?q3_later ?q4_later ?q5_later ?q6_later ?q7_later (by decide))
      (MM.df_mk KX G ?a_common_divisor ?l_common_divisor ?c_common_divisor ?k_common_divisor)
      (MM.df_mk KX G ?a_as_share ?l_as_share ?c_as_share ?k_as_share)
      (MM.df_mk KX G ?a_plus ?l_plus ?c_plus ?k_plus)
      (MM.df_mk KX G ?a_minus ?l_minus ?c_minus ?k_minus)
      (MM.df_mk KX G ?a_times ?l_times ?c_times ?k_times)
      (MM.df_mk KX G ?a_over ?l_over ?c_over ?k_over)
      (MM.df_mk KX G ?a_before ?l_before ?c_before ?k_before)
      (MM.df_mk KX G ?a_whole ?l_whole ?c_whole ?k_whole)
      (MM.df_mk KX G ?a_rounded_up ?l_rounded_up ?c_rounded_up ?k_rounded_up)
      (MM.df_mk KX G ?a_refuse_unfit ?l_refuse_unfit ?c_refuse_unfit ?k_refuse_unfit)
      (MM.df_mk KX G ?a_moment_or_nought ?l_moment_or_nought ?c_moment_or_nought ?k_moment_or_nought)
      (MM.df_mk KX G ?a_twelfth ?l_twelfth ?c_twelfth ?k_twelfth)
      (MM.df_mk KX G ?a_nth_day ?l_nth_day ?c_nth_day ?k_nth_day)
      (MM.df_mk KX G ?a_first_from ?l_first_from ?c_first_from ?k_first_from)
      (MM.df_mk KX G ?a_kept_form ?l_kept_form ?c_kept_form ?k_kept_form)
      (MM.df_mk KX G ?a_least_alike ?l_least_alike ?c_least_alike ?k_least_alike)
      (MM.df_mk KX G ?a_lengths_from ?l_lengths_from ?c_lengths_from ?k_lengths_from)
      (MM.df_mk KX G ?a_days_of ?l_days_of ?c_days_of ?k_days_of)
      (MM.df_mk KX G ?a_steps ?l_steps ?c_steps ?k_steps)
      (MM.df_mk KX G ?a_stretches ?l_stretches ?c_stretches ?k_stretches)
      (MM.df_mk KX G ?a_stretch_at ?l_stretch_at ?c_stretch_at ?k_stretch_at)
      (MM.df_mk KX G ?a_plain_month ?l_plain_month ?c_plain_month ?k_plain_month)
      (MM.df_mk KX G ?a_odd_month ?l_odd_month ?c_odd_month ?k_odd_month)
      (MM.df_mk KX G ?a_month_of ?l_month_of ?c_month_of ?k_month_of)
      (MM.df_mk KX G ?a_date_of ?l_date_of ?c_date_of ?k_date_of)
      (MM.df_mk KX G ?a_day_of ?l_day_of ?c_day_of ?k_day_of)
      (MM.df_mk KX G ?a_day_in ?l_day_in ?c_day_in ?k_day_in)
      (MM.df_mk KX G ?a_month_in_year ?l_month_in_year ?c_month_in_year ?k_month_in_year)
      (MM.df_mk KX G ?a_held_in ?l_held_in ?c_held_in ?k_held_in)
      (MM.df_mk KX G ?a_carried ?l_carried ?c_carried ?k_carried)
      (MM.df_mk KX G ?a_first_day ?l_first_day ?c_first_day ?k_first_day)
      (MM.df_mk KX G ?a_year_with ?l_year_with ?c_year_with ?k_year_with)
      (MM.df_mk KX G ?a_months_in ?l_months_in ?c_months_in ?k_months_in)
      (MM.df_mk KX G ?a_odd_number ?l_odd_number ?c_odd_number ?k_odd_number)
      (MM.df_mk KX G ?a_odd_years ?l_odd_years ?c_odd_years ?k_odd_years)
      (MM.df_mk KX G ?a_starts_together ?l_starts_together ?c_starts_together ?k_starts_together)
      (MM.df_mk KX G ?a_common_multiple ?l_common_multiple ?c_common_multiple ?k_common_multiple)
      (MM.df_mk KX G ?a_whole_round ?l_whole_round ?c_whole_round ?k_whole_round)
      (MM.df_mk KX G ?a_near_rounds ?l_near_rounds ?c_near_rounds ?k_near_rounds)
      (MM.df_mk KX G ?a_lack ?l_lack ?c_lack ?k_lack)
      (MM.df_mk KX G ?a_nearest_months ?l_nearest_months ?c_nearest_months ?k_nearest_months)
      (MM.df_mk KX G ?a_odd_sign ?l_odd_sign ?c_odd_sign ?k_odd_sign)
      (MM.df_mk KX G ?a_feast_months ?l_feast_months ?c_feast_months ?k_feast_months)
      (MM.df_mk KX G ?a_feast_days ?l_feast_days ?c_feast_days ?k_feast_days)
      (MM.df_mk KX G ?a_l_draws ?l_l_draws ?c_l_draws ?k_l_draws)
      (MM.df_mk KX G ?a_l_next ?l_l_next ?c_l_next ?k_l_next)
      (MM.df_mk KX G ?a_l_low ?l_l_low ?c_l_low ?k_l_low)
      (MM.df_mk KX G ?a_l_plus ?l_l_plus ?c_l_plus ?k_l_plus)
      (MM.df_mk KX G ?a_l_by ?l_l_by ?c_l_by ?k_l_by)
      (MM.df_mk KX G ?a_l_part ?l_l_part ?c_l_part ?k_l_part)
      (MM.df_mk KX G ?a_l_moment ?l_l_moment ?c_l_moment ?k_l_moment)
      (MM.df_mk KX G ?a_l_four ?l_l_four ?c_l_four ?k_l_four)
      (MM.df_mk KX G ?a_l_day ?l_l_day ?c_l_day ?k_l_day)
      (MM.df_mk KX G ?a_l_made ?l_l_made ?c_l_made ?k_l_made)
      (MM.df_mk KX G ?a_l_down ?l_l_down ?c_l_down ?k_l_down)
      (MM.df_mk KX G ?a_l_within ?l_l_within ?c_l_within ?k_l_within)
      (MM.df_mk KX G ?a_l_fits ?l_l_fits ?c_l_fits ?k_l_fits)
      (MM.df_mk KX G ?a_l_shifted ?l_l_shifted ?c_l_shifted ?k_l_shifted)
      (MM.df_mk KX G ?a_l_days_right ?l_l_days_right ?c_l_days_right ?k_l_days_right)
      (MM.df_mk KX G ?a_law ?l_law ?c_law ?k_law)
    (case aC => k_is)
    (case pg => k_is)
    (case hd => k_is)
    (case po => k_is)
    (case sa => k_is)
    (case nT => k_is)
    (case nB => k_is)
    (case ha => k_is)
    (case hn => k_is)
    (case htk => k_is)
    (case hm => k_is)
    (case iC => k_is)
    (case tC => k_is)
    (case sI => k_is)
    (case s1 => k_is)
    (case s2 => k_is)
    (case s3 => k_is)
    (case s4 => k_is)
    (case s5 => k_is)
    (case s6 => k_is)
    (case s7 => k_is)
    (case s8 => k_is)
    (case aD => k_is)
    (case pgc => k_is)
    (case hdc => k_is)
    (case poc => k_is)
    (case sac => k_is)
    (case n1 => k_is)
    (case n2 => k_is)
    (case n3 => k_is)
    (case n4 => k_is)
    (case aM => k_is)
    (case c1 => k_is)
    (case c2 => k_is)
    (case c3 => k_is)
    (case c4 => k_is)
    (case c5 => k_is)
    (case c6 => k_is)
    (case c7 => k_is)
    (case c8 => k_is)
    (case aE => k_is)
    (case pgd => k_is)
    (case hdd => k_is)
    (case pod => k_is)
    (case sad => k_is)
    (case dy1 => k_is)
    (case dy2 => k_is)
    (case dy3 => k_is)
    (case dy4 => k_is)
    (case had => k_is)
    (case hmd => k_is)
    (case t1 => k_is)
    (case t2 => k_is)
    (case t3 => k_is)
    (case t4 => k_is)
    (case t5 => k_is)
    (case t6 => k_is)
    (case t7 => k_is)
    (case t8 => k_is)
    (case aq => k_is)
    (case iq => k_is)
    (case lq => k_is)
    (case cq => k_is)
    (case kq => k_is)
    (case aY => k_is)
    (case pgy => k_is)
    (case hdy => k_is)
    (case poy => k_is)
    (case say => k_is)
    (case yy1 => k_is)
    (case yy2 => k_is)
    (case yy3 => k_is)
    (case yy4 => k_is)
    (case yy5 => k_is)
    (case w1 => k_is)
    (case w2 => k_is)
    (case w3 => k_is)
    (case w4 => k_is)
    (case w5 => k_is)
    (case w6 => k_is)
    (case w7 => k_is)
    (case aFe => k_is)
    (case pgf => k_is)
    (case hdf => k_is)
    (case pof => k_is)
    (case saf => k_is)
    (case fy1 => k_is)
    (case fy2 => k_is)
    (case fy3 => k_is)
    (case fy4 => k_is)
    (case ft1 => k_is)
    (case ft2 => k_is)
    (case ft3 => k_is)
    (case ft4 => k_is)
    (case ft5 => k_is)
    (case ft6 => k_is)
    (case ft7 => k_is)
    (case ft8 => k_is)
    (case aS => k_is)
    (case pgs => k_is)
    (case hds => k_is)
    (case pos => k_is)
    (case sas => k_is)
    (case sh1 => k_is)
    (case sh2 => k_is)
    (case v1 => k_is)
    (case v2 => k_is)
    (case v3 => k_is)
    (case v4 => k_is)
    (case v5 => k_is)
    (case v6 => k_is)
    (case v7 => k_is)
    (case md_starta => k_is)
    (case md_starti => k_is)
    (case md_startl => k_is)
    (case md_startc => k_is)
    (case md_startk => k_is)
    (case md_month_ata => k_is)
    (case md_month_ati => k_is)
    (case md_month_atl => k_is)
    (case md_month_atc => k_is)
    (case md_month_atk => k_is)
    (case md_mark_daya => k_is)
    (case md_mark_dayi => k_is)
    (case md_mark_dayl => k_is)
    (case md_mark_dayc => k_is)
    (case md_mark_dayk => k_is)
    (case md_month_witha => k_is)
    (case md_month_withi => k_is)
    (case md_month_withl => k_is)
    (case md_month_withc => k_is)
    (case md_month_withk => k_is)
    (case md_mark_ina => k_is)
    (case md_mark_ini => k_is)
    (case md_mark_inl => k_is)
    (case md_mark_inc => k_is)
    (case md_mark_ink => k_is)
    (case md_name_ofa => k_is)
    (case md_name_ofi => k_is)
    (case md_name_ofl => k_is)
    (case md_name_ofc => k_is)
    (case md_name_ofk => k_is)
    (case mdEqa => k_is)
    (case mdEqi => k_is)
    (case mdEql => k_is)
    (case mdEqc => k_is)
    (case mdEqk => k_is)
    (case mdcEqa => k_is)
    (case mdcEqi => k_is)
    (case mdcEql => k_is)
    (case mdcEqc => k_is)
    (case mdcEqk => k_is)
    (case mdyEqa => k_is)
    (case mdyEqi => k_is)
    (case mdyEql => k_is)
    (case mdyEqc => k_is)
    (case mdyEqk => k_is)
    (case mdyStra => k_is)
    (case mdyStri => k_is)
    (case mdyStrl => k_is)
    (case mdyStrc => k_is)
    (case mdyStrk => k_is)
    (case mdsNewa => k_is)
    (case mdsNewi => k_is)
    (case mdsNewl => k_is)
    (case mdsNewc => k_is)
    (case mdsNewk => k_is)
    (case NT1 => k_is)
    (case NT2 => k_is)
    (case NTc1 => k_is)
    (case NTc2 => k_is)
    (case NTy1 => k_is)
    (case NTy2 => k_is)
    (case hac => k_is)
    (case hmc => k_is)
    (case hay => k_is)
    (case hmy => k_is)
    (case gl_FIGURES => k_is)
    (case ma1 => k_is)
    (case ml1 => k_is)
    (case mc1 => k_is)
    (case mi1 => k_is)
    (case mp1 => k_is)
    (case z0 => k_is)
    (case z1 => k_is)
    (case z2 => k_is)
    (case z3 => k_is)
    (case z4 => k_is)
    (case z5 => k_is)
    (case z6 => k_is)
    (case z7 => k_is)
    (case z8 => k_is)
    (case z9 => k_is)
    (case z10 => k_is)
    (case z11 => k_is)
    (case q1_numeral => k_is)
    (case q2_numeral => k_is)
    (case q3_numeral => k_is)
    (case q4_numeral => k_is)
    (case q5_numeral => k_is)
    (case q1_later => k_is)
    (case q2_later => k_is)
    (case q3_later => k_is)
    (case q4_later => k_is)
    (case q5_later => k_is)
    (case a_common_divisor => k_is)
    (case l_common_divisor => k_is)
    (case c_common_divisor => k_is)
    (case k_common_divisor => k_is)
    (case a_as_share => k_is)
    (case l_as_share => k_is)
    (case c_as_share => k_is)
    (case k_as_share => k_is)
    (case a_plus => k_is)
    (case l_plus => k_is)
    (case c_plus => k_is)
    (case k_plus => k_is)
    (case a_minus => k_is)
    (case l_minus => k_is)
    (case c_minus => k_is)
    (case k_minus => k_is)
    (case a_times => k_is)
    (case l_times => k_is)
    (case c_times => k_is)
    (case k_times => k_is)
    (case a_over => k_is)
    (case l_over => k_is)
    (case c_over => k_is)
    (case k_over => k_is)
    (case a_before => k_is)
    (case l_before => k_is)
    (case c_before => k_is)
    (case k_before => k_is)
    (case a_whole => k_is)
    (case l_whole => k_is)
    (case c_whole => k_is)
    (case k_whole => k_is)
    (case a_rounded_up => k_is)
    (case l_rounded_up => k_is)
    (case c_rounded_up => k_is)
    (case k_rounded_up => k_is)
    (case a_refuse_unfit => k_is)
    (case l_refuse_unfit => k_is)
    (case c_refuse_unfit => k_is)
    (case k_refuse_unfit => k_is)
    (case a_moment_or_nought => k_is)
    (case l_moment_or_nought => k_is)
    (case c_moment_or_nought => k_is)
    (case k_moment_or_nought => k_is)
    (case a_twelfth => k_is)
    (case l_twelfth => k_is)
    (case c_twelfth => k_is)
    (case k_twelfth => k_is)
    (case a_nth_day => k_is)
    (case l_nth_day => k_is)
    (case c_nth_day => k_is)
    (case k_nth_day => k_is)
    (case a_first_from => k_is)
    (case l_first_from => k_is)
    (case c_first_from => k_is)
    (case k_first_from => k_is)
    (case a_kept_form => k_is)
    (case l_kept_form => k_is)
    (case c_kept_form => k_is)
    (case k_kept_form => k_is)
    (case a_least_alike => k_is)
    (case l_least_alike => k_is)
    (case c_least_alike => k_is)
    (case k_least_alike => k_is)
    (case a_lengths_from => k_is)
    (case l_lengths_from => k_is)
    (case c_lengths_from => k_is)
    (case k_lengths_from => k_is)
    (case a_days_of => k_is)
    (case l_days_of => k_is)
    (case c_days_of => k_is)
    (case k_days_of => k_is)
    (case a_steps => k_is)
    (case l_steps => k_is)
    (case c_steps => k_is)
    (case k_steps => k_is)
    (case a_stretches => k_is)
    (case l_stretches => k_is)
    (case c_stretches => k_is)
    (case k_stretches => k_is)
    (case a_stretch_at => k_is)
    (case l_stretch_at => k_is)
    (case c_stretch_at => k_is)
    (case k_stretch_at => k_is)
    (case a_plain_month => k_is)
    (case l_plain_month => k_is)
    (case c_plain_month => k_is)
    (case k_plain_month => k_is)
    (case a_odd_month => k_is)
    (case l_odd_month => k_is)
    (case c_odd_month => k_is)
    (case k_odd_month => k_is)
    (case a_month_of => k_is)
    (case l_month_of => k_is)
    (case c_month_of => k_is)
    (case k_month_of => k_is)
    (case a_date_of => k_is)
    (case l_date_of => k_is)
    (case c_date_of => k_is)
    (case k_date_of => k_is)
    (case a_day_of => k_is)
    (case l_day_of => k_is)
    (case c_day_of => k_is)
    (case k_day_of => k_is)
    (case a_day_in => k_is)
    (case l_day_in => k_is)
    (case c_day_in => k_is)
    (case k_day_in => k_is)
    (case a_month_in_year => k_is)
    (case l_month_in_year => k_is)
    (case c_month_in_year => k_is)
    (case k_month_in_year => k_is)
    (case a_held_in => k_is)
    (case l_held_in => k_is)
    (case c_held_in => k_is)
    (case k_held_in => k_is)
    (case a_carried => k_is)
    (case l_carried => k_is)
    (case c_carried => k_is)
    (case k_carried => k_is)
    (case a_first_day => k_is)
    (case l_first_day => k_is)
    (case c_first_day => k_is)
    (case k_first_day => k_is)
    (case a_year_with => k_is)
    (case l_year_with => k_is)
    (case c_year_with => k_is)
    (case k_year_with => k_is)
    (case a_months_in => k_is)
    (case l_months_in => k_is)
    (case c_months_in => k_is)
    (case k_months_in => k_is)
    (case a_odd_number => k_is)
    (case l_odd_number => k_is)
    (case c_odd_number => k_is)
    (case k_odd_number => k_is)
    (case a_odd_years => k_is)
    (case l_odd_years => k_is)
    (case c_odd_years => k_is)
    (case k_odd_years => k_is)
    (case a_starts_together => k_is)
    (case l_starts_together => k_is)
    (case c_starts_together => k_is)
    (case k_starts_together => k_is)
    (case a_common_multiple => k_is)
    (case l_common_multiple => k_is)
    (case c_common_multiple => k_is)
    (case k_common_multiple => k_is)
    (case a_whole_round => k_is)
    (case l_whole_round => k_is)
    (case c_whole_round => k_is)
    (case k_whole_round => k_is)
    (case a_near_rounds => k_is)
    (case l_near_rounds => k_is)
    (case c_near_rounds => k_is)
    (case k_near_rounds => k_is)
    (case a_lack => k_is)
    (case l_lack => k_is)
    (case c_lack => k_is)
    (case k_lack => k_is)
    (case a_nearest_months => k_is)
    (case l_nearest_months => k_is)
    (case c_nearest_months => k_is)
    (case k_nearest_months => k_is)
    (case a_odd_sign => k_is)
    (case l_odd_sign => k_is)
    (case c_odd_sign => k_is)
    (case k_odd_sign => k_is)
    (case a_feast_months => k_is)
    (case l_feast_months => k_is)
    (case c_feast_months => k_is)
    (case k_feast_months => k_is)
    (case a_feast_days => k_is)
    (case l_feast_days => k_is)
    (case c_feast_days => k_is)
    (case k_feast_days => k_is)
    (case a_l_draws => k_is)
    (case l_l_draws => k_is)
    (case c_l_draws => k_is)
    (case k_l_draws => k_is)
    (case a_l_next => k_is)
    (case l_l_next => k_is)
    (case c_l_next => k_is)
    (case k_l_next => k_is)
    (case a_l_low => k_is)
    (case l_l_low => k_is)
    (case c_l_low => k_is)
    (case k_l_low => k_is)
    (case a_l_plus => k_is)
    (case l_l_plus => k_is)
    (case c_l_plus => k_is)
    (case k_l_plus => k_is)
    (case a_l_by => k_is)
    (case l_l_by => k_is)
    (case c_l_by => k_is)
    (case k_l_by => k_is)
    (case a_l_part => k_is)
    (case l_l_part => k_is)
    (case c_l_part => k_is)
    (case k_l_part => k_is)
    (case a_l_moment => k_is)
    (case l_l_moment => k_is)
    (case c_l_moment => k_is)
    (case k_l_moment => k_is)
    (case a_l_four => k_is)
    (case l_l_four => k_is)
    (case c_l_four => k_is)
    (case k_l_four => k_is)
    (case a_l_day => k_is)
    (case l_l_day => k_is)
    (case c_l_day => k_is)
    (case k_l_day => k_is)
    (case a_l_made => k_is)
    (case l_l_made => k_is)
    (case c_l_made => k_is)
    (case k_l_made => k_is)
    (case a_l_down => k_is)
    (case l_l_down => k_is)
    (case c_l_down => k_is)
    (case k_l_down => k_is)
    (case a_l_within => k_is)
    (case l_l_within => k_is)
    (case c_l_within => k_is)
    (case k_l_within => k_is)
    (case a_l_fits => k_is)
    (case l_l_fits => k_is)
    (case c_l_fits => k_is)
    (case k_l_fits => k_is)
    (case a_l_shifted => k_is)
    (case l_l_shifted => k_is)
    (case c_l_shifted => k_is)
    (case k_l_shifted => k_is)
    (case a_l_days_right => k_is)
    (case l_l_days_right => k_is)
    (case c_l_days_right => k_is)
    (case k_l_days_right => k_is)
    (case a_law => k_is)
    (case l_law => k_is)
    (case c_law => k_is)
    (case k_law => k_is)
    (case s9 => rfl)
    (case s0 => exact .cons ⟨_, rfl⟩ .nil)
    (case ne => decide)
    (case rM => exact ⟨_, rfl⟩)
    (case c9 => rfl)
    (case t9 => rfl)
    (case ey1 => decide)
    (case ey2 => decide)
    (case ft9 => rfl)
    (case ft0 => exact .cons ⟨_, rfl⟩ .nil)
    (case gr_FIGURES => exact ⟨_, rfl⟩)
    (case mv1 => rfl)
    (case mu1 => first | rfl | exact MM.lk_none _ rfl (by decide +kernel))
    (case q6_numeral => rfl)
    (case q7_numeral => exact (.cons ⟨_, rfl⟩ .nil))
    (case q6_later => rfl)
    (case q7_later => exact (.cons ⟨_, rfl⟩ (.cons ⟨_, rfl⟩ (.cons ⟨_, rfl⟩ .nil))))
#print axioms PySem.Challenge.cw_meanmoon_k55_whole_alike_calendars_tell_holds
